import PyProof.Rows.All
import Wide.All
import OpenK.AllK
import Wide.FinOn
import HandS.ForMost
import HandS.Wide
import HandS.Style
import HandS.Zip
import HandS.MakeKwOnly
import HandS.MakeKw
import HandS.Walk
import HandS.TupAny
import HandS.WideBits
import HandS.IsInst
import KE.GoesMore
import KE.GoesZip
import HandS.Conv
import HandS.TupMul
import KE.KRevSl
import HandS.Strs
import HandS.Star
import HandS.Codes
import PyProof.Draws
import HandS.Iter
import HandS.SetFor
import HandS.List
import PySem.Challenge.RW_whateverboxes_k04_kernels
import PySem.Challenge.RW_whateverboxes_k04_kernels
set_option Elab.async false
set_option linter.all false
set_option maxRecDepth 100000
set_option maxHeartbeats 4000000
namespace GL
open PySem PySem.Spec PyProof.Rows L2

/-- nothing that guards itself against its own turn is under way -/
def Calm (A : Around) : Prop := A.guards = some []
theorem Calm.deeper {A : Around} (g : Calm A) (env : Env) : Calm (A.deeper env) := g
theorem Calm.make {A : Around} (g : Calm A) (C : Addr) (us : List Value) (kw : List (Str × Value)) : Calm (A.under (.builtin "type.__call__" ⟨.ref C :: us, kw⟩)) := by
  unfold Calm at *
  simp only [Around.under, Code.guards, Code.isGuard, guardIds]
  first | exact g | (rw [g]; rfl) | (simp [g])

/-- a def keeps its promise wherever no guard is under way -/
structure FnG (P : Program) (w : World) (K : PySem.W.Frag) (mg : Str → Option Value) (base : Heap) (CX : CXT) (k : Nat) (f : Addr) (fd : FuncData) (ps : List Str) (sp : Sp) : Prop where
  len : ∀ vs H Q E, sp vs H Q E → vs.length = ps.length
  run : ∀ (A : Around) (outer : List Env) (s : Shared) (H : Hp) (args : Args) (us : List Value) (vs : List V) (Q : VK) (E : XK),
    Room k A → Calm A → Env0 P w K mg base A outer s H → BindsTo s fd args (ps.zip us) → Vals vs us → sp vs H Q E →
    codeAny (model P w) A (.call (.ref f) args) (CR CX outer P w H s Q E) s
section
variable {P : Program} {w : World} {K : PySem.W.Frag} {mg : Str → Option Value} {base : Heap} {CX : CXT} {j k : Nat} {f : Addr} {fd : FuncData} {ps : List Str} {sp sp' : Sp}
theorem FnG.up (F : FnG P w K mg base CX j f fd ps sp) (h : j ≤ k) : FnG P w K mg base CX k f fd ps sp where
  len := F.len
  run := fun A outer s H args us vs Q E r g => F.run A outer s H args us vs Q E (r.mono h) g
theorem FnG.of (F : FnOk P w K mg base CX k f fd ps sp) : FnG P w K mg base CX k f fd ps sp where
  len := F.len
  run := fun A outer s H args us vs Q E r _ => F.run A outer s H args us vs Q E r
end

/-! what is known of a def of the text by its callers -/
structure DefG (P : Program) (w : World) (K : PySem.W.Frag) (mg : Str → Option Value) (base : Heap) (k : Nat) (x : Str) (ps : List Str) (sp : Sp) : Prop where
  ex : ∃ (f : Addr) (fd : FuncData), FnG P w K mg base CX0 k f fd ps sp ∧ mg x = some (.ref f) ∧ PySem.W.keepIn K (.ref f) = true ∧ Binds K fd ps []

section
variable {X : Cx} {CX : CXT} {k n : Nat} {f C : Addr} {fd : FuncData} {ps ks : List Str} {sp : Sp} {dvs : List V} {ds : List Value} {E : XK} {x m : Str} {p pos apos : Pos} {e o : Expr} {es : List Expr} {ta : TE} {t tk : TA} {kws : List Keyword}
variable {g : List Value → List Value → List Value} {gV : List V → List V → List V}

theorem out_of {pins : List (Addr × Obj)} {σ : L2.St} {H : Hp} {s : Shared} {Q : VK} (hx : Passes CX X E) (I : Inv X pins σ H s) :
    ∀ (r : Result) (s' : Shared), CR CX X.stack X.prog X.w H s Q E r s' → (match r with | .ok (.ret u) => EP X pins σ Q u s' | .ok _ => False | .error e => X.xe e s')
  | .error e, s', q => hx pins σ H s e s' I q
  | .ok (.ret _), _, q => I.after q
  | .ok .next, _, q => q
  | .ok .brk, _, q => q
  | .ok .cont, _, q => q

theorem runG {pins : List (Addr × Obj)} {σ : L2.St} {H : Hp} {s : Shared} {Q : VK} {us : List Value} {vs : List V} (F : FnG X.prog X.w X.K X.mg X.base CX k f fd ps sp) (hr : Room k X.A) (hc : Calm X.A)
    (hb : Binds X.K fd ps ds) (hd : Vals dvs ds) (hx : Passes CX X E) (I : Inv X pins σ H s) (r : Vals vs us) (h : sp (vs ++ dvs) H Q E) :
    wpAny (model X.prog X.w) X.A (call (.ref f) us) (EP X pins σ Q) X.xe s := by
  have both : Vals (vs ++ dvs) (us ++ ds) := Vals.append r hd
  have long : (us ++ ds).length = ps.length := both.length.symm.trans (F.len _ _ _ _ h)
  have go := F.run X.A X.stack s H ⟨us, []⟩ (us ++ ds) (vs ++ dvs) Q E hr hc I.env0 (hb s us I.kIn long) both h
  refine wpAny_call (codeAny_mono go fun r' s' q => ?_)
  have z := out_of hx I r' s' q
  match r', z with
  | .error _, z => exact z
  | .ok (.ret _), z => exact z

theorem pe_def (D : DefG X.prog X.w X.K X.mg X.base k x ps sp) (hr : Room k X.A) (hc : Calm X.A) (hg : Gl X x) (ha : PA X (e :: es) t) (hdb : (x == ("__debug__" : Str)) = false := by decide)
    (he : starEach (e :: es) X.env = (false, eval e X.env) :: starEach es X.env := by rfl) (hpl : (backTo pos (starEach es X.env)).any (·.1) = false := by rfl) :
    PE X (.Call (.Name x p) (e :: es) [] pos) (tCall sp [] E0 t) := by
  obtain ⟨f, fd, F, hm, hk, hb⟩ := D.ex
  exact ⟨fun pins s σ H Q I h => wpAny_Call_Name_kw (ld_glob I hg hm (PySem.W.callWith_K (h₀ := X.base) I.ok.mod.kin hk
    (thn (ha.run pos pins s σ H _ I h) fun us s1 ⟨vs, H1, I1, r, q⟩ => ⟨I1.kIn, runG F hr hc hb .nil pass0 I1 r q⟩) he hpl) hdb)⟩

/-- a method with positional arguments -/
theorem pe_methG {pl : Sem Bool} (he : PE X o ta) (c : Cls X.K C) (hm : Meth X.K C m f) (F : FnG X.prog X.w X.K X.mg X.base CX k f fd ps sp) (hr : Room k X.A) (hc : Calm X.A) (hb : Binds X.K fd ps ds) (hd : Vals dvs ds) (hx : Passes CX X E)
    (ha : PA X (e :: es) t) (hst : starEach (e :: es) X.env = (false, eval e X.env) :: starEach es X.env := by rfl) (hpl : (backTo pos (starEach es X.env)).any (·.1) = false := by rfl)
    (ht : eval (.Call (.Attribute o m apos) (e :: es) [] pos) X.env = (eval o X.env >>= fun ov => standAt apos.atName >>= fun _ => holding [ov] (getMethod ov m pl) >>= fun fx =>
      callWith pos fx.1 fx.2 (backTo pos (starEach (e :: es) X.env)) (backToKw pos (keywordEach [] X.env))) := by rfl) :
    PE X (.Call (.Attribute o m apos) (e :: es) [] pos) (tMeth C m sp dvs E ta t) := by
  constructor
  intro pins s σ H Q I h
  refine PySem.W.methodCall_KW (pl := pl) (thn (he.run pins s σ H _ I h) ?_) ht
  rintro u s1 ⟨_, H1, I1, rx, a, dx, fs, rfl, ea, l, q⟩
  obtain rfl : u = .ref a := rx
  refine getmeth_ok I1 ea c hm l (PySem.W.callWith_K (first := [.ref a]) (h₀ := X.base) I.ok.mod.kin hm.kp (thn (ha.run pos pins s1 σ H1 _ I1 q) ?_) hst hpl)
  rintro us s2 ⟨vs, H2, I2, r, q2⟩
  exact ⟨I2.kIn, runG (us := .ref a :: us) (vs := .ref a :: vs) F hr hc hb hd hx I2 (.cons rfl r) q2⟩

/-- how keywords alone bind behind a receiver -/
def tMethK (C : Addr) (m : Str) (sp : Sp) (n : Nat) (gV : List V → List V → List V) (E : XK) (ta : TE) (tk : TA) : TE := fun σ H Q => ta σ H fun x H1 => ∃ a dx fs, x = .ref a ∧ H1 a = some (.ins C dx fs) ∧ fs.lookup m = none ∧
  tk σ H1 fun zs H2 => zs.length = n ∧ sp (gV [x] zs) H2 Q E
theorem runKG {pins : List (Addr × Obj)} {σ : L2.St} {H : Hp} {s : Shared} {Q : VK} {us ws : List Value} {vs zs : List V} (F : FnG X.prog X.w X.K X.mg X.base CX k f fd ps sp) (hr : Room k X.A) (hc : Calm X.A) (hb : KBn X.K fd ps n ks g gV) (hx : Passes CX X E)
    (I : Inv X pins σ H s) (r : Vals vs us) (rz : Vals zs ws) (l1 : vs.length = n) (l2 : zs.length = ks.length) (h : sp (gV vs zs) H Q E) :
    wpAny (model X.prog X.w) X.A (call (.ref f) us (ks.zip ws)) (EP X pins σ Q) X.xe s := by
  have go := F.run X.A X.stack s H ⟨us, ks.zip ws⟩ (g us ws) (gV vs zs) Q E hr hc I.env0 (hb.to s us ws I.kIn (r.length.symm.trans l1) (rz.length.symm.trans l2)) (hb.rel r rz) h
  refine wpAny_call (codeAny_mono go fun r' s' q => ?_)
  have z := out_of hx I r' s' q
  match r', z with
  | .error _, z => exact z
  | .ok (.ret _), z => exact z
theorem pe_methKG {pl : Sem Bool} (he : PE X o ta) (c : Cls X.K C) (hm : Meth X.K C m f) (F : FnG X.prog X.w X.K X.mg X.base CX k f fd ps sp) (hr : Room k X.A) (hc : Calm X.A) (hb : KBn X.K fd ps 1 ks g gV) (hx : Passes CX X E)
    (hkw : PK X kws tk) (hall : (backToKw pos (keywordEach kws X.env)).all (·.1.isSome) = true := by rfl) (hks : (backToKw pos (keywordEach kws X.env)).filterMap (·.1) = ks := by rfl)
    (hpl : ((backTo pos (starEach [] X.env)).any (·.1) || (backToKw pos (keywordEach kws X.env)).any (·.1.isNone)) = false := by rfl)
    (ht : eval (.Call (.Attribute o m apos) [] kws pos) X.env = (eval o X.env >>= fun ov => standAt apos.atName >>= fun _ => holding [ov] (getMethod ov m pl) >>= fun fx =>
      callWith pos fx.1 fx.2 (backTo pos (starEach [] X.env)) (backToKw pos (keywordEach kws X.env))) := by rfl) :
    PE X (.Call (.Attribute o m apos) [] kws pos) (tMethK C m sp ks.length gV E ta tk) := by
  constructor
  intro pins s σ H Q I h
  refine PySem.W.methodCall_KW (pl := pl) (thn (he.run pins s σ H _ I h) ?_) ht
  rintro u s1 ⟨_, H1, I1, rx, a, dx, fs, rfl, ea, l, q⟩
  obtain rfl : u = .ref a := rx
  refine getmeth_ok I1 ea c hm l (PySem.W.callWith_KW0 (first := [.ref a]) (h₀ := X.base) I.ok.mod.kin hm.kp hall (thn (hkw.run pos pins s1 σ H1 _ I1 q) ?_) hpl)
  rintro ws s2 ⟨zs, H2, I2, rz, l2, q2⟩
  refine ⟨I2.kIn, ?_⟩
  rw [hks]
  exact runKG (us := [.ref a]) (vs := [.ref a]) F hr hc hb hx I2 (.cons rfl .nil) rz rfl l2 q2

/-- a new instance, then its __init__ with what binds -/
theorem makeG {pins : List (Addr × Obj)} {σ : L2.St} {H : Hp} {s : Shared} {Q : VK} {us : List Value} {kw : List (Str × Value)} {all : List Value} {av : Addr → List V} (M : Mk X.K C f) (F : FnG X.prog X.w X.K X.mg X.base CX k f fd ps sp) (hr : Room (k + 1) X.A) (hc : Calm X.A)
    (hx : Passes CX X E) (I : Inv X pins σ H s)
    (hb : ∀ s' : Shared, X.K.In s'.heap → BindsTo s' fd ⟨.ref (s.heap.objs.size + 1) :: us, kw⟩ (ps.zip all)) (r : Vals (av (s.heap.objs.size + 1)) all)
    (h : ∀ x dx, H x = none → H dx = none → dx ≠ x → sp (av x) (upd (upd H dx (.own x)) x (.ins C dx [])) (fun v H2 => v = .non ∧ Q (.ref x) H2) E) :
    wpAny (model X.prog X.w) X.A (call (.ref C) us kw) (EP X pins σ Q) X.xe s := by
  have q0 := h (s.heap.objs.size + 1) s.heap.objs.size (I.hok.fresh (Nat.le_succ _)) (I.hok.fresh (Nat.le_refl _)) (Nat.ne_of_lt (Nat.lt_succ_self _))
  have J := Inv.made (C := C) I
  have go := F.run _ X.stack _ _ ⟨Value.ref (s.heap.objs.size + 1) :: us, kw⟩ all _ _ E (hr.make C us kw) (hc.make C us kw) (J.env0.make C us kw) (hb _ J.kIn) r q0
  refine wpAny_call (make_map (f := f) I.kIn M.makes M.init (beq_iff_eq.mp M.fn) (codeAny_mono go fun r' s' q => ?_))
  match r', q with
  | .error e, q => exact hx pins σ _ _ e s' J q
  | .ok (.ret u), q =>
    obtain ⟨v, H', I3, rv, ev, q3⟩ := J.after q
    cases ev
    exact ⟨rv, ⟨V.ref (s.heap.objs.size + 1), H', I3, rfl, q3⟩⟩
theorem pe_makeG (M : Mk X.K C f) (F : FnG X.prog X.w X.K X.mg X.base CX k f fd ps sp) (hr : Room (k + 1) X.A) (hc : Calm X.A) (hg : Gl X x) (hm : X.mg x = some (.ref C)) (hb : Binds X.K fd ps ds) (hd : Vals dvs ds) (hx : Passes CX X E)
    (ha : PA X (e :: es) t) (hdb : (x == ("__debug__" : Str)) = false := by decide) (he : starEach (e :: es) X.env = (false, eval e X.env) :: starEach es X.env := by rfl) (hpl : (backTo pos (starEach es X.env)).any (·.1) = false := by rfl) :
    PE X (.Call (.Name x p) (e :: es) [] pos) (tMake C sp dvs E t) := by
  constructor
  intro pins s σ H Q I h
  refine wpAny_Call_Name_kw (ld_glob I hg hm (PySem.W.callWith_K (h₀ := X.base) I.ok.mod.kin M.kp (thn (ha.run pos pins s σ H _ I h) ?_) he hpl) hdb)
  rintro us s1 ⟨vs, H1, I1, r, q⟩
  have r2 : Vals (V.ref (s1.heap.objs.size + 1) :: (vs ++ dvs)) (Value.ref (s1.heap.objs.size + 1) :: (us ++ ds)) := .cons rfl (Vals.append r hd)
  have q0 := q (s1.heap.objs.size + 1) s1.heap.objs.size (I1.hok.fresh (Nat.le_succ _)) (I1.hok.fresh (Nat.le_refl _)) (Nat.ne_of_lt (Nat.lt_succ_self _))
  exact ⟨I1.kIn, makeG (av := fun x => .ref x :: (vs ++ dvs)) M F hr hc hx I1 (fun s' X' => hb s' (Value.ref (s1.heap.objs.size + 1) :: us) X' (r2.length.symm.trans (F.len _ _ _ _ q0))) r2 q⟩
theorem pe_makeKG0 (M : Mk X.K C f) (F : FnG X.prog X.w X.K X.mg X.base CX k f fd ps sp) (hr : Room (k + 1) X.A) (hc : Calm X.A) (hg : Gl X x) (hm : X.mg x = some (.ref C)) (hb : KBn X.K fd ps 1 ks g gV) (hx : Passes CX X E) (hkw : PK X kws tk)
    (hall : (backToKw pos (keywordEach kws X.env)).all (·.1.isSome) = true := by rfl) (hks : (backToKw pos (keywordEach kws X.env)).filterMap (·.1) = ks := by rfl) (hdb : (x == ("__debug__" : Str)) = false := by decide)
    (hpl : ((backTo pos (starEach [] X.env)).any (·.1) || (backToKw pos (keywordEach kws X.env)).any (·.1.isNone)) = false := by rfl) :
    PE X (.Call (.Name x p) [] kws pos) (tMakeK C 0 ks.length sp gV E tNil tk) := by
  constructor
  intro pins s σ H Q I h
  refine wpAny_Call_Name_kw (ld_glob I hg hm (PySem.W.callWith_KW0 (h₀ := X.base) I.ok.mod.kin M.kp hall (thn (hkw.run pos pins s σ H _ I h) ?_) hpl) hdb)
  rintro ws s2 ⟨zs, H2, I2, rz, _, l2, q2⟩
  refine ⟨I2.kIn, ?_⟩
  rw [hks]
  exact makeG (av := fun x => gV [.ref x] zs) M F hr hc hx I2 (fun s' X' => hb.to s' [Value.ref (s2.heap.objs.size + 1)] ws X' rfl (rz.length.symm.trans l2)) (hb.rel (.cons rfl .nil) rz) q2

/-- repr of what reads as data -/
theorem call_reprD (hc : Calm X.A) (hu : X.A.units + 100 < cLine) : CallR X (.builtin "repr") (fun xs H Q => ∃ (a : Addr) (d : PyData), xs = [.ref a] ∧ Dp X.K H (.ref a) d ∧ d.showable = true ∧ d.hasDict = false ∧ d.depth ≤ 64 ∧ d.shown.length ≤ sizeLine ∧ Q (.str d.shown) H) := by
  intro pins s σ H xs us Q I r h
  obtain ⟨a, d, rfl, hd, hs, hn, hdp, hz, q⟩ := h
  obtain ⟨as, rd⟩ := Dp.reads I d (.ref a) (.ref a) hd rfl
  rw [Vals.ref1 r]
  exact repr_of_reads' rd hs (PyData.noDict_hsm hn) hc (by omega) (fun _ _ e => e) (fun h' u tk hk => ⟨.str _, H, I.kept hk, ⟨_, rfl⟩, q⟩) hz
end

section
variable {P : Program} {w : World} {K : PySem.W.Frag} {mg : Str → Option Value} {base : Heap}
/-- a def's promise, by its body: whatever its defaults -/
theorem okR {x qual : Str} {params : Arguments} {body : List Stmt} {scope : Scope} {dV kV doc pm cdv ct oc : Value} {an od : Option Addr} {osl : Array (Option Value)} {f : Addr} {N ps : List Str} {k : Nat} {sp : Sp}
    (lk : K.lookup f = some ⟨oc, od, .func (PySem.W.fnOf x qual params body scope dV kV doc pm an cdv ct), osl⟩) (code : PySem.W.codeIn K cdv qual = true) (S : FnScope N ps scope) (len : ∀ vs H Q E, sp vs H Q E → vs.length = ps.length)
    (walk : ∀ (cdv : Value) (A : Around) (outer : List Env) (s : Shared) (H : Hp) (vs : List V) (Q : VK) (E : XK), Room k (A.deeper (envOfC qual scope s.heap.objs.size f cdv)) → Calm (A.deeper (envOfC qual scope s.heap.objs.size f cdv)) → sp vs H Q E →
      ∃ t, PSs (cxOf CX0 P w K mg base N qual scope f cdv A outer s H E).nox body t ∧ t { nx := fun _ H' => Q .non H', rt := Q } (start N vs) H) : FnG P w K mg base CX0 (k + 1) f (PySem.W.fnOf x qual params body scope dV kV doc pm an cdv ct) ps sp := by
  refine ⟨len, ?_⟩
  intro A outer s H args us vs Q E room calm e0 bnd rel want
  have long := len _ _ _ _ want
  have up : ∀ b o, base.get? b = some o → s.heap.get? b = some o := fun b o e => (e0.bs b o e).1
  have kin : K.In s.heap := e0.mod.kin.keeps up
  have lim : s.heap.NoLimit := e0.mod.nolimit.keeps up
  have kinds : ∀ y ∈ ps.zip us, scope.names.lookup y.1 = some .local ∨ (scope.names.lookup y.1 = some .cell ∧ ((cellsFrom (s.heap.objs.size + 1) scope.names []).lookup y.1).isSome = true) := by
    rintro ⟨n, v⟩ hy
    exact (S.par n (List.of_mem_zip hy).1).imp id fun q => ⟨q, PySem.W.cellsFrom_some _ _ _ (.inl q)⟩
  refine codeAny_call_function room.depth (kin _ _ lk) rfl S.co S.gen rfl (PySem.W.codeRec_of kin code) (bnd _ _ _ _ (wpAny_newFunctionEnv_cells S.kind kinds ?_))
  rintro env rfl s1 x
  obtain ⟨t, deriv, reads⟩ := walk cdv A outer s H vs Q E (room.deeper _) (calm.deeper _) want
  have I : Inv (cxOf CX0 P w K mg base N qual scope f cdv A outer s H E) [] (start N vs) H s1 := inv_start S room.hd e0 long rel x
  refine ⟨lim.keeps x.toInCall.keep, codeAny_func (wpAny_mono (deriv.nox.run [] s1 (start N vs) H _ I reads) ?_ fun _ _ z => z)⟩
  intro fl s' hs
  match fl, hs with
  | .ret u, ⟨v, _, H', J, rv, q⟩ => exact ⟨v, H', J.os, J.bare, J.base, J.hok, rv, q⟩
  | .next, ⟨_, H', J, q⟩ => exact ⟨V.non, H', J.os, J.bare, J.base, J.hok, rfl, q⟩
  | .brk, ⟨_, _, _, q⟩ => exact q.elim
  | .cont, ⟨_, _, _, q⟩ => exact q.elim

theorem okG {x qual : Str} {st : Stmt} {f : Addr} {fd : FuncData} {N ps : List Str} {k : Nat} {sp : Sp} (F : Fun K x qual st f fd) (S : FnScope N ps (defScope st)) (len : ∀ vs H Q E, sp vs H Q E → vs.length = ps.length)
    (walk : ∀ (cdv : Value) (A : Around) (outer : List Env) (s : Shared) (H : Hp) (vs : List V) (Q : VK) (E : XK), Room k (A.deeper (envOfC qual (defScope st) s.heap.objs.size f cdv)) → Calm (A.deeper (envOfC qual (defScope st) s.heap.objs.size f cdv)) → sp vs H Q E →
      ∃ t, PSs (cxOf CX0 P w K mg base N qual (defScope st) f cdv A outer s H E).nox (defBody st) t ∧ t { nx := fun _ H' => Q .non H', rt := Q } (start N vs) H) : FnG P w K mg base CX0 (k + 1) f fd ps sp := by
  obtain ⟨oc, od, kV, doc, pm, an, cdv, ct, osl, rfl, lk, code⟩ := F.ex
  exact okR lk code S len walk
theorem okD {x qual : Str} {st : Stmt} {dvs : List V} {kws : List (Str × V)} {f : Addr} {fd : FuncData} {N ps : List Str} {k : Nat} {sp : Sp} (F : FunD K x qual (defArgs st) (defBody st) (defScope st) dvs kws f fd) (S : FnScope N ps (defScope st)) (len : ∀ vs H Q E, sp vs H Q E → vs.length = ps.length)
    (walk : ∀ (cdv : Value) (A : Around) (outer : List Env) (s : Shared) (H : Hp) (vs : List V) (Q : VK) (E : XK), Room k (A.deeper (envOfC qual (defScope st) s.heap.objs.size f cdv)) → Calm (A.deeper (envOfC qual (defScope st) s.heap.objs.size f cdv)) → sp vs H Q E →
      ∃ t, PSs (cxOf CX0 P w K mg base N qual (defScope st) f cdv A outer s H E).nox (defBody st) t ∧ t { nx := fun _ H' => Q .non H', rt := Q } (start N vs) H) : FnG P w K mg base CX0 (k + 1) f fd ps sp := by
  obtain ⟨oc, od, dV, kV, doc, pm, an, cdv, ct, osl, rfl, lk, code, _, _⟩ := F.ex
  exact okR lk code S len walk

/-- the law's call, where the caller guards nothing -/
theorem lawG {mb : Str → Option Value} {k : Nat} {fa a : Addr} {fd : FuncData} {x : Str} {sp : Sp} {s₁ : Shared} {vs : List Value} {ns : List Int}
    (KX : K.In s₁.heap) (hns : s₁.heap.Ns mainGlobals mg) (hb : s₁.heap.Ns builtinsNs mb) (hbb : ∀ x : Str, x ≠ "__name__" → mb x = bootBuiltins x) (hlim : s₁.heap.NoLimit) (hg : s₁.gens = #[])
    (ha : s₁.heap.get? a = some { cls := .type "list", data := .seq vs.toArray }) (hi : IntsAre vs ns) (hl : ns.length ≤ sizeLine) (hr : Room k callerA)
    (F : ∀ base : Heap, K.In base → base.Ns mainGlobals mg → FnG P w K mg base CX0 k fa fd [x] sp) (hbind : ∀ (s : Shared) (u : Value), BindsTo s fd ⟨[u], []⟩ [(x, u)])
    (hsp : ∀ H : Hp, Only H → SqL K H a (ns.map V.int) → sp [.ref a] H (fun v _ => v = .bl true) fun _ _ _ => False) :
    codeAny (model P w) callerA (.call (.ref fa) ⟨[.ref a], []⟩) (fun r s' => r = .ok (.ret (.bool true)) ∧ OldK s₁.heap s'.heap ∧ s'.os = s₁.os ∧ AllBare s'.gens) s₁ := by
  have rel := vals_ints hi
  have core : ∀ H : Hp, Only H → SqL K H a (ns.map V.int) → HOk P w H s₁.heap → (∀ b, H b ≠ none → b = a) → (H a ≠ none → K.lookup a = none) →
      codeAny (model P w) callerA (.call (.ref fa) ⟨[.ref a], []⟩) (fun r s' => r = .ok (.ret (.bool true)) ∧ OldK s₁.heap s'.heap ∧ s'.os = s₁.os ∧ AllBare s'.gens) s₁ := by
    intro H only sq hok alone free
    have off : ∀ {b : Addr}, b ≠ a → H b = none := fun {b} ne => Classical.byContradiction fun z => ne (alone b z)
    have dictOff : ∀ {b : Addr} {o : Obj} {es : Array DictEntry} {ep : Nat}, s₁.heap.get? b = some o → o.data = .dict es ep → H b = none := by
      intro b o es ep e d
      refine off fun eq => ?_
      rw [eq, ha] at e
      cases e
      exact Data.noConfusion d
    have nsK : ∀ {b : Addr} {m : Str → Option Value}, s₁.heap.Ns b m → (hidT s₁.heap H).Ns b m := by
      rintro b m ⟨o, es, ep, e, d, r⟩
      exact ⟨o, es, ep, hidT_get e (dictOff e d), d, r⟩
    have kb : K.In (hidT s₁.heap H) := by
      intro b o e
      refine hidT_get (KX b o e) (Classical.byContradiction fun z => ?_)
      have eq := alone b z
      rw [eq] at z e
      rw [free z] at e
      cases e
    have md : Mod K mg (hidT s₁.heap H) := ⟨kb, nsK hns, ⟨mb, nsK hb, hbb⟩, let ⟨mc, h1, h2⟩ := hlim; ⟨mc, nsK h1, h2⟩⟩
    have e0 : Env0 P w K mg (hidT s₁.heap H) callerA [] s₁ H := ⟨rfl, md, fun b o e => of_hidT e, Nat.le_of_eq (hidT_size _ _), trivial, (fun b z => nomatch z), hok, .of_eq hg⟩
    have go := (F _ kb (nsK hns)).run callerA [] s₁ H ⟨[.ref a], []⟩ [.ref a] [.ref a] _ _ hr rfl e0 (hbind s₁ (.ref a)) (.cons rfl .nil) (hsp H only sq)
    refine codeAny_mono go fun r s' h => ?_
    match r, h with
    | .ok (.ret u), ⟨v, H', os, bare, un, hok', r', q⟩ =>
      have q' : v = .bl true := q
      subst q'
      obtain rfl : u = Value.bool true := r'
      refine ⟨rfl, OldK.of_keep fun b o e => ?_, os, bare⟩
      rcases only b with z | ⟨ob, xs, z⟩
      · exact un.keep b o e z (fun y => nomatch y) (fun y => nomatch y)
      · obtain ⟨e1, _⟩ := hok b _ z
        obtain ⟨e2, _⟩ := hok' b _ (un.frzs b ob _ z)
        exact e.symm.trans e1 ▸ e2
  have lenV := hi.length
  cases hk : K.lookup a with
  | some o =>
    have e := ha.symm.trans (KX a o hk)
    cases e
    exact core (fun _ => none) (fun _ => .inl rfl) (.inr ⟨_, vs.toArray, _, hk, rfl, rfl, rfl, by rw [List.size_toArray, lenV]; exact hl, by simpa using rel⟩) (fun b u z => nomatch z) (fun b z => absurd rfl z) fun z => absurd rfl z
  | none =>
    have at_ : ∀ b, (if b = a then some (HO.frz { cls := .type "list", data := .seq vs.toArray } (.lst (ns.map V.int))) else none) ≠ none → b = a := fun b z => Classical.byContradiction fun y => z (if_neg y)
    refine core (fun b => if b = a then some (.frz { cls := .type "list", data := .seq vs.toArray } (.lst (ns.map V.int))) else none) (fun b => ?_) (.inl (.inr ⟨{ cls := .type "list", data := .seq vs.toArray }, if_pos rfl⟩)) (fun b u z => ?_) at_ fun _ => hk
    · by_cases hb : b = a
      · exact .inr ⟨_, _, if_pos hb⟩
      · exact .inl (if_neg hb)
    · have eb : b = a := at_ b (fun y => nomatch (y.symm.trans z))
      subst eb
      have z' := (if_pos rfl).symm.trans z
      cases z'
      exact ⟨ha, by rw [List.length_map]; exact hl, vs, _, rel, ha⟩
end
theorem walkG {l : PySem.W.OpenLaw} {n k : Nat} {q : Program} {loose : List Str} {XP : (Str → Option Value) → Heap → Prop} {YP : World → Heap → Prop} {d : DefRec} {K : Params → PySem.W.Frag} {sp : PySem.W.Frag → Sp} {x : Str}
    (hn : l.most = some n) (hn2 : n ≤ sizeLine) (hdf : d.params.defaults = []) (hr : Room k callerA)
    (hY : ∀ (w : World) (h : Heap), YP w h → (K w.params).In h)
    (F : ∀ (w : World) (mg : Str → Option Value) (fa : Addr) (h : Heap), (K w.params).In h → h.Ns mainGlobals mg → mg d.name = some (.ref fa) →
      ∃ fd : FuncData, (∀ (s : Shared) (u : Value), BindsTo s fd ⟨[u], []⟩ [(x, u)]) ∧
        ∀ base : Heap, (K w.params).In base → base.Ns mainGlobals mg → FnG l.prog w (K w.params) mg base CX0 k fa fd [x] (sp (K w.params)))
    (hsp : ∀ (K : PySem.W.Frag) (H : Hp) (a : Addr) (ns : List Int), ns.length ≤ n → Only H → SqL K H a (ns.map V.int) → sp K [.ref a] H (fun v _ => v = .bl true) fun _ _ _ => False) :
    PySem.W.WalkO q loose XP YP l.row.toRowW d [] (fun f vs => PySem.call f vs) := by
  refine Att.attach_call hn hdf ?_
  intro w s₀ s₁ mg mb fa o pm cd doc a vs ns G Y ho hd hcd hmg hobj hints hlen hg
  obtain ⟨fd, hb, hF⟩ := F w mg fa _ (hY w _ Y) G.T.g hmg
  exact lawG (hY w _ Y) G.T.g G.T.b G.T.builtins G.T.nolimit hg hobj hints (Nat.le_trans hlen hn2) hr hF hb fun H o s => hsp _ H a ns hlen o s
end GL
namespace GL
open PySem PySem.Spec PyProof.Rows L2
section
variable {K : PySem.W.Frag} {H H' : Hp}
theorem dpa_ints : ∀ ns : List Int, DpAll K H (ns.map V.int) (ns.map PyData.int)
  | [] => .nil
  | n :: r => .cons (.int n) (dpa_ints r)
theorem dpa_strs : ∀ ns : List Str, DpAll K H (ns.map V.str) (ns.map PyData.str)
  | [] => .nil
  | n :: r => .cons (.str n) (dpa_strs r)
theorem dpa_bls : ∀ ns : List Bool, DpAll K H (ns.map V.bl) (ns.map PyData.bool)
  | [] => .nil
  | n :: r => .cons (.bl n) (dpa_bls r)
theorem lay_ints : ∀ ns : List Int, PyData.canLayAll0 (ns.map PyData.int) = true
  | [] => rfl
  | n :: r => by
    show (PyData.canLay0 (.int n) && PyData.canLayAll0 (r.map PyData.int)) = true
    rw [lay_ints r]; rfl
theorem depth_ints : ∀ ns : List Int, PyData.depthAll (ns.map PyData.int) = 0
  | [] => rfl
  | n :: r => by
    show max (PyData.depth (.int n)) (PyData.depthAll (r.map PyData.int)) = 0
    rw [depth_ints r]; rfl
theorem depth_strs : ∀ ns : List Str, PyData.depthAll (ns.map PyData.str) = 0
  | [] => rfl
  | n :: r => by
    show max (PyData.depth (.str n)) (PyData.depthAll (r.map PyData.str)) = 0
    rw [depth_strs r]; rfl
theorem shaped_ints (ns : List Int) : SeqAt.shaped (.list (ns.map PyData.int)) = true := by
  unfold SeqAt.shaped
  rw [show PyData.canLay0 (.list (ns.map PyData.int)) = PyData.canLayAll0 (ns.map PyData.int) from rfl, lay_ints ns]
  rw [show PyData.depth (.list (ns.map PyData.int)) = PyData.depthAll (ns.map PyData.int) + 1 from rfl, depth_ints ns]
  rfl
theorem eqv_ints_nil : ∀ ns : List Int, PyData.eqv (.list (ns.map PyData.int)) (.list []) = decide (ns = [])
  | [] => rfl
  | n :: r => by
    rw [decide_eq_false (show ¬ (n :: r = []) from List.cons_ne_nil n r)]
    rfl

/-! ### what stays -/
theorem Same.new {p : Addr} {o : HO} (h : H p = none) : Same H (upd H p o) := fun b u e => by
  rw [upd_ne (ne_of_none e h)]; exact e
theorem Same.tup {a : Addr} {xs : List V} (e : Same H H') (h : SqT K H a xs) : SqT K H' a xs := by
  rcases h with (h | ⟨o, h⟩) | h
  · exact .inl (.inl (e _ _ h))
  · exact .inl (.inr ⟨o, e _ _ h⟩)
  · exact .inr h
theorem tofT {a : Addr} {xs : List V} (h : H a = some (.tup xs)) : SqT K H a xs := .inl (.inl h)
theorem tofL {a : Addr} {xs : List V} (h : H a = some (.lst xs)) : SqL K H a xs := .inl (.inl h)
theorem small {n : Nat} (h : n ≤ 100000) : n ≤ sizeLine := Nat.le_trans h (by decide)
theorem smallt {n : Nat} (h : n < 100000) : n < sizeLine := Nat.lt_of_lt_of_le h (by decide)

/-! ### the deck of the laws: a dict of a list of ints and an int -/
def deckD (g : Addr) (m : Int) : List (Key × V) := [(Sum.inr "great", .ref g), (Sum.inr "mixed", .int m)]
theorem gm0 : ¬ (("great" : Str) = "mixed") := by decide +kernel
theorem gm : ¬ ((Sum.inr ("great" : Str) : Key) = (Sum.inr ("mixed" : Str) : Key)) := by
  intro e
  injection e with e1
  exact gm0 e1
theorem deck_great (g : Addr) (m : Int) : valV (deckD g m) (Sum.inr "great" : Key) = some (.ref g) := valV_pos rfl
theorem deck_mixed (g : Addr) (m : Int) : valV (deckD g m) (Sum.inr "mixed" : Key) = some (.int m) := by
  unfold deckD
  rw [valV_neg gm, valV_pos rfl]
theorem deck_put (g : Addr) (m m' : Int) : putK (deckD g m) (Sum.inr "mixed" : Key) (.int m') = deckD g m' := by
  unfold putK deckD
  simp only [List.any_cons, List.any_nil, List.map_cons, List.map_nil, decide_eq_false gm, decide_true, Bool.or_true, Bool.false_or, Bool.or_false, if_true]
  rw [if_neg gm]
/-- all but the deck stays -/
structure Mv (d g : Addr) (H H' : Hp) : Prop where
  keep : ∀ b o, H b = some o → b ≠ d → b ≠ g → H' b = some o
structure Deck (H : Hp) (d g : Addr) : Prop where
  ex : ∃ (m : Int) (L : List Int), H d = some (.dK (deckD g m)) ∧ H g = some (.lst (L.map V.int)) ∧ L.length ≤ 63 ∧ 0 ≤ m ∧ m < 2147483587
theorem Deck.ne {d g : Addr} (D : Deck H d g) : d ≠ g := by
  obtain ⟨m, L, h1, h2, _⟩ := D.ex
  exact ne_of h1 h2 (fun z => nomatch z)
theorem Deck.same {d g : Addr} (D : Deck H d g) (s : Same H H') : Deck H' d g := by
  obtain ⟨m, L, h1, h2, r⟩ := D.ex
  exact ⟨⟨m, L, s _ _ h1, s _ _ h2, r⟩⟩
theorem Mv.refl {d g : Addr} : Mv d g H H := ⟨fun _ _ h _ _ => h⟩
theorem Mv.trans {d g : Addr} {H1 H2 H3 : Hp} (a : Mv d g H1 H2) (b : Mv d g H2 H3) : Mv d g H1 H3 := ⟨fun p o h n1 n2 => b.keep p o (a.keep p o h n1 n2) n1 n2⟩
theorem Mv.of {d g : Addr} (s : Same H H') : Mv d g H H' := ⟨fun p o h _ _ => s p o h⟩
theorem Mv.at {d g a : Addr} {o : HO} (m : Mv d g H H') (h : H a = some o) (n : a ≠ d ∧ a ≠ g) : H' a = some o := m.keep _ _ h n.1 n.2
/-- what is new stands apart from the deck -/
theorem Deck.off {d g p : Addr} (D : Deck H d g) (h : H p = none) : p ≠ d ∧ p ≠ g := by
  obtain ⟨m, L, h1, h2, r⟩ := D.ex
  exact ⟨(ne_of_none h1 h).symm, (ne_of_none h2 h).symm⟩
theorem Deck.new {d g p : Addr} {o : HO} (D : Deck H d g) (h : H p = none) : Deck (upd H p o) d g := D.same (Same.new h)
/-- what was new before is new or ours -/
theorem Mv.free {d g p : Addr} (D : Deck H d g) (m : Mv d g H H') (D' : Deck H' d g) (h : H' p = none) : H p = none := by
  have n := D'.off h
  cases e : H p with
  | none => rfl
  | some o => rw [m.keep p o e n.1 n.2] at h; cases h
/-- a change of what was not there -/
theorem Mv.mut {d g p : Addr} {o : HO} (m : Mv d g H H') (h : H p = none) : Mv d g H (upd H' p o) := ⟨fun b u hb n1 n2 => by
  rw [upd_ne (ne_of_none hb h)]
  exact m.keep b u hb n1 n2⟩
theorem Deck.mut {d g p : Addr} {o : HO} (D : Deck H d g) (n : p ≠ d ∧ p ≠ g) : Deck (upd H p o) d g := by
  obtain ⟨m, L, h1, h2, r⟩ := D.ex
  exact ⟨⟨m, L, by rw [upd_ne n.1.symm]; exact h1, by rw [upd_ne n.2.symm]; exact h2, r⟩⟩
def spDraw : Sp := fun vs H Q _ => ∃ (d g : Addr) (n : Int), vs = [.ref d, .int n] ∧ Deck H d g ∧ 0 < n ∧ n < 2 ^ 250 ∧
  ∀ (r : Int) (H' : Hp), 0 ≤ r → r < n → Deck H' d g → Mv d g H H' → Q (.int r) H'
end
def spPickL : Sp := fun vs H Q _ => ∃ (d g a : Addr) (xs : List V), vs = [.ref d, .ref a] ∧ Deck H d g ∧ H a = some (.lst xs) ∧ a ≠ g ∧ xs ≠ [] ∧ xs.length ≤ 1000 ∧
  ∀ (x : V) (H' : Hp), x ∈ xs → Deck H' d g → Mv d g H H' → Q x H'
def spPickS : Sp := fun vs H Q _ => ∃ (d g : Addr) (z : Str), vs = [.ref d, .str z] ∧ Deck H d g ∧ z.cps.toList ≠ [] ∧ z.length ≤ 1000 ∧
  ∀ (c : Nat) (H' : Hp), c ∈ z.cps.toList → Deck H' d g → Mv d g H H' → Q (.str ⟨#[c]⟩) H'
theorem at_in {α : Type} {xs : List α} {r : Int} (h0 : 0 ≤ r) (h1 : r < xs.length) : ∃ x, x ∈ xs ∧ atI xs r = some x := by
  obtain ⟨j, rfl⟩ : ∃ j : Nat, r = (j : Int) := ⟨r.toNat, by omega⟩
  have hj : j < xs.length := by omega
  exact ⟨xs[j], List.getElem_mem hj, atI_nat (List.getElem?_eq_getElem hj)⟩
theorem str_len (z : Str) : z.length = z.cps.toList.length := by
  rw [Array.length_toList]; rfl
theorem pop_at (L : List Int) (c : Int) : ((L ++ [c]).map V.int)[((L ++ [c]).map V.int).length - 1]? = some (.int c) := by
  rw [List.map_append, List.map_singleton, List.length_append, List.length_singleton, Nat.add_sub_cancel, List.getElem?_append_right (Nat.le_refl _), Nat.sub_self]
  rfl
theorem pop_left (L : List Int) (c : Int) : ((L ++ [c]).map V.int).dropLast = L.map V.int := by
  rw [List.map_append, List.map_singleton, List.dropLast_concat]
theorem snoc_of {L : List Int} (h : L ≠ []) : ∃ L0 c, L = L0 ++ [c] := ⟨L.dropLast, L.getLast h, (List.dropLast_concat_getLast h).symm⟩
theorem mul_small {i j : Int} (h0 : 0 ≤ i) (h1 : i < 2 ^ 64) : CMul i j := .inl ⟨by omega, h1⟩
theorem mul_smallR {i j : Int} (h0 : 0 ≤ j) (h1 : j < 2 ^ 64) : CMul i j := .inr ⟨by omega, h1⟩
theorem ty_l {K : PySem.W.Frag} {H : Hp} {a : Addr} {xs : List V} (h : SqL K H a xs) : tyV K "list" (.ref a) H := Or.inl ⟨rfl, xs, h⟩
theorem lt_c {a b : Int} (h : a < b) : a < b := h
theorem def_mk {P : Program} {w : World} {K : PySem.W.Frag} {mg : Str → Option Value} {base : Heap} {k : Nat} {x : Str} {st : Stmt} {f : Addr} {fd : FuncData} {ps : List Str} {sp : Sp} (F : Fun K x x st f fd) (gl : mg x = some (.ref f)) (b : Binds K fd ps []) (h : FnG P w K mg base CX0 k f fd ps sp) : DefG P w K mg base k x ps sp :=
  ⟨⟨f, fd, h, gl, F.kp, b⟩⟩
end GL
namespace GL
open PySem PySem.Spec PyProof.Rows L2 RZ
theorem truth_intsG {prog : Program} {w : World} {A : Around} {ns : List Int} {its : List Value} (r : Vals (ns.map V.int) its) :
    TruthOf prog w A (fun i v => its.toArray[i]? = some v) (fun i => (ns.map fun n => n != 0).getD i false) := by
  intro i v s Q E hv hq
  have hv' : its[i]? = some v := by simpa using hv
  have li : i < ns.length := by
    have := (List.getElem?_eq_some_iff.mp hv').1
    have e := r.length
    rw [List.length_map] at e
    omega
  have e1 : (ns.map V.int)[i]? = some (.int ns[i]) := by rw [List.getElem?_map, List.getElem?_eq_getElem li]; rfl
  obtain ⟨u, hu, ru⟩ := r.get e1
  rw [hv'] at hu
  cases hu
  obtain ⟨t, rfl⟩ := ru
  have hg : (ns.map fun n => n != 0).getD i false = (ns[i] != 0) := by
    rw [List.getD_eq_getElem?_getD, List.getElem?_map, List.getElem?_eq_getElem li]; rfl
  have hq' : Q ((ns.map fun n => n != 0).getD i false) s := hq
  rw [hg] at hq'
  exact PySem.P.truthy_int hq'
section
variable {X : Cx}
theorem walk_zipT {K : PySem.W.Frag} {a b : Addr} {xs ys : List V} {n : Nat} (hn : n = min xs.length ys.length) : Walk (ItzT K a b) n (fun H => SqT K H a xs ∧ SqT K H b ys) (YPair (fun i => xs[i]?) (fun i => ys[i]?)) where
  goes := fun i H hi h => ⟨xs, ys, xs[i]'(by omega), ys[i]'(by omega), h.1, h.2, List.getElem?_eq_getElem _, List.getElem?_eq_getElem _⟩
  stops := fun H h => ⟨xs, ys, h.1, h.2, by omega⟩
  yields := fun i H x H' _ h y => by
    obtain ⟨T, u, v, e1, e2, e3, f1, f2⟩ := y
    exact ⟨T, u, v, e1, e2, e3, f1 _ h.1, f2 _ h.2⟩
theorem op_inK {K : PySem.W.Frag} (h : X.K = K := by rfl) : OpR X (compareOp .In) (rIn K false) := h ▸ op_in_seq
theorem op_notInK {K : PySem.W.Frag} (h : X.K = K := by rfl) : OpR X (compareOp .NotIn) (rIn K true) := h ▸ op_notIn_seq
/-- any of a list of ints -/
def rAnyI (K : PySem.W.Frag) : List V → Hp → VK → Prop := fun vs H Q => ∃ (a : Addr) (ns : List Int), vs = [V.ref a] ∧ SqL K H a (ns.map V.int) ∧ Q (.bl (ns.any fun n => n != 0)) H
theorem cr_anyI (calm : X.calm = true) : CallR X (.builtin "any") (rAnyI X.K) := by
  intro pins s σ H vs us Q I r h
  obtain ⟨a, ns, rfl, hs, q⟩ := h
  obtain ⟨its, rv, hl, _⟩ := I.list hs
  have en : its.length = ns.length := by rw [← rv.length, List.length_map]
  rw [Vals.ref1 r]
  refine call_any_walk (iter_any hl.isList ?_)
  rintro s₂ rfl st hne
  refine ⟨_, _, _, _, _, _, _, rfl, Walks.list (A := X.A.in1) (I.ok.hd calm) _ a hne its.toArray, st, truth_intsG rv, ?_⟩
  intro h' tk hk
  refine ⟨.bl _, H, I.kept (fun b o eo => hk b o (fun hm => ?_) (Heap.get?_push_of_some _ eo)), ?_, q⟩
  · rcases List.mem_cons.mp hm with e1 | hm
    · exact absurd (e1 ▸ Heap.lt_size eo) (Nat.lt_irrefl _)
    · cases hm
  · have ea := any_range (ns.map fun n => n != 0)
    rw [List.length_map] at ea
    show Value.bool _ = Value.bool _
    rw [List.size_toArray, en, ea, List.any_map]
    rfl
end

/-! ### data that may be shown: at most B signs, at most k deep -/
structure Nice (B k : Nat) (d : PyData) : Prop where
  sh : d.showable = true
  nd : d.hasDict = false
  dp : d.depth ≤ k
  sz : d.shown.length ≤ B
theorem Nice.mono {B B' k k' : Nat} {d : PyData} (h : Nice B k d) (hb : B ≤ B') (hk : k ≤ k') : Nice B' k' d := ⟨h.sh, h.nd, Nat.le_trans h.dp hk, Nat.le_trans h.sz hb⟩
theorem shownAll_len : ∀ ds : List PyData, (PyData.shownAll ds).length = ds.length
  | [] => rfl
  | d :: r => by
    show (PyData.shownAll r).length + 1 = r.length + 1
    rw [shownAll_len r]
theorem shownAll_sum {B : Nat} : ∀ ds : List PyData, (∀ d ∈ ds, d.shown.length ≤ B) → ((PyData.shownAll ds).map (·.length)).sum ≤ ds.length * B
  | [], _ => by simp [PyData.shownAll]
  | d :: r, h => by
    have ih := shownAll_sum (B := B) r fun x hx => h x (List.mem_cons_of_mem _ hx)
    have h1 := h d List.mem_cons_self
    show ((d.shown :: PyData.shownAll r).map (·.length)).sum ≤ (r.length + 1) * B
    rw [List.map_cons, List.sum_cons, Nat.succ_mul]
    omega
theorem showableAll_of : ∀ ds : List PyData, (∀ d ∈ ds, d.showable = true) → PyData.showableAll ds = true
  | [], _ => rfl
  | d :: r, h => by
    show (d.showable && PyData.showableAll r) = true
    rw [h d List.mem_cons_self, showableAll_of r fun x hx => h x (List.mem_cons_of_mem _ hx)]; rfl
theorem hasDictAll_of : ∀ ds : List PyData, (∀ d ∈ ds, d.hasDict = false) → PyData.hasDictAll ds = false
  | [], _ => rfl
  | d :: r, h => by
    show (d.hasDict || PyData.hasDictAll r) = false
    rw [h d List.mem_cons_self, hasDictAll_of r fun x hx => h x (List.mem_cons_of_mem _ hx)]; rfl
theorem depthAll_of {k : Nat} : ∀ ds : List PyData, (∀ d ∈ ds, d.depth ≤ k) → PyData.depthAll ds ≤ k
  | [], _ => Nat.zero_le _
  | d :: r, h => by
    show max d.depth (PyData.depthAll r) ≤ k
    have h1 := h d List.mem_cons_self
    have h2 := depthAll_of (k := k) r fun x hx => h x (List.mem_cons_of_mem _ hx)
    omega
theorem Nice.tup {B k n : Nat} {ds : List PyData} (h : ∀ d ∈ ds, Nice B k d) (hn : ds.length ≤ n) : Nice (n * (B + 2) + 3) (k + 1) (.tuple ds) where
  sh := showableAll_of ds fun d hd => (h d hd).sh
  nd := hasDictAll_of ds fun d hd => (h d hd).nd
  dp := by
    show PyData.depthAll ds + 1 ≤ k + 1
    have := depthAll_of ds fun d hd => (h d hd).dp
    omega
  sz := by
    show (tupleText (PyData.shownAll ds)).length ≤ _
    have h1 := tupleText_len_le (PyData.shownAll ds)
    have h2 := shownAll_sum ds fun d hd => (h d hd).sz
    rw [shownAll_len] at h1
    have h3 : ds.length * B + 2 * ds.length ≤ n * (B + 2) := by
      have : ds.length * (B + 2) ≤ n * (B + 2) := Nat.mul_le_mul_right _ hn
      rw [Nat.mul_add] at this
      omega
    omega
theorem Nice.lst {B k n : Nat} {ds : List PyData} (h : ∀ d ∈ ds, Nice B k d) (hn : ds.length ≤ n) : Nice (n * (B + 2) + 3) (k + 1) (.list ds) where
  sh := showableAll_of ds fun d hd => (h d hd).sh
  nd := hasDictAll_of ds fun d hd => (h d hd).nd
  dp := by
    show PyData.depthAll ds + 1 ≤ k + 1
    have := depthAll_of ds fun d hd => (h d hd).dp
    omega
  sz := by
    show (listText (PyData.shownAll ds)).length ≤ _
    have h1 := listText_len_le (PyData.shownAll ds)
    have h2 := shownAll_sum ds fun d hd => (h d hd).sz
    rw [shownAll_len] at h1
    have h3 : ds.length * B + 2 * ds.length ≤ n * (B + 2) := by
      have : ds.length * (B + 2) ≤ n * (B + 2) := Nat.mul_le_mul_right _ hn
      rw [Nat.mul_add] at this
      omega
    omega
theorem Nice.bl (b : Bool) : Nice 5 0 (.bool b) := by
  cases b
  · exact ⟨rfl, rfl, Nat.le_refl _, by decide +kernel⟩
  · exact ⟨rfl, rfl, Nat.le_refl _, by decide +kernel⟩
theorem small_ints : ∀ i : Fin 401, (Str.ofString (toString ((i.val : Int) - 200))).length ≤ 5 ∧ ((i.val : Int) - 200).natAbs.log2 < 1920 := by decide +kernel
theorem Nice.int {i : Int} (h0 : -200 ≤ i) (h1 : i ≤ 200) : Nice 5 0 (.int i) := by
  have h := small_ints ⟨(i + 200).toNat, by omega⟩
  have e : (((i + 200).toNat : Nat) : Int) - 200 = i := by omega
  simp only [e] at h
  exact ⟨decide_eq_true h.2, rfl, Nat.le_refl _, h.1⟩
theorem Nice.str {z : Str} {n : Nat} (hl : z.cps.toList.length ≤ n) (hc : ∀ c ∈ z.cps.toList, c < 128) : Nice (10 * n + 2) 0 (.str z) := by
  refine ⟨rfl, rfl, Nat.le_refl _, ?_⟩
  have h := StrLaws.reprText_len z fun c hm => Nat.lt_trans (hc c hm) (by decide)
  rw [str_len z] at h
  show (reprText z).length ≤ _
  omega
section
variable {X : Cx}
theorem call_reprN (hc : Calm X.A) (hu : X.A.units + 100 < cLine) : CallR X (.builtin "repr") (fun xs H Q => ∃ (a : Addr) (d : PyData) (B k : Nat), xs = [.ref a] ∧ Dp X.K H (.ref a) d ∧ Nice B k d ∧ B ≤ 100000 ∧ k ≤ 60 ∧ Q (.str d.shown) H) := by
  intro pins s σ H xs us Q I r h
  obtain ⟨a, d, B, k, e, hd, hn, hb, hk, q⟩ := h
  exact call_reprD hc hu pins s σ H xs us Q I r ⟨a, d, e, hd, hn.sh, hn.nd, Nat.le_trans hn.dp (by omega), small (Nat.le_trans hn.sz hb), q⟩
end
theorem sq_mv {K : PySem.W.Frag} {H H' : Hp} {d g a : Addr} {xs : List V} (D : Deck H d g) (m : Mv d g H H') (h : SqT K H a xs) : SqT K H' a xs := by
  obtain ⟨k, L, h1, h2, _⟩ := D.ex
  rcases h with (h | ⟨o, h⟩) | h
  · exact .inl (.inl (m.keep _ _ h (ne_of h h1 (fun z => nomatch z)) (ne_of h h2 (fun z => nomatch z))))
  · exact .inl (.inr ⟨o, m.keep _ _ h (ne_of h h1 (fun z => nomatch z)) (ne_of h h2 (fun z => nomatch z))⟩)
  · exact .inr h
/-- t + u, whatever they are -/
theorem catA_of {K : PySem.W.Frag} {H : Hp} {a b : Addr} {xs ys : List V} {Q : VK} (ha : SqT K H a xs) (hb : SqT K H b ys) (hl : xs.length + ys.length ≤ 100000) (q : ∀ p H', Same H H' → SqT K H' p (xs ++ ys) → Q (.ref p) H') : rCatA K (.ref a) (.ref b) H Q := by
  refine ⟨a, b, xs, ys, rfl, rfl, ha, hb, small hl, fun e => ?_, fun _ e => ?_, fun _ _ p np => ?_⟩
  · refine q b H (Same.refl H) ?_
    rw [e, List.nil_append]; exact hb
  · refine q a H (Same.refl H) ?_
    rw [e, List.append_nil]; exact ha
  · exact q p _ (Same.new np) (tofT upd_same)
theorem slA_of {K : PySem.W.Frag} {H : Hp} {a : Addr} {xs : List V} {lo hi : Option Int} {Q : VK} (ha : SqT K H a xs) (q : ∀ p H', Same H H' → SqT K H' p (cutV xs lo hi) → Q (.ref p) H') : rSlA K (.ref a) lo hi H Q := by
  refine ⟨a, xs, rfl, ha, fun e => ?_, fun _ p np => ?_⟩
  · refine q a H (Same.refl H) ?_
    unfold cutV
    rw [e.1, e.2, Nat.sub_zero, List.drop_zero, List.take_length]; exact ha
  · exact q p _ (Same.new np) (tofT upd_same)
end GL
namespace LA
/-! vectors of integers, what they span, determinants -/
abbrev Ve := Nat → Int
/-- what may be divided out, where d tells what counts as nothing -/
structure Mu (d : Int) (M : Int → Prop) : Prop where
  one : M 1
  mul : ∀ {a b : Int}, M a → M b → M (a * b)
  can : ∀ {m x : Int}, M m → d ∣ m * x → d ∣ x
/-- 0 or a prime -/
structure PZ (p : Int) : Prop where
  one : ¬ p ∣ 1
  mul : ∀ {a b : Int}, p ∣ a * b → p ∣ a ∨ p ∣ b
def Off (p : Int) : Int → Prop := fun m => ¬ p ∣ m
def Only1 : Int → Prop := fun m => m = 1
theorem PZ.mu {p : Int} (h : PZ p) : Mu p (Off p) := ⟨h.one, fun ha hb z => (h.mul z).elim ha hb, fun hm z => (h.mul z).resolve_left hm⟩
theorem mu1 (d : Int) : Mu d Only1 := ⟨rfl, fun ha hb => by rw [ha, hb]; rfl, fun hm z => by rw [hm, Int.one_mul] at z; exact z⟩
theorem pz0 : PZ 0 := ⟨fun z => by rw [Int.zero_dvd] at z; exact absurd z (by decide), fun {a b} z => by
  rw [Int.zero_dvd] at z
  rcases Int.mul_eq_zero.mp z with h | h
  · exact .inl (h ▸ Int.dvd_refl 0)
  · exact .inr (h ▸ Int.dvd_refl 0)⟩
inductive SP (d : Int) (M : Int → Prop) (T : List Ve) : Ve → Prop
  | zero {v : Ve} (h : ∀ j, d ∣ v j) : SP d M T v
  | mem {v : Ve} (h : v ∈ T) : SP d M T v
  | add {u v : Ve} (hu : SP d M T u) (hv : SP d M T v) : SP d M T (fun j => u j + v j)
  | smul {v : Ve} (c : Int) (hv : SP d M T v) : SP d M T (fun j => c * v j)
  | cancel {v : Ve} (m : Int) (hm : M m) (hv : SP d M T (fun j => m * v j)) : SP d M T v
section
variable {d e : Int} {M N : Int → Prop} {T S R : List Ve} {t u v : Ve}
theorem SP.of (h : SP d M T u) (e : ∀ j, v j = u j) : SP d M T v := by
  have : v = u := funext e
  rw [this]; exact h
theorem SP.lin (x y : Int) (hu : SP d M T u) (hv : SP d M T v) : SP d M T (fun j => x * u j + y * v j) := .add (.smul x hu) (.smul y hv)
theorem SP.sub (c : Int) (hu : SP d M T u) (hv : SP d M T v) : SP d M T (fun j => u j - c * v j) := (SP.lin 1 (-c) hu hv).of fun j => by rw [Int.one_mul, Int.neg_mul]; rfl
theorem SP.trans (h : SP d M T v) (hs : ∀ t ∈ T, SP d M S t) : SP d M S v := by
  induction h with
  | zero h => exact .zero h
  | mem h => exact hs _ h
  | add _ _ iu iv => exact .add iu iv
  | smul c _ i => exact .smul c i
  | cancel m hm _ i => exact .cancel m hm i
theorem SP.mono (h : SP d M T v) (hs : ∀ t ∈ T, t ∈ S) : SP d M S v := h.trans fun t ht => .mem (hs t ht)
theorem SP.weak (h : SP d M T v) (he : e ∣ d) (hm : ∀ m, M m → N m) : SP e N T v := by
  induction h with
  | zero h => exact .zero fun j => Int.dvd_trans he (h j)
  | mem h => exact .mem h
  | add _ _ iu iv => exact .add iu iv
  | smul c _ i => exact .smul c i
  | cancel m h _ i => exact .cancel m (hm m h) i
/-- the span of integers goes over to every other one -/
theorem SP.of0 (h : SP 0 Only1 T v) (hM : Mu d M) : SP d M T v := h.weak (Int.dvd_zero d) fun m hm => by rw [hm]; exact hM.one
theorem SP.nil (hM : Mu d M) (h : SP d M [] v) : ∀ j, d ∣ v j := by
  induction h with
  | zero h => exact h
  | mem h => cases h
  | add _ _ iu iv => exact fun j => Int.dvd_add (iu j) (iv j)
  | smul c _ i => exact fun j => Int.dvd_mul_of_dvd_right (i j)
  | cancel m hm _ i => exact fun j => hM.can hm (i j)
/-- where all of T vanish, all that it spans vanishes -/
theorem SP.van (hM : Mu d M) (h : SP d M T v) {j : Nat} (ht : ∀ t ∈ T, d ∣ t j) : d ∣ v j := by
  induction h with
  | zero h => exact h j
  | mem h => exact ht _ h
  | add _ _ iu iv => exact Int.dvd_add iu iv
  | smul c _ i => exact Int.dvd_mul_of_dvd_right i
  | cancel m hm _ i => exact hM.can hm i
theorem SP.dec (hM : Mu d M) (h : SP d M (t :: T) v) : ∃ m c : Int, M m ∧ SP d M T (fun j => m * v j + c * t j) := by
  induction h with
  | zero h => exact ⟨1, 0, hM.one, .zero fun j => by rw [Int.one_mul, Int.zero_mul, Int.add_zero]; exact h j⟩
  | mem h =>
    rcases List.mem_cons.mp h with rfl | h
    · exact ⟨1, -1, hM.one, .zero fun j => by rw [Int.one_mul, Int.neg_mul, Int.one_mul, Int.add_right_neg]; exact Int.dvd_zero _⟩
    · exact ⟨1, 0, hM.one, (SP.mem h).of fun j => by rw [Int.one_mul, Int.zero_mul, Int.add_zero]⟩
  | add _ _ iu iv =>
    obtain ⟨m1, c1, h1, s1⟩ := iu
    obtain ⟨m2, c2, h2, s2⟩ := iv
    refine ⟨m1 * m2, m2 * c1 + m1 * c2, hM.mul h1 h2, (SP.lin m2 m1 s1 s2).of fun j => ?_⟩
    simp only [Int.mul_add, Int.add_mul]
    simp only [← Int.mul_assoc]
    rw [Int.mul_comm m1 m2]
    omega
  | smul c _ i =>
    obtain ⟨m, c1, h1, s1⟩ := i
    refine ⟨m, c * c1, h1, (SP.smul c s1).of fun j => ?_⟩
    rw [Int.mul_add, ← Int.mul_assoc, ← Int.mul_assoc, ← Int.mul_assoc, Int.mul_comm m c]
  | cancel m hm _ i =>
    obtain ⟨m1, c1, h1, s1⟩ := i
    refine ⟨m1 * m, c1, hM.mul h1 hm, s1.of fun j => ?_⟩
    rw [Int.mul_assoc]
end
/-! ### determinants -/
def Lp (a : Ve) : List Nat → (List Nat → Int) → Int
  | [], _ => 0
  | c :: cs, g => a c * g cs - Lp a cs (fun l => g (c :: l))
def D : List Ve → List Nat → Int
  | [], [] => 1
  | [], _ :: _ => 0
  | a :: R, cs => Lp a cs (D R)
theorem Lp_add (a : Ve) (x y : Int) : ∀ (cs : List Nat) (g h : List Nat → Int), Lp a cs (fun l => x * g l + y * h l) = x * Lp a cs g + y * Lp a cs h
  | [], g, h => by simp [Lp]
  | c :: cs, g, h => by
    simp only [Lp]
    rw [Lp_add a x y cs (fun l => g (c :: l)) (fun l => h (c :: l))]
    simp only [Int.mul_add, Int.mul_sub]
    rw [← Int.mul_assoc (a c), ← Int.mul_assoc (a c), ← Int.mul_assoc x, ← Int.mul_assoc y, Int.mul_comm (a c) x, Int.mul_comm (a c) y]
    omega
theorem Lp_lin (a b : Ve) (x y : Int) : ∀ (cs : List Nat) (g : List Nat → Int), Lp (fun j => x * a j + y * b j) cs g = x * Lp a cs g + y * Lp b cs g
  | [], g => by simp [Lp]
  | c :: cs, g => by
    simp only [Lp]
    rw [Lp_lin a b x y cs]
    simp only [Int.add_mul, Int.mul_sub, Int.mul_assoc]
    omega
theorem Lp_zero (a : Ve) : ∀ cs : List Nat, Lp a cs (fun _ => 0) = 0
  | [] => rfl
  | c :: cs => by simp only [Lp]; rw [Lp_zero a cs]; simp
theorem Lp_Lp (a : Ve) : ∀ (cs : List Nat) (g : List Nat → Int), Lp a cs (fun l => Lp a l g) = 0
  | [], g => rfl
  | c :: cs, g => by
    simp only [Lp]
    have h := Lp_add a (a c) (-1) cs g (fun l => Lp a l (fun m => g (c :: m)))
    rw [Lp_Lp a cs (fun m => g (c :: m))] at h
    have e : (fun l => a c * g l - Lp a l fun m => g (c :: m)) = fun l => a c * g l + -1 * Lp a l fun m => g (c :: m) := funext fun l => by omega
    rw [e, h]
    omega
theorem Lp_dvd {d : Int} (a : Ve) : ∀ (cs : List Nat) (g : List Nat → Int), (∀ l, d ∣ g l) → d ∣ Lp a cs g
  | [], g, _ => Int.dvd_zero d
  | c :: cs, g, h => Int.dvd_sub (Int.dvd_mul_of_dvd_right (h cs)) (Lp_dvd a cs _ fun l => h (c :: l))
theorem Lp_dvdA {d : Int} (a : Ve) (h : ∀ j, d ∣ a j) : ∀ (cs : List Nat) (g : List Nat → Int), d ∣ Lp a cs g
  | [], g => Int.dvd_zero d
  | c :: cs, g => Int.dvd_sub (Int.dvd_mul_of_dvd_left (h c)) (Lp_dvdA a h cs _)
theorem Lp_swap (a b : Ve) (cs : List Nat) (g : List Nat → Int) : Lp a cs (fun l => Lp b l g) = - Lp b cs (fun l => Lp a l g) := by
  have h := Lp_Lp (fun j => 1 * a j + 1 * b j) cs g
  have e : (fun l => Lp (fun j => 1 * a j + 1 * b j) l g) = fun l => 1 * Lp a l g + 1 * Lp b l g := funext fun l => Lp_lin a b 1 1 l g
  rw [e, Lp_lin, Lp_add, Lp_add, Lp_Lp, Lp_Lp] at h
  omega
theorem D_lin (x y : Int) (u v : Ve) (post : List Ve) : ∀ (pre : List Ve) (cs : List Nat), D (pre ++ (fun j => x * u j + y * v j) :: post) cs = x * D (pre ++ u :: post) cs + y * D (pre ++ v :: post) cs
  | [], cs => Lp_lin u v x y cs _
  | a :: pre, cs => by
    show Lp a cs (D (pre ++ _)) = x * Lp a cs (D (pre ++ u :: post)) + y * Lp a cs (D (pre ++ v :: post))
    rw [← Lp_add, show D (pre ++ (fun j => x * u j + y * v j) :: post) = _ from funext fun l => D_lin x y u v post pre l]
theorem D_dvd {d : Int} {u : Ve} (h : ∀ j, d ∣ u j) (post : List Ve) : ∀ (pre : List Ve) (cs : List Nat), d ∣ D (pre ++ u :: post) cs
  | [], cs => Lp_dvdA u h cs _
  | a :: pre, cs => Lp_dvd a cs _ fun l => D_dvd h post pre l
theorem D_swap (a b : Ve) (post : List Ve) : ∀ (pre : List Ve) (cs : List Nat), D (pre ++ a :: b :: post) cs = - D (pre ++ b :: a :: post) cs
  | [], cs => Lp_swap a b cs (D post)
  | c :: pre, cs => by
    show Lp c cs (D (pre ++ _)) = - Lp c cs (D (pre ++ b :: a :: post))
    have h := Lp_add c (-1) 0 cs (D (pre ++ b :: a :: post)) (D [])
    rw [show D (pre ++ a :: b :: post) = fun l => -1 * D (pre ++ b :: a :: post) l + 0 * D [] l from funext fun l => by rw [D_swap a b post pre l]; omega, h]
    omega
theorem D_twice (a : Ve) (post : List Ve) : ∀ (pre : List Ve) (cs : List Nat), D (pre ++ a :: a :: post) cs = 0
  | [], cs => Lp_Lp a cs (D post)
  | c :: pre, cs => by
    show Lp c cs (D (pre ++ _)) = 0
    rw [show D (pre ++ a :: a :: post) = fun _ => 0 from funext fun l => D_twice a post pre l, Lp_zero]
theorem D_move {d : Int} (t : Ve) (post : List Ve) (cs : List Nat) : ∀ (A pre : List Ve), d ∣ D (pre ++ t :: (A ++ post)) cs ↔ d ∣ D (pre ++ (A ++ t :: post)) cs
  | [], pre => Iff.rfl
  | a :: A, pre => by
    have h := D_move (d := d) t post cs A (pre ++ [a])
    rw [List.append_assoc, List.append_assoc] at h
    show d ∣ D (pre ++ t :: a :: (A ++ post)) cs ↔ _
    rw [D_swap, Int.dvd_neg]
    exact h
theorem D_eq0 {t : Ve} (post : List Ve) (cs : List Nat) (A pre : List Ve) : D (pre ++ t :: (A ++ t :: post)) cs = 0 := by
  have h := (D_move (d := 0) t post cs A (pre ++ [t])).mp
  rw [List.append_assoc, List.append_assoc] at h
  have h2 : (0 : Int) ∣ D (pre ++ t :: t :: (A ++ post)) cs := by rw [D_twice]; exact Int.dvd_refl 0
  exact Int.zero_dvd.mp (h h2)
/-- a row that is a combination: what divides those of its parts divides its own -/
theorem D_cut {d : Int} {M : Int → Prop} (hM : Mu d M) {h t : Ve} {m c : Int} (hm : M m) {pre post : List Ve} {cs : List Nat} (h1 : d ∣ D (pre ++ (fun j => m * h j + c * t j) :: post) cs) (h2 : d ∣ c * D (pre ++ t :: post) cs) : d ∣ D (pre ++ h :: post) cs := by
  rw [D_lin] at h1
  refine hM.can hm ?_
  have := Int.dvd_sub h1 h2
  rwa [Int.add_sub_cancel] at this
theorem span_D {d : Int} {M : Int → Prop} (hM : Mu d M) {cs : List Nat} : ∀ (T : List Ve) (k : Nat) (pre : List Ve), (∀ s, s.Sublist T → s.length = k → d ∣ D (pre ++ s) cs) →
    ∀ hs : List Ve, hs.length = k → (∀ h ∈ hs, SP d M T h) → d ∣ D (pre ++ hs) cs
  | [], k, pre, h0, hs, hl, hh => by
    match hs, hl, hh with
    | [], hl, _ => exact h0 [] (List.Sublist.refl _) hl
    | h :: hs, _, hh => exact D_dvd (SP.nil hM (hh h List.mem_cons_self)) hs pre cs
  | t :: T, k, pre, h0, hs, hl, hh => by
    have p1 := span_D hM T k pre fun s hs => h0 s (hs.cons t)
    have p2 : ∀ (B A : List Ve), (∀ h ∈ A, SP d M T h) → (∀ h ∈ B, SP d M (t :: T) h) → A.length + B.length + 1 = k → d ∣ D (pre ++ t :: (A ++ B)) cs := by
      intro B
      induction B with
      | nil =>
        intro A hA _ hk
        have z := span_D hM T A.length (pre ++ [t]) (fun s hs hn => by
          rw [List.append_assoc]
          exact h0 (t :: s) (hs.cons_cons t) (by rw [List.length_cons, hn]; simpa using hk)) A rfl hA
        rw [List.append_assoc] at z
        rw [List.append_nil]; exact z
      | cons h B ih =>
        intro A hA hB hk
        obtain ⟨m, c, hm, hs⟩ := SP.dec hM (hB h List.mem_cons_self)
        have z := ih (A ++ [fun j => m * h j + c * t j]) (fun x hx => by
          rcases List.mem_append.mp hx with hx | hx
          · exact hA x hx
          · rw [List.mem_singleton.mp hx]; exact hs) (fun x hx => hB x (List.mem_cons_of_mem _ hx)) (by rw [List.length_append, List.length_singleton]; rw [List.length_cons] at hk; omega)
        rw [List.append_assoc] at z
        have e : ∀ x : Ve, pre ++ t :: (A ++ x :: B) = (pre ++ t :: A) ++ x :: B := fun x => by rw [List.append_assoc]; rfl
        rw [e]
        refine D_cut hM hm (c := c) (t := t) (by rw [← e]; exact z) ?_
        rw [← e, D_eq0, Int.mul_zero]
        exact Int.dvd_zero d
    have p3 : ∀ (B A : List Ve), (∀ h ∈ A, SP d M T h) → (∀ h ∈ B, SP d M (t :: T) h) → A.length + B.length = k → d ∣ D (pre ++ (A ++ B)) cs := by
      intro B
      induction B with
      | nil =>
        intro A hA _ hk
        rw [List.append_nil]
        exact p1 A hk hA
      | cons h B ih =>
        intro A hA hB hk
        obtain ⟨m, c, hm, hs⟩ := SP.dec hM (hB h List.mem_cons_self)
        have z := ih (A ++ [fun j => m * h j + c * t j]) (fun x hx => by
          rcases List.mem_append.mp hx with hx | hx
          · exact hA x hx
          · rw [List.mem_singleton.mp hx]; exact hs) (fun x hx => hB x (List.mem_cons_of_mem _ hx)) (by rw [List.length_append, List.length_singleton]; rw [List.length_cons] at hk; omega)
        rw [List.append_assoc] at z
        have e : ∀ x : Ve, pre ++ (A ++ x :: B) = (pre ++ A) ++ x :: B := fun x => by rw [List.append_assoc]
        rw [e]
        refine D_cut hM hm (c := c) (t := t) (by rw [← e]; exact z) ?_
        refine Int.dvd_mul_of_dvd_right ?_
        rw [← e]
        exact (D_move t B cs A pre).mp (p2 B A hA (fun x hx => hB x (List.mem_cons_of_mem _ hx)) (by rw [List.length_cons] at hk; omega))
    exact p3 hs [] (fun h hh => by cases hh) hh (by simpa using hl)
/-! ### triangles -/
def Tri (p : Int) : List Ve → List Nat → Prop
  | [], [] => True
  | h :: R, c :: cs => ¬ p ∣ h c ∧ (∀ r ∈ R, p ∣ r c) ∧ Tri p R cs
  | _, _ => False
theorem Tri.len {p : Int} : ∀ {R : List Ve} {cs : List Nat}, Tri p R cs → cs.length = R.length
  | [], [], _ => rfl
  | _ :: R, _ :: cs, h => by rw [List.length_cons, List.length_cons, Tri.len h.2.2]
  | [], _ :: _, h => h.elim
  | _ :: _, [], h => h.elim
theorem D_col {p : Int} {c : Nat} : ∀ (R : List Ve) (cs : List Nat), (∀ r ∈ R, p ∣ r c) → p ∣ D R (c :: cs)
  | [], cs, _ => Int.dvd_zero p
  | b :: R, cs, h => Int.dvd_sub (Int.dvd_mul_of_dvd_left (h b List.mem_cons_self)) (Lp_dvd b cs _ fun l => D_col R l fun r hr => h r (List.mem_cons_of_mem _ hr))
theorem Tri.D {p : Int} (hp : PZ p) : ∀ {R : List Ve} {cs : List Nat}, Tri p R cs → ¬ p ∣ D R cs
  | [], [], _ => hp.one
  | h :: R, c :: cs, ⟨h1, h2, h3⟩ => fun z => by
    have y : p ∣ Lp h cs (fun l => LA.D R (c :: l)) := Lp_dvd h cs _ fun l => D_col R l h2
    have x : p ∣ h c * LA.D R cs := by
      have := Int.dvd_add z y
      rwa [show LA.D (h :: R) (c :: cs) = h c * LA.D R cs - Lp h cs (fun l => LA.D R (c :: l)) from rfl, Int.sub_add_cancel] at this
    exact (hp.mul x).elim h1 (Tri.D hp h3)
  | [], _ :: _, h => h.elim
  | _ :: _, [], h => h.elim
/-- more rows than those that span have no determinant -/
theorem D_more {p : Int} {M : Int → Prop} (hM : Mu p M) {R hs : List Ve} {cs : List Nat} (h : ∀ x ∈ hs, SP p M R x) (hl : R.length < hs.length) : p ∣ D hs cs := by
  have z := span_D hM R hs.length [] (cs := cs) (fun s hs' hn => absurd hs'.length_le (by omega)) hs rfl h
  exact z
/-- as many rows have one -/
theorem D_some {p : Int} (hp : PZ p) {T R : List Ve} {cs : List Nat} (hR : Tri p R cs) (h : ∀ x ∈ R, SP p (Off p) T x) : ∃ s, s.Sublist T ∧ s.length = R.length ∧ ¬ p ∣ D s cs :=
  Classical.byContradiction fun z => Tri.D hp hR (span_D hp.mu T R.length [] (cs := cs) (fun s hs hn => Classical.byContradiction fun y => z ⟨s, hs, hn, y⟩) R rfl h)
/-! ### which rows do not hang on one another -/
def comb : List Int → List Ve → Ve
  | c :: cs, r :: R => fun j => c * r j + comb cs R j
  | _, _ => fun _ => 0
def Ind (p : Int) (R : List Ve) : Prop := ∀ cs : List Int, cs.length = R.length → (∀ j, p ∣ comb cs R j) → ∀ c ∈ cs, p ∣ c
theorem comb_dvd {p : Int} {j : Nat} : ∀ (cs : List Int) (R : List Ve), (∀ r ∈ R, p ∣ r j) → p ∣ comb cs R j
  | [], _, _ => Int.dvd_zero p
  | _ :: _, [], _ => Int.dvd_zero p
  | c :: cs, r :: R, h => Int.dvd_add (Int.dvd_mul_of_dvd_right (h r List.mem_cons_self)) (comb_dvd cs R fun x hx => h x (List.mem_cons_of_mem _ hx))
theorem Tri.ind {p : Int} (hp : PZ p) : ∀ {R : List Ve} {cs : List Nat}, Tri p R cs → Ind p R
  | [], [], _ => fun cs hl _ c hc => by
    rw [List.eq_nil_of_length_eq_zero hl] at hc; cases hc
  | h :: R, c :: cs, ⟨h1, h2, h3⟩ => fun xs hl hz x hx => by
    match xs, hl, hz with
    | y :: ys, hl, hz =>
      have z1 : p ∣ y * h c := by
        have := Int.dvd_sub (hz c) (comb_dvd ys R h2)
        rwa [show comb (y :: ys) (h :: R) c = y * h c + comb ys R c from rfl, Int.add_sub_cancel] at this
      have y1 : p ∣ y := (hp.mul z1).resolve_right h1
      rcases List.mem_cons.mp hx with rfl | hx
      · exact y1
      · refine Tri.ind hp h3 ys (by simpa using hl) (fun j => ?_) x hx
        have := Int.dvd_sub (hz j) (Int.dvd_mul_of_dvd_left (c := h j) y1)
        rwa [show comb (y :: ys) (h :: R) j = y * h j + comb ys R j from rfl, Int.add_comm, Int.add_sub_cancel] at this
  | [], _ :: _, h => h.elim
  | _ :: _, [], h => h.elim
theorem comb_app {A B : List Ve} {xs ys : List Int} (h : xs.length = A.length) (j : Nat) : comb (xs ++ ys) (A ++ B) j = comb xs A j + comb ys B j := by
  induction A generalizing xs with
  | nil =>
    rw [List.eq_nil_of_length_eq_zero h]
    show comb ys B j = 0 + comb ys B j
    omega
  | cons a A ih =>
    match xs, h with
    | x :: xs, h =>
      show x * a j + comb (xs ++ ys) (A ++ B) j = x * a j + comb xs A j + comb ys B j
      rw [ih (by simpa using h)]
      omega
/-- as many that do not hang on one another as span, at most -/
theorem steinitz {p : Int} (hp : PZ p) : ∀ (S R : List Ve), Ind p R → (∀ r ∈ R, SP p (Off p) S r) → R.length ≤ S.length
  | [], R, hi, hs => by
    match R, hi, hs with
    | [], _, _ => exact Nat.le_refl _
    | r :: R, hi, hs =>
      refine absurd (hi (1 :: R.map fun _ => 0) (by simp) (fun j => ?_) 1 List.mem_cons_self) hp.one
      refine comb_dvd _ _ fun x hx => SP.nil hp.mu (hs x hx) j
  | s :: S, R, hi, hs => by
    have dec : ∀ r ∈ R, ∃ m c : Int, Off p m ∧ SP p (Off p) S (fun j => m * r j + c * s j) := fun r hr => SP.dec hp.mu (hs r hr)
    by_cases all : ∀ r ∈ R, SP p (Off p) S r
    · exact Nat.le_succ_of_le (steinitz hp S R hi all)
    · obtain ⟨r, hr, hn⟩ : ∃ r, r ∈ R ∧ ¬ SP p (Off p) S r := Classical.byContradiction fun z => all fun r hr => Classical.byContradiction fun y => z ⟨r, hr, y⟩
      obtain ⟨A, B, rfl⟩ := List.append_of_mem hr
      obtain ⟨m, c, hm, hq⟩ := dec r hr
      have hc : Off p c := fun z => hn (SP.cancel m hm (SP.of (SP.add hq (SP.zero (v := fun j => -(c * s j)) fun j => Int.dvd_neg.mpr (Int.dvd_mul_of_dvd_left z))) fun j => by omega))
      -- every other row, less a multiple of this one
      have go : ∀ Y : List Ve, (∀ y ∈ Y, ∃ m c : Int, Off p m ∧ SP p (Off p) S (fun j => m * y j + c * s j)) → ∃ Z : List Ve, Z.length = Y.length ∧ (∀ z ∈ Z, SP p (Off p) S z) ∧
          ∀ cs : List Int, cs.length = Z.length → ∃ (ds : List Int) (e : Int), ds.length = cs.length ∧ (∀ j, comb cs Z j = comb ds Y j + e * r j) ∧ ((∀ x ∈ ds, p ∣ x) → ∀ x ∈ cs, p ∣ x) := by
        intro Y
        induction Y with
        | nil => exact fun _ => ⟨[], rfl, fun z hz => (by cases hz), fun cs hl => ⟨[], 0, by rw [hl]; rfl, fun j => by rw [List.eq_nil_of_length_eq_zero hl]; simp [comb], fun _ x hx => by rw [List.eq_nil_of_length_eq_zero hl] at hx; cases hx⟩⟩
        | cons y Y ih =>
          intro hY
          obtain ⟨my, cy, hmy, hqy⟩ := hY y List.mem_cons_self
          obtain ⟨Z, hl, hz, hc2⟩ := ih fun x hx => hY x (List.mem_cons_of_mem _ hx)
          refine ⟨(fun j => c * (my * y j + cy * s j) + (-cy) * (m * r j + c * s j)) :: Z, by simp [hl], fun z hz' => ?_, fun cs hcs => ?_⟩
          · rcases List.mem_cons.mp hz' with rfl | hz'
            · exact SP.lin c (-cy) hqy hq
            · exact hz z hz'
          · match cs, hcs with
            | x :: cs, hcs =>
              obtain ⟨ds, e, h1, h2, h3⟩ := hc2 cs (by simpa using hcs)
              refine ⟨(x * (c * my)) :: ds, e - x * (cy * m), by simp [h1], fun j => ?_, fun hall w hw => ?_⟩
              · show x * (c * (my * y j + cy * s j) + (-cy) * (m * r j + c * s j)) + comb cs Z j = x * (c * my) * y j + comb ds Y j + (e - x * (cy * m)) * r j
                rw [h2 j]
                have e1 : x * (c * (my * y j + cy * s j) + (-cy) * (m * r j + c * s j)) = x * (c * my) * y j - x * (cy * m) * r j := by
                  simp only [Int.mul_add, Int.neg_mul, Int.mul_neg]
                  rw [show cy * (c * s j) = c * (cy * s j) by rw [← Int.mul_assoc, ← Int.mul_assoc, Int.mul_comm cy c]]
                  simp only [Int.mul_assoc]
                  omega
                rw [e1, Int.sub_mul]
                omega
              · rcases List.mem_cons.mp hw with rfl | hw
                · have z := hall _ List.mem_cons_self
                  exact (hp.mul z).resolve_right fun q => (hp.mul q).elim hc hmy
                · exact h3 (fun v hv => hall v (List.mem_cons_of_mem _ hv)) w hw
      obtain ⟨Z, hl, hz, hc2⟩ := go (A ++ B) fun y hy => dec y (by
        rcases List.mem_append.mp hy with hy | hy
        · exact List.mem_append_left _ hy
        · exact List.mem_append_right _ (List.mem_cons_of_mem _ hy))
      have iZ : Ind p Z := fun cs hcs hj => by
        obtain ⟨ds, e, h1, h2, h3⟩ := hc2 cs hcs
        refine h3 ?_
        have ld : ds.length = A.length + B.length := by rw [h1, hcs, hl, List.length_append]
        obtain ⟨d1, d2, rfl, l1⟩ : ∃ d1 d2, ds = d1 ++ d2 ∧ d1.length = A.length := ⟨ds.take A.length, ds.drop A.length, (List.take_append_drop _ _).symm, by rw [List.length_take]; omega⟩
        have l2 : d2.length = B.length := by rw [List.length_append] at ld; omega
        have y := hi (d1 ++ e :: d2) (by simp [l1, l2]) (fun j => by
          rw [comb_app l1]
          have k := hj j
          rw [h2 j, comb_app l1] at k
          show p ∣ comb d1 A j + (e * r j + comb d2 B j)
          rwa [show comb d1 A j + (e * r j + comb d2 B j) = comb d1 A j + comb d2 B j + e * r j by omega])
        exact fun x hx => y x (by
          rcases List.mem_append.mp hx with hx | hx
          · exact List.mem_append_left _ hx
          · exact List.mem_append_right _ (List.mem_cons_of_mem _ hx))
      have := steinitz hp S Z iZ hz
      rw [hl, List.length_append] at this
      rw [List.length_append, List.length_cons, List.length_cons]
      omega
/-- a rank -/
structure Rk (p : Int) (T : List Ve) (r : Nat) : Prop where
  ex : ∃ R : List Ve, R.length = r ∧ Ind p R ∧ (∀ x ∈ R, SP p (Off p) T x) ∧ ∀ t ∈ T, SP p (Off p) R t
theorem Rk.le {p : Int} (hp : PZ p) {T S : List Ve} {r s : Nat} (a : Rk p T r) (b : Rk p S s) (h : ∀ t ∈ T, SP p (Off p) S t) : r ≤ s := by
  obtain ⟨R, rfl, hi, h1, _⟩ := a.ex
  obtain ⟨Z, rfl, _, _, h2⟩ := b.ex
  exact steinitz hp Z R hi fun x hx => ((h1 x hx).trans h).trans h2
theorem Rk.eq {p : Int} (hp : PZ p) {T S : List Ve} {r s : Nat} (a : Rk p T r) (b : Rk p S s) (h : ∀ t ∈ T, SP p (Off p) S t) (h' : ∀ t ∈ S, SP p (Off p) T t) : r = s := Nat.le_antisymm (a.le hp b h) (b.le hp a h')
theorem Rk.to {p : Int} {T S : List Ve} {r : Nat} (a : Rk p T r) (h : ∀ t ∈ T, SP p (Off p) S t) (h' : ∀ t ∈ S, SP p (Off p) T t) : Rk p S r := by
  obtain ⟨R, e, hi, h1, h2⟩ := a.ex
  exact ⟨⟨R, e, hi, fun x hx => (h1 x hx).trans h, fun t ht => (h' t ht).trans h2⟩⟩
theorem Tri.rk {p : Int} (hp : PZ p) {T R : List Ve} {cs : List Nat} (h : Tri p R cs) (h1 : ∀ x ∈ R, SP p (Off p) T x) (h2 : ∀ t ∈ T, SP p (Off p) R t) : Rk p T R.length := ⟨⟨R, rfl, h.ind hp, h1, h2⟩⟩
/-- columns turned -/
structure Lin (f : Ve → Ve) : Prop where
  add : ∀ u v j, f (fun j => u j + v j) j = f u j + f v j
  smul : ∀ (c : Int) v j, f (fun j => c * v j) j = c * f v j
  dvd : ∀ (d : Int) v, (∀ j, d ∣ v j) → ∀ j, d ∣ f v j
theorem SP.map {d : Int} {M : Int → Prop} {f : Ve → Ve} (hf : Lin f) {T : List Ve} {v : Ve} (h : SP d M T v) : SP d M (T.map f) (f v) := by
  induction h with
  | zero h => exact .zero (hf.dvd d _ h)
  | mem h => exact .mem (List.mem_map_of_mem h)
  | add _ _ iu iv => exact (SP.add iu iv).of (hf.add _ _)
  | smul c _ i => exact (SP.smul c i).of (hf.smul c _)
  | cancel m hm _ i => exact .cancel m hm (i.of fun j => (hf.smul m _ j).symm)
theorem comb_map {f : Ve → Ve} (hf : Lin f) (j : Nat) : ∀ (cs : List Int) (R : List Ve), comb cs (R.map f) j = f (comb cs R) j
  | [], R => by
    have := hf.smul 0 (fun _ => 0) j
    have e : comb ([] : List Int) R = fun j => 0 * (fun _ => (0 : Int)) j := by funext j; simp [comb]
    rw [e, this]; cases R <;> simp [comb]
  | c :: cs, [] => by
    have := hf.smul 0 (fun _ => 0) j
    have e : comb (c :: cs) [] = fun j => 0 * (fun _ => (0 : Int)) j := by funext j; simp [comb]
    rw [e, this]; simp [comb]
  | c :: cs, r :: R => by
    show c * f r j + comb cs (R.map f) j = f (fun j => c * r j + comb cs R j) j
    rw [comb_map hf j cs R, hf.add (fun j => c * r j) (comb cs R), hf.smul]
theorem Rk.map {p : Int} {T : List Ve} {r : Nat} {f g : Ve → Ve} (hf : Lin f) (hg : Lin g) (gf : ∀ v j, g (f v) j = v j) (a : Rk p T r) : Rk p (T.map f) r := by
  obtain ⟨R, e, hi, h1, h2⟩ := a.ex
  refine ⟨⟨R.map f, by rw [List.length_map, e], fun cs hl hz c hc => ?_, fun x hx => ?_, fun t ht => ?_⟩⟩
  · refine hi cs (by rw [hl, List.length_map]) (fun j => ?_) c hc
    rw [← gf (comb cs R) j]
    exact hg.dvd p _ (fun j => by rw [← comb_map hf]; exact hz j) j
  · obtain ⟨y, hy, rfl⟩ := List.mem_map.mp hx
    exact SP.map hf (h1 y hy)
  · obtain ⟨y, hy, rfl⟩ := List.mem_map.mp ht
    exact SP.map hf (h2 y hy)
end LA
namespace GT
open PySem PySem.Spec PyProof.Rows L2 RZ GL
/-! ### rules -/
/-- // by any divisor below 2 ^ 9000 in size -/
def CDivX (_ j : Int) : Prop := j ≠ 0 ∧ j.natAbs.log2 < 9000
section
variable {X : Cx}
theorem op_fdivX : OpR X (binaryOp .FloorDiv) (rI CDivX fun i j => .int (i.fdiv j)) := opI fun _ _ _ _ _ _ _ hc q => floordiv_int hc.1 q (.inl (PyProof.noPylong_of_log2 hc.2))
theorem divX {i j : Int} {b : Nat} (h : j ≠ 0) (hb : j.natAbs ≤ 2 ^ b) (h9 : b < 8999) : CDivX i j := by
  have h1 : j.natAbs < 2 ^ 9000 := Nat.lt_of_le_of_lt hb (Nat.pow_lt_pow_right (by decide) (by omega))
  exact ⟨h, PySem.Flt.log2_lt_of (by decide) h1⟩
def tTruK (K : PySem.W.Frag) (ta : TE) : TT := fun σ H Q => ta σ H fun x H' => ∃ k, TruV K x H' k ∧ Q k H'
theorem pt_truthK {K : PySem.W.Frag} {a : Expr} {ta : TE} (ha : PE X a ta) (he : ∀ whole, isTrue a X.env whole = (do let v ← whole; standAt a.pos; holding [v] (truthy v))) (h : X.K = K := by rfl) : PT X a (tTruK K ta) := h ▸ pt_truth ha he
/-- isinstance -/
theorem call_isiK {K : PySem.W.Frag} (h : X.K = K := by rfl) : CallR X (.builtin "isinstance") (rIsi K) := h ▸ call_isi
theorem ty_t {K : PySem.W.Frag} {H : Hp} {a : Addr} {xs : List V} (h : SqT K H a xs) : TyX K H (.ref a) (.type "tuple") := by
  rcases h with (h | ⟨o, h⟩) | ⟨o, its, n, hk, hc, _⟩
  · exact .base (.tup h)
  · exact .fTuple h
  · exact .kTuple hk hc
/-- a test, told only by what its answer must be -/
def tCutT (t : TT) : TT := fun σ H Q => ∃ R : Bool → Hp → Prop, t σ H R ∧ ∀ b H', R b H' → Q b H'
theorem pt_cutT {e : Expr} {t : TT} (h : PT X e t) : PT X e (tCutT t) := ⟨fun pins s σ H Q I ⟨R, hw, m⟩ => thn (h.run pins s σ H R I hw) fun _ _ ⟨H1, I1, q⟩ => ⟨H1, I1, m _ H1 q⟩⟩
/-- any of a tuple of ints -/
def rAnyT (K : PySem.W.Frag) : List V → Hp → VK → Prop := fun vs H Q => ∃ (a : Addr) (ns : List Int), vs = [V.ref a] ∧ SqT K H a (ns.map V.int) ∧ Q (.bl (ns.any fun n => n != 0)) H
theorem cr_anyT0 (calm : X.calm = true) : CallR X (.builtin "any") (rAnyT X.K) := by
  intro pins s σ H vs us Q I r h
  obtain ⟨a, ns, rfl, hs, q⟩ := h
  obtain ⟨its, rv, hl, _⟩ := I.tuple hs
  have en : its.length = ns.length := by rw [← rv.length, List.length_map]
  rw [Vals.ref1 r]
  have hT : s.heap.IsTuple a its.toArray := hl
  have hlt : a < s.heap.objs.size := by obtain ⟨_, e, _⟩ := hl; exact Heap.lt_size e
  refine call_any_walk (wpAny_pyIter_tuple hT ?_)
  refine ⟨_, _, _, _, _, _, _, rfl, Walks.tuple (A := X.A.in1) (I.ok.hd calm) _ a (Nat.ne_of_lt hlt) its.toArray, ⟨⟨_, Heap.get?_push_size _ rfl, rfl, rfl⟩, hT.push _⟩, truth_intsG rv, ?_⟩
  intro h' tk hk
  refine ⟨.bl _, H, I.kept (fun b o eo => hk b o (fun hm => ?_) (Heap.get?_push_of_some _ eo)), ?_, q⟩
  · rcases List.mem_cons.mp hm with e1 | hm
    · exact absurd (e1 ▸ Heap.lt_size eo) (Nat.lt_irrefl _)
    · cases hm
  · have ea := any_range (ns.map fun n => n != 0)
    rw [List.length_map] at ea
    show Value.bool _ = Value.bool _
    rw [List.size_toArray, en, ea, List.any_map]
    rfl
theorem cr_anyT {K : PySem.W.Frag} (calm : X.calm = true) (h : X.K = K := by rfl) : CallR X (.builtin "any") (rAnyT K) := h ▸ cr_anyT0 calm
end
/-! ### rows -/
inductive Rw (K : PySem.W.Frag) (H : Hp) : List V → List (List Int) → Prop
  | nil : Rw K H [] []
  | cons {p : Addr} {l : List Int} {xs : List V} {T : List (List Int)} (h : SqT K H p (l.map V.int)) (r : Rw K H xs T) : Rw K H (.ref p :: xs) (l :: T)
section
variable {K : PySem.W.Frag} {H H' : Hp} {xs ys : List V} {T S : List (List Int)}
theorem Rw.len (h : Rw K H xs T) : xs.length = T.length := by
  induction h with
  | nil => rfl
  | cons _ _ ih => rw [List.length_cons, List.length_cons, ih]
theorem Rw.to (h : Rw K H xs T) (f : ∀ p l, SqT K H p l → SqT K H' p l) : Rw K H' xs T := by
  induction h with
  | nil => exact .nil
  | cons h _ ih => exact .cons (f _ _ h) ih
theorem Rw.same (h : Rw K H xs T) (s : Same H H') : Rw K H' xs T := h.to fun _ _ => Same.tup s
theorem Rw.app (h : Rw K H xs T) (g : Rw K H ys S) : Rw K H (xs ++ ys) (T ++ S) := by
  induction h with
  | nil => exact g
  | cons h _ ih => exact .cons h ih
theorem Rw.one {p : Addr} {l : List Int} (h : SqT K H p (l.map V.int)) : Rw K H [.ref p] [l] := .cons h .nil
theorem Rw.get (h : Rw K H xs T) {i : Nat} {x : V} (e : xs[i]? = some x) : ∃ p l, x = .ref p ∧ T[i]? = some l ∧ SqT K H p (l.map V.int) := by
  induction h generalizing i with
  | nil => cases e
  | cons h _ ih =>
    match i, e with
    | 0, e => cases e; exact ⟨_, _, rfl, rfl, h⟩
    | i + 1, e => exact ih e
theorem Rw.getT (h : Rw K H xs T) {i : Nat} {l : List Int} (e : T[i]? = some l) : ∃ p, xs[i]? = some (.ref p) ∧ SqT K H p (l.map V.int) := by
  induction h generalizing i with
  | nil => cases e
  | cons h _ ih =>
    match i, e with
    | 0, e => cases e; exact ⟨_, rfl, h⟩
    | i + 1, e => exact ih e
theorem Rw.drop (h : Rw K H xs T) (n : Nat) : Rw K H (xs.drop n) (T.drop n) := by
  induction h generalizing n with
  | nil => rw [List.drop_nil, List.drop_nil]; exact .nil
  | cons h r ih =>
    match n with
    | 0 => exact .cons h r
    | n + 1 => exact ih n
theorem Rw.dpa (h : Rw K H xs T) : DpAll K H xs (T.map fun l => .tuple (l.map PyData.int)) := by
  induction h with
  | nil => exact .nil
  | cons h _ ih => exact .cons (.tup h (dpa_ints _)) ih
end
theorem sqt_upd {K : PySem.W.Frag} {H : Hp} {a D : Addr} {xs ys : List V} {o : HO} (h : SqT K H a xs) (hD : H D = some (.lst ys)) : SqT K (upd H D o) a xs := by
  rcases h with (h | ⟨u, h⟩) | h
  · exact .inl (.inl (by rw [upd_ne (ne_of h hD (fun z => nomatch z))]; exact h))
  · exact .inl (.inr ⟨u, by rw [upd_ne (ne_of h hD (fun z => nomatch z))]; exact h⟩)
  · exact .inr h
theorem Rw.upd {K : PySem.W.Frag} {H : Hp} {xs : List V} {T : List (List Int)} {D : Addr} {ys : List V} {o : HO} (h : Rw K H xs T) (hD : H D = some (.lst ys)) : Rw K (upd H D o) xs T := h.to fun _ _ z => sqt_upd z hD
theorem smut {H H2 : Hp} {D : Addr} {o : HO} (s : Same H H2) (n : H D = none) : Same H (upd H2 D o) := fun b u hb => by
  rw [upd_ne (ne_of_none hb n)]; exact s _ _ hb
theorem sq_tup {K : PySem.W.Frag} {H : Hp} {a : Addr} {xs : List V} (h : H a = some (.tup xs)) : SqT K H a xs := tofT h
theorem sq_lst {K : PySem.W.Frag} {H : Hp} {a : Addr} {xs : List V} (h : H a = some (.lst xs)) : SqL K H a xs := tofL h
/-! ### vectors of rows -/
def vec (l : List Int) : LA.Ve := fun j => l.getD j 0
theorem vec_nil : vec [] = fun _ => 0 := by funext j; simp [vec]
theorem vec_at {l : List Int} {j : Nat} {x : Int} (h : l[j]? = some x) : vec l j = x := by unfold vec; rw [List.getD_eq_getElem?_getD, h]; rfl
theorem vec_out {l : List Int} {j : Nat} (h : l.length ≤ j) : vec l j = 0 := by unfold vec; rw [List.getD_eq_getElem?_getD, List.getElem?_eq_none h]; rfl
theorem at_vec {l : List Int} {j : Nat} (h : j < l.length) : l[j]? = some (vec l j) := by
  rw [vec_at (List.getElem?_eq_getElem h)]; exact List.getElem?_eq_getElem h
theorem vec_inj {l m : List Int} (h : l.length = m.length) (e : ∀ j, vec l j = vec m j) : l = m := by
  refine List.ext_getElem? fun j => ?_
  by_cases hj : j < l.length
  · rw [at_vec hj, at_vec (h ▸ hj), e]
  · rw [List.getElem?_eq_none (by omega), List.getElem?_eq_none (by omega)]
theorem atV {l : List Int} {j : Nat} (h : j < l.length) : atI (l.map V.int) (j : Int) = some (.int (vec l j)) := atI_nat (by rw [List.getElem?_map, at_vec h]; rfl)
theorem mapV {l : List Int} {j : Nat} (h : j < l.length) : (l.map V.int)[j]? = some (.int (vec l j)) := by rw [List.getElem?_map, at_vec h]; rfl
theorem at0 {α : Type} {x : α} {xs : List α} : atI (x :: xs) 0 = some x := atI_nat (j := 0) rfl
/-- all entries at most so great -/
def Bd (b : Nat) (l : List Int) : Prop := ∀ j, (vec l j).natAbs ≤ b
theorem Bd.mem {b : Nat} {l : List Int} (h : Bd b l) {x : Int} (hx : x ∈ l) : x.natAbs ≤ b := by
  obtain ⟨j, hj, rfl⟩ := List.getElem_of_mem hx
  have := h j
  rwa [vec_at (List.getElem?_eq_getElem hj)] at this
theorem Bd.of {b : Nat} {l : List Int} (h : ∀ x ∈ l, x.natAbs ≤ b) : Bd b l := fun j => by
  by_cases hj : j < l.length
  · rw [vec_at (List.getElem?_eq_getElem hj)]; exact h _ (List.getElem_mem hj)
  · rw [vec_out (by omega)]; exact Nat.zero_le _
theorem Bd.mono {b c : Nat} {l : List Int} (h : Bd b l) (hc : b ≤ c) : Bd c l := fun j => Nat.le_trans (h j) hc
/-- a row less a multiple of another one -/
def lessI (ns ms : List Int) (t : Int) : List Int := List.zipWith (fun x y => x - t * y) ns ms
theorem lessI_len {ns ms : List Int} {t : Int} (h : ns.length = ms.length) : (lessI ns ms t).length = ns.length := by unfold lessI; rw [List.length_zipWith]; omega
theorem lessI_at {ns ms : List Int} {t a b : Int} {i : Nat} (h1 : ns[i]? = some a) (h2 : ms[i]? = some b) : (lessI ns ms t)[i]? = some (a - t * b) := by unfold lessI; rw [List.getElem?_zipWith, h1, h2]
theorem vec_less {ns ms : List Int} {t : Int} (h : ns.length = ms.length) (j : Nat) : vec (lessI ns ms t) j = vec ns j - t * vec ms j := by
  by_cases hj : j < ns.length
  · exact vec_at (lessI_at (at_vec hj) (at_vec (h ▸ hj)))
  · rw [vec_out (by rw [lessI_len h]; omega), vec_out (by omega), vec_out (by omega)]; omega
theorem mulX_ok {i j : Int} {a b : Nat} (ha : i.natAbs ≤ 2 ^ a) (hb : j.natAbs ≤ 2 ^ b) (h : a + b + 2 ≤ 134217728) : CMulX i j :=
  mulx_ok (a := a + 1) (b := b + 1) (Nat.lt_of_le_of_lt ha (Nat.pow_lt_pow_right (by decide) (by omega))) (Nat.lt_of_le_of_lt hb (Nat.pow_lt_pow_right (by decide) (by omega))) (by omega)
end GT
namespace GT
open LA (SP Only1 mu1)
abbrev Spn (T : List LA.Ve) (v : LA.Ve) : Prop := SP 0 Only1 T v
/-! ### one step of Euclid's way, on rows -/
theorem fdiv_facts {a m : Int} (hm : m ≠ 0) : 0 ≤ (a - a.fdiv m * m) * m ∧ (a - a.fdiv m * m).natAbs < m.natAbs ∧
    (0 ≤ a * m → (a.fdiv m * m).natAbs + (a - a.fdiv m * m).natAbs = a.natAbs) ∧ (a.fdiv m * m).natAbs ≤ a.natAbs + m.natAbs := by
  rcases Int.lt_or_gt_of_ne hm with h | h
  · have e : a.fdiv m = (-a) / (-m) := by
      rw [← Int.neg_fdiv_neg, Int.fdiv_eq_ediv_of_nonneg _ (by omega)]
    have r0 := Int.emod_nonneg (-a) (show -m ≠ 0 by omega)
    have r1 := Int.emod_lt_of_pos (-a) (show 0 < -m by omega)
    have ed := Int.emod_def (-a) (-m)
    rw [← e] at ed
    have ex : -m * a.fdiv m = -(a.fdiv m * m) := by rw [Int.neg_mul, Int.mul_comm]
    rw [ex] at ed
    refine ⟨?_, by omega, fun s => ?_, by omega⟩
    · exact Int.mul_nonneg_of_nonpos_of_nonpos (by omega) (by omega)
    · have a0 : a ≤ 0 := Int.not_lt.mp fun z => absurd (Int.mul_neg_of_pos_of_neg z h) (by omega)
      have q0 : 0 ≤ a.fdiv m := by rw [e]; exact Int.ediv_nonneg (by omega) (by omega)
      have : a.fdiv m * m ≤ 0 := Int.mul_nonpos_of_nonneg_of_nonpos q0 (by omega)
      omega
  · have e : a.fdiv m = a / m := Int.fdiv_eq_ediv_of_nonneg _ (by omega)
    have r0 := Int.emod_nonneg a hm
    have r1 := Int.emod_lt_of_pos a h
    have ed := Int.emod_def a m
    rw [← e, Int.mul_comm] at ed
    refine ⟨Int.mul_nonneg (by omega) (by omega), by omega, fun s => ?_, by omega⟩
    have a0 : 0 ≤ a := Int.not_lt.mp fun z => absurd (Int.mul_neg_of_neg_of_pos z h) (by omega)
    have q0 : 0 ≤ a.fdiv m := by rw [e]; exact Int.ediv_nonneg a0 (by omega)
    have := Int.mul_nonneg q0 (show 0 ≤ m by omega)
    omega
theorem Bd.less {x y : Nat} {ns ms : List Int} {t : Int} (h : ns.length = ms.length) (hx : Bd x ns) (hy : Bd y ms) : Bd (x + t.natAbs * y) (lessI ns ms t) := fun j => by
  rw [vec_less h]
  have h1 := hx j
  have h2 : (t * vec ms j).natAbs ≤ t.natAbs * y := by rw [Int.natAbs_mul]; exact Nat.mul_le_mul_left _ (hy j)
  omega
/-- the state of the inner loop: lead and low, begun with L0 and R0 -/
structure WI (w c b X K1 : Nat) (L0 R0 lead low : List Int) : Prop where
  l1 : lead.length = w
  l2 : low.length = w
  b1 : (vec lead c).natAbs ≤ 2 ^ b
  b2 : (vec low c).natAbs ≤ 2 ^ b
  s1 : Spn [vec L0, vec R0] (vec lead)
  s2 : Spn [vec L0, vec R0] (vec low)
  t1 : Spn [vec lead, vec low] (vec L0)
  t2 : Spn [vec lead, vec low] (vec R0)
  bd : ∃ x y : Nat, Bd x lead ∧ Bd y low ∧ x ≤ X ∧ y ≤ X ∧ (vec low c ≠ 0 → x * (vec low c).natAbs + y * (vec lead c).natAbs ≤ K1 ∧ (0 ≤ vec lead c * vec low c ∨ x * (vec low c).natAbs + y * ((vec lead c).natAbs + 2 * (vec low c).natAbs) ≤ K1))
  z1 : vec lead c = 0 → ∀ j, vec lead j = 0
  z2 : vec L0 c = 0 → (lead = L0 ∧ low = R0) ∨ ∀ j, vec low j = 0
  z3 : vec lead c = 0 → lead = L0 ∧ low = R0
  ex : vec R0 c = 0 → lead = L0 ∧ low = R0
  ey : vec L0 c = 0 → vec R0 c ≠ 0 → vec low c = 0 → lead = R0 ∧ ∀ j, vec low j = 0
  ez : vec low c ≠ 0 → vec L0 c = 0 → lead = L0 ∧ low = R0
theorem WI.step {w c b X K1 : Nat} {L0 R0 lead low : List Int} (h : WI w c b X K1 L0 R0 lead low) (hK : K1 ≤ X) (hn : vec low c ≠ 0) :
    ((vec lead c).fdiv (vec low c)).natAbs ≤ 2 ^ (b + 1) ∧ (vec (lessI lead low ((vec lead c).fdiv (vec low c))) c).natAbs < (vec low c).natAbs ∧
    WI w c b X K1 L0 R0 low (lessI lead low ((vec lead c).fdiv (vec low c))) := by
  obtain ⟨f1, f2, f3, f4⟩ := fdiv_facts (a := vec lead c) hn
  have el : lead.length = low.length := by rw [h.l1, h.l2]
  have h1 := h.b1
  have h2 := h.b2
  have m1 : 1 ≤ (vec low c).natAbs := by omega
  have pm : (((vec lead c).fdiv (vec low c)) * vec low c).natAbs = ((vec lead c).fdiv (vec low c)).natAbs * (vec low c).natAbs := Int.natAbs_mul _ _
  generalize hq : (vec lead c).fdiv (vec low c) = q at *
  have qb : q.natAbs ≤ 2 ^ (b + 1) := by
    rw [Nat.pow_succ]
    rw [pm] at f4
    have e : q.natAbs * (vec low c).natAbs ≤ (2 ^ b * 2) * (vec low c).natAbs := by
      refine Nat.le_trans f4 ?_
      have : (vec lead c).natAbs ≤ 2 ^ b * (vec low c).natAbs := Nat.le_trans h1 (Nat.le_mul_of_pos_right _ (by omega))
      have : (vec low c).natAbs ≤ 2 ^ b * (vec low c).natAbs := Nat.le_mul_of_pos_left _ (Nat.pow_pos (by decide))
      rw [Nat.mul_assoc, Nat.mul_comm 2, ← Nat.mul_assoc]
      omega
    exact Nat.le_of_mul_le_mul_right e (by omega)
  have er := vec_less (t := q) el c
  have ev := vec_less (t := q) el
  refine ⟨qb, by rw [er]; exact f2, ⟨h.l2, by rw [lessI_len el, h.l1], h2, by rw [er]; omega, h.s2, (SP.sub q h.s1 h.s2).of ev, ?_, ?_, ?_, fun z => absurd z hn, fun z => .inr fun j => ?_, fun z => absurd z hn, fun z => ?_, fun z1 z2 _ => ⟨(h.ez hn z1).2, fun j => ?_⟩, fun hn' z1 => ?_⟩⟩
  · refine h.t1.trans fun t ht => ?_
    rcases List.mem_cons.mp ht with rfl | ht
    · exact (SP.lin 1 q (.mem (List.mem_cons_of_mem _ List.mem_cons_self)) (.mem (List.mem_cons_self (a := vec low)))).of fun j => by rw [ev]; omega
    · rw [List.mem_singleton.mp ht]; exact .mem List.mem_cons_self
  · refine h.t2.trans fun t ht => ?_
    rcases List.mem_cons.mp ht with rfl | ht
    · exact (SP.lin 1 q (.mem (List.mem_cons_of_mem _ List.mem_cons_self)) (.mem (List.mem_cons_self (a := vec low)))).of fun j => by rw [ev]; omega
    · rw [List.mem_singleton.mp ht]; exact .mem List.mem_cons_self
  · obtain ⟨x, y, bx, by', xX, yX, kk⟩ := h.bd
    obtain ⟨k1, k2⟩ := kk hn
    have key : y * (vec lead c - q * vec low c).natAbs + (x + q.natAbs * y) * (vec low c).natAbs ≤ K1 := by
      have e2 : q.natAbs * y * (vec low c).natAbs = y * (q.natAbs * (vec low c).natAbs) := by rw [Nat.mul_comm q.natAbs y, Nat.mul_assoc]
      rw [Nat.add_mul, e2, ← pm]
      rcases k2 with k2 | k2
      · have := f3 k2
        rw [← this, Nat.mul_add] at k1
        omega
      · have le : (q * vec low c).natAbs + (vec lead c - q * vec low c).natAbs ≤ (vec lead c).natAbs + 2 * (vec low c).natAbs := by omega
        have := Nat.mul_le_mul_left y le
        rw [Nat.mul_add] at this
        omega
    refine ⟨y, x + q.natAbs * y, by', bx.less el by', yX, ?_, fun _ => ⟨by rw [er]; exact key, .inl (by rw [er, Int.mul_comm]; exact f1)⟩⟩
    refine Nat.le_trans ?_ hK
    have : (x + q.natAbs * y) * 1 ≤ (x + q.natAbs * y) * (vec low c).natAbs := Nat.mul_le_mul_left _ m1
    omega
  · rcases h.z2 z with ⟨e1, e2⟩ | zl
    · rw [ev]
      have zz : vec lead c = 0 := by rw [e1]; exact z
      have q0 : q = 0 := by rw [← hq, zz, Int.zero_fdiv]
      rw [h.z1 zz j, q0]; omega
    · exact absurd (zl c) hn
  · have := h.ex z
    rw [this.2] at hn
    exact absurd z hn
  · have e := h.ez hn z1
    have zz : vec lead c = 0 := by rw [e.1]; exact z1
    have q0 : q = 0 := by rw [← hq, zz, Int.zero_fdiv]
    rw [ev, h.z1 zz j, q0]; omega
  · have e := h.ez hn z1
    have zz : vec lead c = 0 := by rw [e.1]; exact z1
    have q0 : q = 0 := by rw [← hq, zz, Int.zero_fdiv]
    refine absurd ?_ hn'
    rw [er, h.z1 zz c, q0]; omega
def nzI (l : List Int) : Bool := l.any fun n => n != 0
theorem nz_iff {l : List Int} : nzI l = false ↔ ∀ j, vec l j = 0 := by
  unfold nzI
  rw [List.any_eq_false]
  constructor
  · intro h j
    by_cases hj : j < l.length
    · rw [vec_at (List.getElem?_eq_getElem hj)]
      simpa using h _ (List.getElem_mem hj)
    · exact vec_out (by omega)
  · intro h x hx
    obtain ⟨j, hj, rfl⟩ := List.getElem_of_mem hx
    have := h j
    rw [vec_at (List.getElem?_eq_getElem hj)] at this
    simpa using this
/-! ### the outer loop -/
def En (b k : Nat) : Nat := 2 ^ (b + (b + 2) * (k - 1))
theorem En_le {b k : Nat} : En b k ≤ En b (k + 1) := Nat.pow_le_pow_right (by decide) (Nat.add_le_add_left (Nat.mul_le_mul_left _ (by omega)) _)
theorem En_b {b k : Nat} : 2 ^ b ≤ En b k := Nat.pow_le_pow_right (by decide) (Nat.le_add_right _ _)
theorem En_four {b k : Nat} (h : 1 ≤ k) : 4 * (2 ^ b * En b k) ≤ En b (k + 1) := by
  obtain ⟨j, rfl⟩ : ∃ j, k = j + 1 := ⟨k - 1, by omega⟩
  unfold En
  rw [← Nat.pow_add, show 4 = 2 ^ 2 from rfl, ← Nat.pow_add]
  refine Nat.pow_le_pow_right (by decide) ?_
  simp only [Nat.add_sub_cancel]
  rw [show (b + 2) * (j + 1) = (b + 2) * j + (b + 2) from Nat.mul_succ _ _]
  omega
def zc (c : Nat) (S : List (List Int)) : Nat := (S.filter fun t => vec t c != 0).length
theorem zc_snoc {c : Nat} {S : List (List Int)} {t : List Int} : zc c (S ++ [t]) = zc c S + if vec t c = 0 then 0 else 1 := by
  unfold zc
  rw [List.filter_append, List.length_append]
  by_cases h : vec t c = 0
  · rw [if_pos h, List.filter_cons_of_neg (by simp [h])]; rfl
  · rw [if_neg h, List.filter_cons_of_pos (by simpa using h)]; rfl
theorem zc_le {c : Nat} {S : List (List Int)} : zc c S ≤ S.length := List.length_filter_le _ _
theorem En_mono {b j k : Nat} (h : j ≤ k) : En b j ≤ En b k := Nat.pow_le_pow_right (by decide) (Nat.add_le_add_left (Nat.mul_le_mul_left _ (by omega)) _)
structure GI (w c b : Nat) (T : List (List Int)) (k : Nat) (lead : List Int) (rest : List (List Int)) : Prop where
  l1 : lead.length = w
  l2 : ∀ r ∈ rest, r.length = w
  ln : rest.length = k
  z0 : ∀ r ∈ rest, vec r c = 0
  z1 : vec lead c = 0 → ∀ j, vec lead j = 0
  z2 : vec lead c ≠ 0 → ∃ z ∈ rest, ∀ j, vec z j = 0
  b0 : (vec lead c).natAbs ≤ 2 ^ b
  b1 : Bd (En b (zc c (T.take k))) lead
  b2 : ∀ r ∈ rest, Bd (En b (zc c (T.take k))) r
  ex : zc c (T.take k) ≤ 1 → rest.filter nzI = ((T.take k).filter fun t => vec t c == 0).filter nzI ∧ ∀ t ∈ T.take k, vec t c ≠ 0 → lead = t
  s1 : Spn ((T.take k).map vec) (vec lead)
  s2 : ∀ r ∈ rest, Spn ((T.take k).map vec) (vec r)
  s3 : ∀ t ∈ T.take k, Spn (vec lead :: rest.map vec) (vec t)
  z3 : vec lead c = 0 → ∀ r ∈ rest, r ∈ T
theorem GI.nil {w c b : Nat} {T : List (List Int)} {lead : List Int} (h : lead.length = w) (z : ∀ j, vec lead j = 0) : GI w c b T 0 lead [] :=
  ⟨h, fun _ h => absurd h List.not_mem_nil, rfl, fun _ h => absurd h List.not_mem_nil, fun _ => z, fun y => absurd (z c) y, by rw [z c]; exact Nat.zero_le _, fun j => by rw [z j]; exact Nat.zero_le _, fun _ h => absurd h List.not_mem_nil, fun _ => ⟨rfl, fun _ h => absurd h List.not_mem_nil⟩, .zero fun j => by rw [z j]; exact Int.dvd_refl 0, fun _ h => absurd h List.not_mem_nil, fun _ h => absurd h List.not_mem_nil, fun _ _ h => absurd h List.not_mem_nil⟩
theorem take_snoc {T : List (List Int)} {k : Nat} {R0 : List Int} (hk : T[k]? = some R0) : T.take (k + 1) = T.take k ++ [R0] := by rw [List.take_add_one, hk]; rfl
/-- the inner loop's begin -/
theorem GI.start {w c b k : Nat} {T : List (List Int)} {lead : List Int} {rest : List (List Int)} (h : GI w c b T k lead rest) {R0 : List Int} (hk : T[k]? = some R0) (hl : R0.length = w) (hb : Bd (2 ^ b) R0) : ∃ K1, K1 ≤ En b (zc c (T.take (k + 1))) ∧ WI w c b (En b (zc c (T.take (k + 1)))) K1 lead R0 lead R0 := by
  have h1 := h.b0
  have h2 := hb c
  have m1 : Spn [vec lead, vec R0] (vec lead) := .mem List.mem_cons_self
  have m2 : Spn [vec lead, vec R0] (vec R0) := .mem (List.mem_cons_of_mem _ List.mem_cons_self)
  rw [take_snoc hk, zc_snoc]
  by_cases y : vec R0 c = 0
  · rw [if_pos y, Nat.add_zero]
    exact ⟨0, Nat.zero_le _, h.l1, hl, h1, h2, m1, m2, m1, m2, ⟨_, 2 ^ b, h.b1, hb, Nat.le_refl _, En_b, fun z => absurd y z⟩, h.z1, fun _ => .inl ⟨rfl, rfl⟩, fun _ => ⟨rfl, rfl⟩, fun _ => ⟨rfl, rfl⟩, fun _ h1 h2 => absurd h2 h1, fun _ _ => ⟨rfl, rfl⟩⟩
  rw [if_neg y]
  by_cases z : vec lead c = 0
  · refine ⟨0, Nat.zero_le _, h.l1, hl, h1, h2, m1, m2, m1, m2, ⟨0, 2 ^ b, fun j => by rw [h.z1 z j]; exact Nat.le_refl _, hb, Nat.zero_le _, En_b, fun _ => ⟨?_, .inl ?_⟩⟩, h.z1, fun _ => .inl ⟨rfl, rfl⟩, fun _ => ⟨rfl, rfl⟩, fun _ => ⟨rfl, rfl⟩, fun _ h1 h2 => absurd h2 h1, fun _ _ => ⟨rfl, rfl⟩⟩
    · rw [z]; simp
    · rw [z]; simp
  · have k1 : 1 ≤ zc c (T.take k) := by
      refine Nat.lt_of_not_le fun le => z ?_
      have e0 : zc c (T.take k) = 0 := by omega
      have nil := List.eq_nil_of_length_eq_zero e0
      have := SP.van (mu1 0) h.s1 (j := c) fun t ht => by
        obtain ⟨r, hr, rfl⟩ := List.mem_map.mp ht
        have := (List.filter_eq_nil_iff.mp nil) r hr
        have e : vec r c = 0 := by simpa using this
        rw [e]; exact Int.dvd_refl 0
      exact Int.zero_dvd.mp this
    refine ⟨En b (zc c (T.take k) + 1), Nat.le_refl _, h.l1, hl, h1, h2, m1, m2, m1, m2, ⟨En b (zc c (T.take k)), 2 ^ b, h.b1, hb, En_le, En_b, fun _ => ⟨?_, .inr ?_⟩⟩, h.z1, fun y => absurd y z, fun _ => ⟨rfl, rfl⟩, fun _ => ⟨rfl, rfl⟩, fun _ h1 h2 => absurd h2 h1, fun _ _ => ⟨rfl, rfl⟩⟩
    all_goals
      have g4 := En_four (b := b) k1
      have ge : 2 ^ b ≤ En b (zc c (T.take k)) := En_b
      have x1 : En b (zc c (T.take k)) * (vec R0 c).natAbs ≤ 2 ^ b * En b (zc c (T.take k)) := by rw [Nat.mul_comm]; exact Nat.mul_le_mul_right _ h2
      have x2 : 2 ^ b * (vec lead c).natAbs ≤ 2 ^ b * En b (zc c (T.take k)) := Nat.mul_le_mul_left _ (Nat.le_trans h1 ge)
      have x3 : 2 ^ b * (2 * (vec R0 c).natAbs) ≤ 2 * (2 ^ b * En b (zc c (T.take k))) := by
        have := Nat.mul_le_mul_left (2 ^ b) (Nat.le_trans h2 ge)
        rw [show 2 ^ b * (2 * (vec R0 c).natAbs) = 2 * (2 ^ b * (vec R0 c).natAbs) by rw [Nat.mul_left_comm]]
        omega
      first | omega | (rw [Nat.mul_add]; omega)
theorem GI.next {w c b k K1 : Nat} {T : List (List Int)} {L0 R0 lead low : List Int} {rest : List (List Int)} (h : GI w c b T k L0 rest) (hk : T[k]? = some R0) (W : WI w c b (En b (zc c (T.take (k + 1)))) K1 L0 R0 lead low) (z : vec low c = 0) : GI w c b T (k + 1) lead (rest ++ [low]) := by
  have tk : T.take (k + 1) = T.take k ++ [R0] := by rw [List.take_add_one, hk]; rfl
  have up : ∀ v, Spn [vec L0, vec R0] v → Spn ((T.take (k + 1)).map vec) v := fun v hv => hv.trans fun t ht => by
    rw [tk, List.map_append]
    rcases List.mem_cons.mp ht with rfl | ht
    · exact h.s1.mono fun t ht => List.mem_append_left _ ht
    · rw [List.mem_singleton.mp ht]; exact .mem (List.mem_append_right _ List.mem_cons_self)
  have dn : ∀ v, Spn [vec lead, vec low] v → Spn (vec lead :: (rest ++ [low]).map vec) v := fun v hv => hv.trans fun t ht => by
    rw [List.map_append]
    rcases List.mem_cons.mp ht with rfl | ht
    · exact .mem List.mem_cons_self
    · rw [List.mem_singleton.mp ht]; exact .mem (List.mem_cons_of_mem _ (List.mem_append_right _ List.mem_cons_self))
  obtain ⟨x, y, bx, by', xX, yX, _⟩ := W.bd
  have sp := fun {p : List Int → Prop} (h1 : ∀ r ∈ rest, p r) (h2 : p low) (r : List Int) (hr : r ∈ rest ++ [low]) => show p r by
    rcases List.mem_append.mp hr with hr | hr
    · exact h1 r hr
    · rw [List.mem_singleton.mp hr]; exact h2
  refine ⟨W.l1, sp h.l2 W.l2, by rw [List.length_append, h.ln]; rfl, sp h.z0 z, W.z1, fun hn => ?_, W.b1, bx.mono xX, sp (fun r hr => (h.b2 r hr).mono (En_mono (by rw [tk, zc_snoc]; omega))) (by'.mono yX), fun hz1 => ?_, up _ W.s1, sp (fun r hr => ?_) (up _ W.s2), fun t ht => ?_, fun hz => ?_⟩
  · by_cases zz : vec L0 c = 0
    · rcases W.z2 zz with ⟨e1, _⟩ | zl
      · exact absurd (e1 ▸ zz) hn
      · exact ⟨low, List.mem_append_right _ List.mem_cons_self, zl⟩
    · obtain ⟨y, hy, hz⟩ := h.z2 zz
      exact ⟨y, List.mem_append_left _ hy, hz⟩
  · rw [tk, zc_snoc] at hz1
    obtain ⟨ex1, ex2⟩ := h.ex (by omega)
    by_cases y : vec R0 c = 0
    · -- nothing done
      have e : lead = L0 ∧ low = R0 := W.ex y
      refine ⟨?_, fun t ht hn => ?_⟩
      · rw [tk, List.filter_append, List.filter_append, List.filter_append, ex1, e.2, List.filter_cons_of_pos (p := fun t : List Int => vec t c == 0) (by simpa using y), List.filter_nil]
      · rw [tk] at ht
        rcases List.mem_append.mp ht with ht | ht
        · rw [e.1]; exact ex2 t ht hn
        · rw [List.mem_singleton.mp ht] at hn; exact absurd y hn
    · rw [if_neg y] at hz1
      have nil := List.eq_nil_of_length_eq_zero (show zc c (T.take k) = 0 by omega)
      have all0 : ∀ t ∈ T.take k, vec t c = 0 := fun t ht => by simpa using (List.filter_eq_nil_iff.mp nil) t ht
      have L0c : vec L0 c = 0 := by
        have := SP.van (mu1 0) h.s1 (j := c) fun t ht => by
          obtain ⟨r, hr, rfl⟩ := List.mem_map.mp ht
          rw [all0 r hr]; exact Int.dvd_refl 0
        exact Int.zero_dvd.mp this
      obtain ⟨e1, e2⟩ := W.ey L0c y z
      refine ⟨?_, fun t ht hn => ?_⟩
      · rw [tk, List.filter_append, List.filter_append, List.filter_append, ex1, List.filter_cons_of_neg (by rw [nz_iff.mpr e2]; decide), List.filter_cons_of_neg (p := fun t : List Int => vec t c == 0) (by simpa using y)]
        rfl
      · rw [tk] at ht
        rcases List.mem_append.mp ht with ht | ht
        · exact absurd (all0 t ht) hn
        · rw [e1, List.mem_singleton.mp ht]
  · rw [tk, List.map_append]
    exact (h.s2 r hr).mono fun t ht => List.mem_append_left _ ht
  · rw [tk] at ht
    rcases List.mem_append.mp ht with ht | ht
    · refine (h.s3 t ht).trans fun u hu => ?_
      rcases List.mem_cons.mp hu with rfl | hu
      · exact dn _ W.t1
      · refine .mem (List.mem_cons_of_mem _ ?_)
        rw [List.map_append]; exact List.mem_append_left _ hu
    · rw [List.mem_singleton.mp ht]; exact dn _ W.t2
  · obtain ⟨e1, e2⟩ := W.z3 hz
    refine sp (h.z3 (e1 ▸ hz)) ?_
    rw [e2]; exact List.mem_of_getElem? hk
/-- what is told in the end -/
structure GE (w c b : Nat) (T : List (List Int)) (lead : List Int) (rest : List (List Int)) : Prop where
  l1 : lead.length = w
  l2 : ∀ r ∈ rest, r.length = w
  ln : rest.length ≤ T.length
  ln1 : vec lead c ≠ 0 → rest.length + 1 ≤ T.length
  z0 : ∀ r ∈ rest, vec r c = 0
  z1 : vec lead c = 0 → ∀ j, vec lead j = 0
  pos : 0 ≤ vec lead c
  b0 : (vec lead c).natAbs ≤ 2 ^ b
  b1 : Bd (En b T.length) lead
  b2 : ∀ r ∈ rest, Bd (En b T.length) r
  ex : zc c T ≤ 1 → rest = (T.filter fun t => vec t c == 0).filter nzI ∧ ∀ t ∈ T, 0 < vec t c → lead = t
  s1 : Spn (T.map vec) (vec lead)
  s2 : ∀ r ∈ rest, Spn (T.map vec) (vec r)
  s3 : ∀ t ∈ T, Spn (vec lead :: rest.map vec) (vec t)
  z3 : vec lead c = 0 → ∀ r ∈ rest, r ∈ T
def negI (l : List Int) : List Int := l.map fun x => -x
theorem vec_neg (l : List Int) (j : Nat) : vec (negI l) j = - vec l j := by
  by_cases hj : j < l.length
  · exact vec_at (by unfold negI; rw [List.getElem?_map, at_vec hj]; rfl)
  · rw [vec_out (by unfold negI; rw [List.length_map]; omega), vec_out (by omega)]; rfl
theorem GI.done {w c b : Nat} {T : List (List Int)} {L0 lead : List Int} {rest : List (List Int)} (h : GI w c b T T.length L0 rest) (hl : lead = if vec L0 c < 0 then negI L0 else L0) : GE w c b T lead (rest.filter nzI) := by
  have tk : T.take T.length = T := List.take_length
  have len := h.ln
  have hs : ∃ e : Int, (e = 1 ∨ e = -1) ∧ lead.length = w ∧ (∀ j, vec lead j = e * vec L0 j) ∧ 0 ≤ vec lead c := by
    by_cases z : vec L0 c < 0
    · rw [if_pos z] at hl
      subst hl
      exact ⟨-1, .inr rfl, by unfold negI; rw [List.length_map]; exact h.l1, fun j => by rw [vec_neg]; omega, by rw [vec_neg]; omega⟩
    · rw [if_neg z] at hl
      subst hl
      exact ⟨1, .inl rfl, h.l1, fun j => by omega, by omega⟩
  obtain ⟨e, he, hl1, hv, hp⟩ := hs
  have na : ∀ j, (vec lead j).natAbs = (vec L0 j).natAbs := fun j => by
    rw [hv]; rcases he with rfl | rfl <;> omega
  have back : ∀ j, vec L0 j = e * vec lead j := fun j => by
    rw [hv]; rcases he with rfl | rfl <;> omega
  have fm : ∀ r ∈ rest.filter nzI, r ∈ rest := fun r hr => (List.mem_filter.mp hr).1
  have s1 := h.s1
  have s2 := h.s2
  have s3 := h.s3
  rw [tk] at s1 s2 s3
  refine ⟨hl1, fun r hr => h.l2 r (fm r hr), Nat.le_trans (List.length_filter_le _ _) (Nat.le_of_eq len), fun hn => ?_, fun r hr => h.z0 r (fm r hr), fun z j => ?_, hp, by rw [na]; exact h.b0, fun j => by rw [na]; exact (h.b1.mono (En_mono (by rw [tk]; exact zc_le))) j, fun r hr => (h.b2 r (fm r hr)).mono (En_mono (by rw [tk]; exact zc_le)), fun hz => ?_, (SP.smul e s1).of hv, fun r hr => s2 r (fm r hr), fun t ht => ?_, fun z r hr => h.z3 (by rw [back, z, Int.mul_zero]) r (fm r hr)⟩
  · obtain ⟨z, hz, zz⟩ := h.z2 (fun y => hn (by rw [hv, y, Int.mul_zero]))
    have : (rest.filter nzI).length < rest.length := by
      refine List.length_filter_lt_length_iff_exists.mpr ⟨z, hz, ?_⟩
      rw [nz_iff.mpr zz]; decide
    omega
  · rw [hv, h.z1 (by rw [back, z, Int.mul_zero]) j, Int.mul_zero]
  · have x := h.ex (by rw [tk]; exact hz)
    rw [tk] at x
    refine ⟨x.1, fun t ht hp => ?_⟩
    have e2 := x.2 t ht (by omega)
    rw [hl, if_neg (by rw [e2]; omega)]
    exact e2
  · refine (s3 t ht).trans fun u hu => ?_
    rcases List.mem_cons.mp hu with rfl | hu
    · exact (SP.smul e (.mem List.mem_cons_self)).of back
    · obtain ⟨r, hr, rfl⟩ := List.mem_map.mp hu
      cases hz : nzI r with
      | true => exact .mem (List.mem_cons_of_mem _ (List.mem_map_of_mem (List.mem_filter.mpr ⟨hr, hz⟩)))
      | false => exact .zero fun j => by rw [nz_iff.mp hz j]; exact Int.dvd_refl 0
end GT
namespace GT
open LA (SP Only1 mu1)
/-! ### Hermite forms, column by column -/
def bK (b n : Nat) : Nat → Nat
  | 0 => b
  | k + 1 => bK b n k + (bK b n k + 2) * (n - k - 1)
def dK (b n : Nat) : Nat → Nat
  | 0 => 0
  | k + 1 => dK b n k + bK b n (k + 1) + 1
theorem dK_mono {b n k m : Nat} (h : k ≤ m) : dK b n k ≤ dK b n m := by
  induction m with
  | zero => rw [show k = 0 by omega]; exact Nat.le_refl _
  | succ m ih =>
    by_cases e : k = m + 1
    · rw [e]; exact Nat.le_refl _
    · have := ih (by omega)
      show dK b n k ≤ dK b n m + bK b n (m + 1) + 1
      omega
def Cap (b n : Nat) : Prop := ∀ k, k < n + 1 → bK b n k < 8999 ∧ (bK b n k + 2) * (n + 3) ≤ 100000000 ∧ dK b n k ≤ 10000000
instance (b n : Nat) : Decidable (Cap b n) := by unfold Cap; exact inferInstance
abbrev Hl := List (List Int × Nat)
def rows (L : Hl) : List (List Int) := L.map (·.1)
/-- a Hermite form with its columns, below c -/
structure HS (w c : Nat) (L : Hl) : Prop where
  ll : ∀ x ∈ L, x.1.length = w
  lp : ∀ x ∈ L, x.2 < c ∧ 0 < vec x.1 x.2 ∧ ∀ j, j < x.2 → vec x.1 j = 0
  pw : L.Pairwise fun x y => x.2 < y.2 ∧ 0 ≤ vec x.1 y.2 ∧ vec x.1 y.2 < vec y.1 y.2
structure HI (w c b : Nat) (T : List (List Int)) (L : Hl) (R : List (List Int)) : Prop where
  hs : HS w c L
  lr : ∀ r ∈ R, r.length = w
  zr : ∀ r ∈ R, ∀ j, j < c → vec r j = 0
  k : R.length + L.length ≤ T.length
  b1 : ∀ r ∈ R, Bd (2 ^ bK b T.length L.length) r
  b2 : ∀ x ∈ L, Bd (2 ^ dK b T.length L.length) x.1
  s1 : ∀ x ∈ L, Spn (T.map vec) (vec x.1)
  s2 : ∀ r ∈ R, Spn (T.map vec) (vec r)
  s3 : ∀ t ∈ T, Spn ((rows L).map vec ++ R.map vec) (vec t)
theorem HI.start {w b : Nat} {T : List (List Int)} (hw : ∀ t ∈ T, t.length = w) (hb : ∀ t ∈ T, Bd (2 ^ b) t) : HI w 0 b T [] T where
  hs := ⟨fun _ h => absurd h List.not_mem_nil, fun _ h => absurd h List.not_mem_nil, .nil⟩
  lr := hw
  zr := fun _ _ j h => absurd h (Nat.not_lt_zero _)
  k := Nat.le_refl _
  b1 := hb
  b2 := fun _ h => absurd h List.not_mem_nil
  s1 := fun _ h => absurd h List.not_mem_nil
  s2 := fun r h => .mem (List.mem_map_of_mem h)
  s3 := fun t h => .mem (List.mem_map_of_mem h)
def redI (lead : List Int) (c : Nat) (x : List Int × Nat) : List Int × Nat := (lessI x.1 lead ((vec x.1 c).fdiv (vec lead c)), x.2)
/-- no lead in this column -/
theorem HI.skip {w c b : Nat} {T : List (List Int)} {L : Hl} {R : List (List Int)} (h : HI w c b T L R) {lead : List Int} {rest : List (List Int)} (g : GE w c (bK b T.length L.length) R lead rest) (z : vec lead c = 0) : HI w (c + 1) b T L rest where
  hs := ⟨h.hs.ll, fun x hx => ⟨Nat.lt_succ_of_lt (h.hs.lp x hx).1, (h.hs.lp x hx).2⟩, h.hs.pw⟩
  lr := g.l2
  zr := fun r hr j hj => by
    rcases Nat.lt_or_eq_of_le (Nat.le_of_lt_succ hj) with e | e
    · exact h.zr r (g.z3 z r hr) j e
    · rw [e]; exact g.z0 r hr
  k := by have := g.ln; have := h.k; omega
  b1 := fun r hr => h.b1 r (g.z3 z r hr)
  b2 := h.b2
  s1 := h.s1
  s2 := fun r hr => h.s2 r (g.z3 z r hr)
  s3 := fun t ht => (h.s3 t ht).trans fun u hu => by
    rcases List.mem_append.mp hu with hu | hu
    · exact .mem (List.mem_append_left _ hu)
    · obtain ⟨r, hr, rfl⟩ := List.mem_map.mp hu
      refine (g.s3 r hr).trans fun v hv => ?_
      rcases List.mem_cons.mp hv with rfl | hv
      · exact .zero fun j => by rw [g.z1 z j]; exact Int.dvd_refl 0
      · exact .mem (List.mem_append_right _ hv)
theorem HI.lead {w c b : Nat} {T : List (List Int)} {L : Hl} {R : List (List Int)} (h : HI w c b T L R) {lead : List Int} {rest : List (List Int)} (g : GE w c (bK b T.length L.length) R lead rest) (z : vec lead c ≠ 0) : HI w (c + 1) b T (L.map (redI lead c) ++ [(lead, c)]) rest := by
  have lc : 0 < vec lead c := by have := g.pos; omega
  have lz : ∀ j, j < c → vec lead j = 0 := fun j hj => by
    have := SP.van (mu1 0) g.s1 (j := j) fun t ht => by
      obtain ⟨r, hr, rfl⟩ := List.mem_map.mp ht
      rw [h.zr r hr j hj]; exact Int.dvd_refl 0
    exact Int.zero_dvd.mp this
  have el : ∀ x ∈ L, x.1.length = lead.length := fun x hx => by rw [h.hs.ll x hx, g.l1]
  have ev : ∀ x ∈ L, ∀ j, vec (redI lead c x).1 j = vec x.1 j - (vec x.1 c).fdiv (vec lead c) * vec lead j := fun x hx j => vec_less (el x hx) j
  have evz : ∀ x ∈ L, ∀ j, j < c → vec (redI lead c x).1 j = vec x.1 j := fun x hx j hj => by rw [ev x hx, lz j hj]; omega
  have kk := h.k
  have ln1 := g.ln1 z
  have len : (L.map (redI lead c) ++ [(lead, c)]).length = L.length + 1 := by rw [List.length_append, List.length_map]; rfl
  have bb : En (bK b T.length L.length) R.length ≤ 2 ^ bK b T.length (L.length + 1) := by
    refine Nat.pow_le_pow_right (by decide) (Nat.add_le_add_left (Nat.mul_le_mul_left _ ?_) _)
    omega
  have split : ∀ {p : List Int × Nat → Prop}, (∀ x ∈ L, p (redI lead c x)) → p (lead, c) → ∀ x ∈ L.map (redI lead c) ++ [(lead, c)], p x := fun h1 h2 x hx => by
    rcases List.mem_append.mp hx with hx | hx
    · obtain ⟨y, hy, rfl⟩ := List.mem_map.mp hx
      exact h1 y hy
    · rw [List.mem_singleton.mp hx]; exact h2
  have lead_in : Spn (T.map vec) (vec lead) := g.s1.trans fun t ht => by
    obtain ⟨r, hr, rfl⟩ := List.mem_map.mp ht
    exact h.s2 r hr
  have lm : vec lead ∈ (rows (L.map (redI lead c) ++ [(lead, c)])).map vec := List.mem_map_of_mem (by unfold rows; rw [List.map_append]; exact List.mem_append_right _ List.mem_cons_self)
  refine ⟨⟨split (fun x hx => by show (lessI _ _ _).length = w; rw [lessI_len (el x hx)]; exact h.hs.ll x hx) g.l1, split (fun x hx => ?_) ⟨Nat.lt_succ_self _, lc, lz⟩, ?_⟩, g.l2, fun r hr j hj => ?_, ?_, fun r hr => ?_, split (fun x hx => ?_) ?_, split (fun x hx => ?_) lead_in, fun r hr => ?_, fun t ht => ?_⟩
  · obtain ⟨h1, h2, h3⟩ := h.hs.lp x hx
    exact ⟨Nat.lt_succ_of_lt h1, by show 0 < vec (redI lead c x).1 x.2; rw [evz x hx _ h1]; exact h2, fun j hj => by rw [evz x hx _ (Nat.lt_trans hj h1)]; exact h3 j hj⟩
  · rw [List.pairwise_append]
    refine ⟨?_, List.pairwise_singleton _ _, fun x hx y hy => ?_⟩
    · rw [List.pairwise_map]
      refine h.hs.pw.imp_of_mem fun {x y} hx hy hxy => ?_
      have hy1 := (h.hs.lp y hy).1
      exact ⟨hxy.1, by show 0 ≤ vec (redI lead c x).1 y.2; rw [evz x hx _ hy1]; exact hxy.2.1, by show vec (redI lead c x).1 y.2 < vec (redI lead c y).1 y.2; rw [evz x hx _ hy1, evz y hy _ hy1]; exact hxy.2.2⟩
    · rw [List.mem_singleton.mp hy]
      obtain ⟨x, hx0, rfl⟩ := List.mem_map.mp hx
      have e : vec (redI lead c x).1 c = vec x.1 c % vec lead c := by
        rw [ev x hx0, Int.fdiv_eq_ediv_of_nonneg _ (by omega), Int.emod_def, Int.mul_comm]
      refine ⟨(h.hs.lp x hx0).1, ?_, ?_⟩
      · show 0 ≤ vec (redI lead c x).1 c
        rw [e]; exact Int.emod_nonneg _ z
      · show vec (redI lead c x).1 c < vec lead c
        rw [e]; exact Int.emod_lt_of_pos _ lc
  · rcases Nat.lt_or_eq_of_le (Nat.le_of_lt_succ hj) with e | e
    · have := SP.van (mu1 0) (g.s2 r hr) (j := j) fun t ht => by
        obtain ⟨r, hr, rfl⟩ := List.mem_map.mp ht
        rw [h.zr r hr j e]; exact Int.dvd_refl 0
      exact Int.zero_dvd.mp this
    · rw [e]; exact g.z0 r hr
  · rw [len]; omega
  · rw [len]; exact (g.b2 r hr).mono bb
  · rw [len]
    have hx2 := h.b2 x hx
    refine (Bd.less (el x hx) hx2 (g.b1.mono bb)).mono ?_
    have q1 : ((vec x.1 c).fdiv (vec lead c)).natAbs ≤ 2 ^ dK b T.length L.length := by
      refine Nat.le_trans ?_ (hx2 c)
      rw [Int.fdiv_eq_ediv_of_nonneg _ (by omega)]
      exact Int.natAbs_ediv_le_natAbs _ _
    have q2 := Nat.mul_le_mul_right (2 ^ bK b T.length (L.length + 1)) q1
    rw [← Nat.pow_add] at q2
    have q3 : 2 ^ dK b T.length L.length ≤ 2 ^ (dK b T.length L.length + bK b T.length (L.length + 1)) := Nat.pow_le_pow_right (by decide) (Nat.le_add_right _ _)
    show _ ≤ 2 ^ (dK b T.length L.length + bK b T.length (L.length + 1) + 1)
    rw [Nat.pow_succ]
    omega
  · rw [len]
    refine (g.b1.mono bb).mono (Nat.pow_le_pow_right (by decide) ?_)
    show _ ≤ dK b T.length L.length + bK b T.length (L.length + 1) + 1
    omega
  · exact (SP.sub _ (h.s1 x hx) lead_in).of (ev x hx)
  · exact (g.s2 r hr).trans fun t ht => by
      obtain ⟨r, hr, rfl⟩ := List.mem_map.mp ht
      exact h.s2 r hr
  · refine (h.s3 t ht).trans fun u hu => ?_
    rcases List.mem_append.mp hu with hu | hu
    · obtain ⟨r, hr, rfl⟩ := List.mem_map.mp hu
      obtain ⟨x, hx, rfl⟩ := List.mem_map.mp hr
      refine (SP.lin 1 ((vec x.1 c).fdiv (vec lead c)) (SP.mem (v := vec (redI lead c x).1) ?_) (SP.mem (v := vec lead) (List.mem_append_left _ lm))).of fun j => by rw [ev x hx]; omega
      exact List.mem_append_left _ (List.mem_map_of_mem (by unfold rows; rw [List.map_append]; exact List.mem_append_left _ (List.mem_map_of_mem (List.mem_map_of_mem hx))))
    · obtain ⟨r, hr, rfl⟩ := List.mem_map.mp hu
      refine (g.s3 r hr).trans fun v hv => ?_
      rcases List.mem_cons.mp hv with rfl | hv
      · exact .mem (List.mem_append_left _ lm)
      · exact .mem (List.mem_append_right _ hv)
/-- what hermite tells -/
structure HF (w b : Nat) (T : List (List Int)) (L : Hl) : Prop where
  hs : HS w w L
  len : L.length ≤ T.length
  bd : ∀ x ∈ L, Bd (2 ^ dK b T.length T.length) x.1
  s1 : ∀ x ∈ L, Spn (T.map vec) (vec x.1)
  s3 : ∀ t ∈ T, Spn ((rows L).map vec) (vec t)
theorem HI.done {w b : Nat} {T : List (List Int)} {L : Hl} {R : List (List Int)} (h : HI w w b T L R) : HF w b T L := by
  have kk := h.k
  refine ⟨h.hs, by omega, fun x hx => (h.b2 x hx).mono (Nat.pow_le_pow_right (by decide) (dK_mono (by omega))), h.s1, fun t ht => (h.s3 t ht).trans fun u hu => ?_⟩
  rcases List.mem_append.mp hu with hu | hu
  · exact .mem hu
  · obtain ⟨r, hr, rfl⟩ := List.mem_map.mp hu
    refine .zero fun j => ?_
    by_cases hj : j < w
    · rw [h.zr r hr j hj]; exact Int.dvd_refl 0
    · rw [vec_out (by rw [h.lr r hr]; omega)]; exact Int.dvd_refl 0
/-- its triangle -/
theorem HS.tri {w c : Nat} {L : Hl} (h : HS w c L) : LA.Tri 0 ((rows L).map vec) (L.map (·.2)) := by
  obtain ⟨h1, h2, h3⟩ := h
  clear h1
  induction L with
  | nil => trivial
  | cons x L ih =>
    rw [List.pairwise_cons] at h3
    refine ⟨fun z => ?_, fun r hr => ?_, ih (fun y hy => h2 y (List.mem_cons_of_mem _ hy)) h3.2⟩
    · have := (h2 x List.mem_cons_self).2.1
      have e : vec x.1 x.2 = 0 := Int.zero_dvd.mp z
      omega
    · obtain ⟨l, hl, rfl⟩ := List.mem_map.mp hr
      obtain ⟨y, hy, rfl⟩ := List.mem_map.mp hl
      rw [(h2 y (List.mem_cons_of_mem _ hy)).2.2 x.2 (h3.1 y hy).1]
      exact Int.dvd_refl 0
end GT
namespace GT
open LA (SP Only1 mu1 PZ Off Tri Rk D)
/-! ### ranks: what tells them -/
structure Cert (p : Int) (w : Nat) (T : List (List Int)) (r : Nat) : Prop where
  ex : ∃ (R : List LA.Ve) (cs : List Nat), Tri p R cs ∧ R.length = r ∧ cs.Pairwise (· < ·) ∧ (∀ c ∈ cs, c < w) ∧ (∀ x ∈ R, SP p (Off p) (T.map vec) x) ∧ ∀ t ∈ T, SP p (Off p) R (vec t)
theorem HF.cert {w b : Nat} {T : List (List Int)} {L : Hl} (h : HF w b T L) : Cert 0 w T L.length := by
  refine ⟨⟨(rows L).map vec, L.map (·.2), h.hs.tri, by unfold rows; rw [List.length_map, List.length_map], ?_, fun c hc => ?_, fun x hx => ?_, fun t ht => (h.s3 t ht).of0 LA.pz0.mu⟩⟩
  · rw [List.pairwise_map]; exact h.hs.pw.imp fun z => z.1
  · obtain ⟨x, hx, rfl⟩ := List.mem_map.mp hc
    exact (h.hs.lp x hx).1
  · obtain ⟨l, hl, rfl⟩ := List.mem_map.mp hx
    obtain ⟨y, hy, rfl⟩ := List.mem_map.mp hl
    exact (h.s1 y hy).of0 LA.pz0.mu
section
variable {p : Int} {w r : Nat} {T : List (List Int)}
theorem Cert.rk (hp : PZ p) (h : Cert p w T r) : Rk p (T.map vec) r := by
  obtain ⟨R, cs, ht, rfl, _, _, h1, h2⟩ := h.ex
  exact ht.rk hp h1 fun t ht => by
    obtain ⟨l, hl, rfl⟩ := List.mem_map.mp ht
    exact h2 l hl
/-- more rows have no determinant -/
theorem Cert.more (hp : PZ p) (h : Cert p w T r) {s : List (List Int)} (hs : ∀ x ∈ s, x ∈ T) (hl : r < s.length) (cs : List Nat) : p ∣ D (s.map vec) cs := by
  obtain ⟨R, _, _, rfl, _, _, _, h2⟩ := h.ex
  refine LA.D_more hp.mu (R := R) (fun x hx => ?_) (by rw [List.length_map]; exact hl)
  obtain ⟨l, hl, rfl⟩ := List.mem_map.mp hx
  exact h2 l (hs l hl)
/-- some rows, as many, have one -/
theorem Cert.some (hp : PZ p) (h : Cert p w T r) : ∃ (s : List (List Int)) (cs : List Nat), s.Sublist T ∧ s.length = r ∧ cs.length = r ∧ cs.Pairwise (· < ·) ∧ (∀ c ∈ cs, c < w) ∧ ¬ p ∣ D (s.map vec) cs := by
  obtain ⟨R, cs, ht, rfl, h3, h4, h1, _⟩ := h.ex
  obtain ⟨s, hs, hl, hd⟩ := LA.D_some hp ht h1
  obtain ⟨s', hs', rfl⟩ := List.sublist_map_iff.mp hs
  exact ⟨s', cs, hs', by rw [← hl, List.length_map], ht.len, h3, h4, hd⟩
end
/-! ### modulo a prime -/
theorem Tri.snoc {p : Int} {l : LA.Ve} {c : Nat} (hl : ¬ p ∣ l c) : ∀ {R : List LA.Ve} {cs : List Nat}, Tri p R cs → (∀ x ∈ cs, p ∣ l x) → Tri p (R ++ [l]) (cs ++ [c])
  | [], [], _, _ => ⟨hl, fun r h => absurd h List.not_mem_nil, trivial⟩
  | h :: R, x :: cs, ⟨h1, h2, h3⟩, hz => ⟨h1, fun r hr => by
      rcases List.mem_append.mp hr with hr | hr
      · exact h2 r hr
      · rw [List.mem_singleton.mp hr]; exact hz x List.mem_cons_self, Tri.snoc hl h3 fun y hy => hz y (List.mem_cons_of_mem _ hy)⟩
  | [], _ :: _, h, _ => h.elim
  | _ :: _, [], h, _ => h.elim
/-- entries from 0 on below p -/
def In0 (p : Int) (l : List Int) : Prop := ∀ j, 0 ≤ vec l j ∧ (vec l j < p ∨ vec l j = 0)
def modI (p : Int) (l : List Int) : List Int := l.map fun x => x % p
theorem vec_mod (p : Int) (l : List Int) (j : Nat) : vec (modI p l) j = vec l j % p := by
  by_cases hj : j < l.length
  · exact vec_at (by unfold modI; rw [List.getElem?_map, at_vec hj]; rfl)
  · rw [vec_out (by unfold modI; rw [List.length_map]; omega), vec_out (by omega), Int.zero_emod]
def clrI (p : Int) (c : Nat) (ns ms : List Int) : List Int := List.zipWith (fun x y => (x * vec ms c - y * vec ns c) % p) ns ms
theorem clrI_len {p : Int} {c : Nat} {ns ms : List Int} (h : ns.length = ms.length) : (clrI p c ns ms).length = ns.length := by unfold clrI; rw [List.length_zipWith]; omega
theorem clrI_at {p : Int} {c i : Nat} {ns ms : List Int} (h1 : i < ns.length) (h2 : i < ms.length) : (clrI p c ns ms)[i]? = some ((vec ns i * vec ms c - vec ms i * vec ns c) % p) := by unfold clrI; rw [List.getElem?_zipWith, at_vec h1, at_vec h2]
theorem vec_clr {p : Int} {c : Nat} {ns ms : List Int} (h : ns.length = ms.length) (j : Nat) : vec (clrI p c ns ms) j = (vec ns j * vec ms c - vec ms j * vec ns c) % p := by
  by_cases hj : j < ns.length
  · exact vec_at (clrI_at hj (h ▸ hj))
  · have e1 : vec ns j = 0 := vec_out (by omega)
    have e2 : vec ms j = 0 := vec_out (by omega)
    have e3 : vec (clrI p c ns ms) j = 0 := vec_out (by rw [clrI_len h]; omega)
    rw [e1, e2, e3, Int.zero_mul, Int.zero_mul, Int.sub_self, Int.zero_emod]
theorem in0_mod {p : Int} (hp : 0 < p) {l m : List Int} {f : Nat → Int} (h : ∀ j, vec l j = f j % p) : In0 p l := fun j => by
  rw [h]
  exact ⟨Int.emod_nonneg _ (by omega), .inl (Int.emod_lt_of_pos _ hp)⟩
/-- the state at a column -/
structure MI (p : Int) (w c : Nat) (T : List (List Int)) (R : List LA.Ve) (cs : List Nat) (S : List (List Int)) : Prop where
  tri : Tri p R cs
  inc : cs.Pairwise (· < ·)
  lt : ∀ x ∈ cs, x < c
  lw : ∀ s ∈ S, s.length = w
  len : S.length = T.length
  i0 : ∀ s ∈ S, In0 p s
  z : ∀ s ∈ S, ∀ j, j < c → p ∣ vec s j
  s1 : ∀ x ∈ R, SP p (Off p) (T.map vec) x
  s2 : ∀ s ∈ S, SP p (Off p) (T.map vec) (vec s)
  s3 : ∀ t ∈ T, SP p (Off p) (R ++ S.map vec) (vec t)
theorem MI.start {p : Int} (hp : PZ p) (p0 : 0 < p) {w : Nat} {T : List (List Int)} (hw : ∀ t ∈ T, t.length = w) : MI p w 0 T [] [] (T.map (modI p)) where
  tri := trivial
  inc := .nil
  lt := fun _ h => absurd h List.not_mem_nil
  lw := fun s hs => by
    obtain ⟨t, ht, rfl⟩ := List.mem_map.mp hs
    unfold modI; rw [List.length_map]; exact hw t ht
  len := List.length_map ..
  i0 := fun s hs => by
    obtain ⟨t, ht, rfl⟩ := List.mem_map.mp hs
    exact in0_mod p0 (m := []) (vec_mod p t)
  z := fun _ _ j h => absurd h (Nat.not_lt_zero _)
  s1 := fun _ h => absurd h List.not_mem_nil
  s2 := fun s hs => by
    obtain ⟨t, ht, rfl⟩ := List.mem_map.mp hs
    refine (SP.add (SP.mem (List.mem_map_of_mem ht)) (SP.zero (v := fun j => vec (modI p t) j - vec t j) fun j => ?_)).of fun j => by omega
    rw [vec_mod, Int.emod_def]
    exact ⟨-(vec t j / p), by rw [Int.mul_neg]; omega⟩
  s3 := fun t ht => by
    refine (SP.add (SP.mem (v := vec (modI p t)) (List.mem_append_right _ (List.mem_map_of_mem (List.mem_map_of_mem ht)))) (SP.zero (v := fun j => vec t j - vec (modI p t) j) fun j => ?_)).of fun j => by omega
    rw [vec_mod, Int.emod_def]
    exact ⟨vec t j / p, by omega⟩
theorem In0.zero {p : Int} {l : List Int} {j : Nat} (h : In0 p l) (z : p ∣ vec l j) : vec l j = 0 := by
  obtain ⟨h1, h2⟩ := h j
  rcases h2 with h2 | h2
  · rw [← Int.emod_eq_of_lt h1 h2]; exact Int.emod_eq_zero_of_dvd z
  · exact h2
theorem MI.skip {p : Int} {w c : Nat} {T : List (List Int)} {R : List LA.Ve} {cs : List Nat} {S : List (List Int)} (h : MI p w c T R cs S) (hz : ∀ s ∈ S, vec s c = 0) : MI p w (c + 1) T R cs S :=
  { h with
    lt := fun x hx => Nat.lt_succ_of_lt (h.lt x hx)
    z := fun s hs j hj => by
      rcases Nat.lt_or_eq_of_le (Nat.le_of_lt_succ hj) with e | e
      · exact h.z s hs j e
      · rw [e, hz s hs]; exact Int.dvd_zero p }
theorem MI.lead {p : Int} (hp : PZ p) (p0 : 0 < p) {w c : Nat} {T : List (List Int)} {R : List LA.Ve} {cs : List Nat} {S : List (List Int)} (h : MI p w c T R cs S) {l : List Int} (hl : l ∈ S) (hn : vec l c ≠ 0) :
    MI p w (c + 1) T (R ++ [vec l]) (cs ++ [c]) (S.map fun s => clrI p c s l) := by
  have off : ¬ p ∣ vec l c := fun z => hn ((h.i0 l hl).zero z)
  have el : ∀ s ∈ S, s.length = l.length := fun s hs => by rw [h.lw s hs, h.lw l hl]
  refine ⟨Tri.snoc off h.tri fun x hx => h.z l hl x (h.lt x hx), ?_, fun x hx => ?_, fun s hs => ?_, by rw [List.length_map]; exact h.len, fun s hs => ?_, fun s hs j hj => ?_, fun x hx => ?_, fun s hs => ?_, fun t ht => ?_⟩
  · rw [List.pairwise_append]
    exact ⟨h.inc, List.pairwise_singleton _ _, fun x hx y hy => by rw [List.mem_singleton.mp hy]; exact h.lt x hx⟩
  · rcases List.mem_append.mp hx with hx | hx
    · exact Nat.lt_succ_of_lt (h.lt x hx)
    · rw [List.mem_singleton.mp hx]; exact Nat.lt_succ_self _
  · obtain ⟨t, ht, rfl⟩ := List.mem_map.mp hs
    rw [clrI_len (el t ht)]; exact h.lw t ht
  · obtain ⟨t, ht, rfl⟩ := List.mem_map.mp hs
    exact in0_mod p0 (m := []) (vec_clr (el t ht))
  · obtain ⟨t, ht, rfl⟩ := List.mem_map.mp hs
    rw [vec_clr (el t ht)]
    rw [show (vec t j * vec l c - vec l j * vec t c) % p = 0 from Int.emod_eq_zero_of_dvd ?_]
    · exact Int.dvd_zero p
    · rcases Nat.lt_or_eq_of_le (Nat.le_of_lt_succ hj) with e | e
      · exact Int.dvd_sub (Int.dvd_mul_of_dvd_left (h.z t ht j e)) (Int.dvd_mul_of_dvd_left (h.z l hl j e))
      · rw [e, Int.mul_comm, Int.sub_self]; exact Int.dvd_zero p
  · rcases List.mem_append.mp hx with hx | hx
    · exact h.s1 x hx
    · rw [List.mem_singleton.mp hx]; exact h.s2 l hl
  · obtain ⟨t, ht, rfl⟩ := List.mem_map.mp hs
    refine (SP.add (SP.lin (vec l c) (-(vec t c)) (h.s2 t ht) (h.s2 l hl)) (SP.zero (v := fun j => vec (clrI p c t l) j - (vec l c * vec t j + -(vec t c) * vec l j)) fun j => ?_)).of fun j => by omega
    rw [vec_clr (el t ht), Int.emod_def]
    refine ⟨-((vec t j * vec l c - vec l j * vec t c) / p), ?_⟩
    rw [Int.mul_neg, Int.neg_mul, Int.mul_comm (vec t j), Int.mul_comm (vec l j)]
    omega
  · refine (h.s3 t ht).trans fun u hu => ?_
    have lm : SP p (Off p) ((R ++ [vec l]) ++ (S.map fun s => clrI p c s l).map vec) (vec l) := .mem (List.mem_append_left _ (List.mem_append_right _ List.mem_cons_self))
    rcases List.mem_append.mp hu with hu | hu
    · exact .mem (List.mem_append_left _ (List.mem_append_left _ hu))
    · obtain ⟨t, ht, rfl⟩ := List.mem_map.mp hu
      refine .cancel (vec l c) off ?_
      refine (SP.add (SP.lin 1 (vec t c) (SP.mem (v := vec (clrI p c t l)) (List.mem_append_right _ (List.mem_map_of_mem (List.mem_map_of_mem (f := fun s => clrI p c s l) ht)))) lm) (SP.zero (v := fun j => vec l c * vec t j - (1 * vec (clrI p c t l) j + vec t c * vec l j)) fun j => ?_)).of fun j => by omega
      rw [vec_clr (el t ht), Int.emod_def]
      refine ⟨(vec t j * vec l c - vec l j * vec t c) / p, ?_⟩
      rw [Int.mul_comm (vec t j), Int.mul_comm (vec l j)]
      omega
theorem MI.cert {p : Int} {w : Nat} {T : List (List Int)} {R : List LA.Ve} {cs : List Nat} {S : List (List Int)} (h : MI p w w T R cs S) : Cert p w T cs.length := by
  refine ⟨⟨R, cs, h.tri, h.tri.len.symm, h.inc, h.lt, h.s1, fun t ht => (h.s3 t ht).trans fun u hu => ?_⟩⟩
  rcases List.mem_append.mp hu with hu | hu
  · exact .mem hu
  · obtain ⟨s, hs, rfl⟩ := List.mem_map.mp hu
    refine .zero fun j => ?_
    by_cases hj : j < w
    · exact h.z s hs j hj
    · rw [vec_out (by rw [h.lw s hs]; omega)]; exact Int.dvd_zero p
end GT
namespace GT
open LA (SP Only1 mu1)
/-! ### a Hermite form stays -/
theorem less0 {ns ms : List Int} (h : ns.length = ms.length) : lessI ns ms 0 = ns := vec_inj (lessI_len h) fun j => by rw [vec_less h]; omega
theorem HS.later {w c : Nat} {L : Hl} (h : HS w w L) {x : List Int × Nat} (hx : x ∈ L) (hc : c < x.2) : vec x.1 c = 0 ∧ nzI x.1 = true := by
  obtain ⟨h1, h2, h3⟩ := h.lp x hx
  refine ⟨h3 c hc, ?_⟩
  cases e : nzI x.1 with
  | true => rfl
  | false => exact absurd (nz_iff.mp e x.2) (by omega)
theorem HS.keep {w c : Nat} {L M : Hl} (h : HS w w L) (hM : ∀ x ∈ M, x ∈ L ∧ c < x.2) : ((rows M).filter fun t => vec t c == 0).filter nzI = rows M := by
  have e1 : (rows M).filter (fun t => vec t c == 0) = rows M := List.filter_eq_self.mpr fun t ht => by
    obtain ⟨x, hx, rfl⟩ := List.mem_map.mp ht
    obtain ⟨m1, m2⟩ := hM x hx
    simpa using (h.later m1 m2).1
  rw [e1]
  exact List.filter_eq_self.mpr fun t ht => by
    obtain ⟨x, hx, rfl⟩ := List.mem_map.mp ht
    obtain ⟨m1, m2⟩ := hM x hx
    exact (h.later m1 m2).2
theorem HS.zc0 {w c : Nat} {L M : Hl} (h : HS w w L) (hM : ∀ x ∈ M, x ∈ L ∧ c < x.2) : zc c (rows M) = 0 := by
  unfold zc
  rw [List.filter_eq_nil_iff.mpr fun t ht => ?_]
  · rfl
  · obtain ⟨x, hx, rfl⟩ := List.mem_map.mp ht
    obtain ⟨m1, m2⟩ := hM x hx
    rw [(h.later m1 m2).1]; decide
/-- the next lead, or none -/
theorem HS.split {w c : Nat} {L : Hl} (h : HS w w L) {k : Nat} (hk : ∀ x ∈ L.drop k, c ≤ x.2) : (∀ x ∈ L.drop k, x ∈ L ∧ c < x.2) ∨ ∃ x, L[k]? = some x ∧ x.2 = c ∧ ∀ y ∈ L.drop (k + 1), y ∈ L ∧ c < y.2 := by
  by_cases hl : k < L.length
  · have ed := List.drop_eq_getElem_cons hl
    have mk : L[k] ∈ L := List.getElem_mem hl
    have pw : (L.drop k).Pairwise fun x y => x.2 < y.2 ∧ 0 ≤ vec x.1 y.2 ∧ vec x.1 y.2 < vec y.1 y.2 := h.pw.sublist (List.drop_sublist _ _)
    rw [ed, List.pairwise_cons] at pw
    have c0 : c ≤ L[k].2 := hk _ (by rw [ed]; exact List.mem_cons_self)
    by_cases e : L[k].2 = c
    · refine .inr ⟨L[k], List.getElem?_eq_getElem hl, e, fun y hy => ⟨List.mem_of_mem_drop hy, ?_⟩⟩
      have := (pw.1 y hy).1
      omega
    · refine .inl fun x hx => ⟨List.mem_of_mem_drop hx, ?_⟩
      rw [ed] at hx
      rcases List.mem_cons.mp hx with rfl | hx
      · omega
      · have := (pw.1 x hx).1
        omega
  · refine .inl fun x hx => ?_
    rw [List.drop_eq_nil_of_le (by omega)] at hx
    exact absurd hx List.not_mem_nil
theorem rows_cons (x : List Int × Nat) (M : Hl) : rows (x :: M) = x.1 :: rows M := rfl
/-- what is told of a column -/
theorem HS.turn0 {w c b : Nat} {L : Hl} (h : HS w w L) {k : Nat} (hk : ∀ x ∈ L.drop k, x ∈ L ∧ c < x.2) {lead : List Int} {rest : List (List Int)} (g : GE w c b (rows (L.drop k)) lead rest) : vec lead c = 0 ∧ rest = rows (L.drop k) := by
  have z := h.zc0 hk
  obtain ⟨e1, _⟩ := g.ex (by omega)
  refine ⟨?_, by rw [e1]; exact h.keep hk⟩
  have := SP.van (mu1 0) g.s1 (j := c) fun t ht => by
    obtain ⟨r, hr, rfl⟩ := List.mem_map.mp ht
    obtain ⟨x, hx, rfl⟩ := List.mem_map.mp hr
    obtain ⟨m1, m2⟩ := hk x hx
    rw [(h.later m1 m2).1]; exact Int.dvd_refl 0
  exact Int.zero_dvd.mp this
theorem HS.turn1 {w c b : Nat} {L : Hl} (h : HS w w L) {k : Nat} {x : List Int × Nat} (hx : L[k]? = some x) (xc : x.2 = c) (hk : ∀ y ∈ L.drop (k + 1), y ∈ L ∧ c < y.2) {lead : List Int} {rest : List (List Int)} (g : GE w c b (rows (L.drop k)) lead rest) :
    lead = x.1 ∧ rest = rows (L.drop (k + 1)) ∧ 0 < vec x.1 c := by
  obtain ⟨kl, ek⟩ := List.getElem?_eq_some_iff.mp hx
  have ed : L.drop k = x :: L.drop (k + 1) := by rw [List.drop_eq_getElem_cons kl, ek]
  have mx : x ∈ L := List.mem_of_getElem? hx
  have p0 : 0 < vec x.1 c := by rw [← xc]; exact (h.lp x mx).2.1
  have z := h.zc0 hk
  have z1 : zc c (rows (L.drop k)) ≤ 1 := by
    rw [ed, rows_cons]
    unfold zc at *
    rw [List.filter_cons_of_pos (by simp; omega), List.length_cons, z]; exact Nat.le_refl _
  obtain ⟨e1, e2⟩ := g.ex z1
  refine ⟨e2 x.1 (by rw [ed]; exact List.mem_cons_self) p0, ?_, p0⟩
  rw [e1, ed, rows_cons, List.filter_cons_of_neg (by simp; omega)]
  exact h.keep hk
theorem HS.red {w c : Nat} {L : Hl} (h : HS w w L) {i k : Nat} {x y : List Int × Nat} (hx : L[k]? = some x) (xc : x.2 = c) (hy : L[i]? = some y) (ik : i < k) : (vec y.1 c).fdiv (vec x.1 c) = 0 ∧ lessI y.1 x.1 0 = y.1 := by
  obtain ⟨kl, ek⟩ := List.getElem?_eq_some_iff.mp hx
  obtain ⟨il, ei⟩ := List.getElem?_eq_some_iff.mp hy
  have pw := (List.pairwise_iff_getElem.mp h.pw) i k il kl ik
  rw [ei, ek, xc] at pw
  refine ⟨?_, less0 (by rw [h.ll y (List.mem_of_getElem? hy), h.ll x (List.mem_of_getElem? hx)])⟩
  rw [Int.fdiv_eq_ediv_of_nonneg _ (by omega)]
  exact Int.ediv_eq_zero_of_lt pw.2.1 pw.2.2
end GT
namespace GT
open PySem PySem.Spec PyProof.Rows L2 RZ GL
theorem deck_merge (g : Addr) (m : Int) : mergeK [] (deckD g m) = deckD g m := by
  have e1 : putK ([] : List (Key × V)) (Sum.inr "great" : Key) (V.ref g) = [((Sum.inr "great" : Key), V.ref g)] := rfl
  have e2 : putK [((Sum.inr "great" : Key), V.ref g)] (Sum.inr "mixed" : Key) (V.int m) = deckD g m := by
    unfold putK
    simp only [List.any_cons, List.any_nil, decide_eq_false gm, Bool.or_false]
    rfl
  show putK (putK ([] : List (Key × V)) (Sum.inr "great" : Key) (V.ref g)) (Sum.inr "mixed" : Key) (V.int m) = _
  rw [e1, e2]
def spDeck (K : PySem.W.Frag) : Sp := fun vs H Q _ => ∃ (a : Addr) (ns : List Int), vs = [.ref a] ∧ SqL K H a (ns.map V.int) ∧ ns.length ≤ 63 ∧
  ∀ (d g : Addr) (H' : Hp), Same H H' → H d = none → H g = none → Deck H' d g → Q (.ref d) H'
theorem cut_map (ns : List Int) (lo hi : Option Int) : cutV (ns.map V.int) lo hi = ((ns.drop (HT.sIx ns.length 0 lo)).take (HT.sIx ns.length ns.length hi - HT.sIx ns.length 0 lo)).map V.int := by
  unfold cutV
  rw [List.length_map, List.map_take, List.map_drop]
theorem cut_ints (ns : List Int) (lo hi : Option Int) : ∃ ms : List Int, cutV (ns.map V.int) lo hi = ms.map V.int ∧ ms.length ≤ ns.length := by
  refine ⟨_, cut_map ns lo hi, ?_⟩
  rw [List.length_take, List.length_drop]
  omega
theorem ints_at {ns : List Int} {i : Nat} {x : V} (h : (ns.map V.int)[i]? = some x) : ∃ n, x = .int n ∧ i < ns.length := by
  rw [List.getElem?_map] at h
  cases e : ns[i]? with
  | none => rw [e] at h; cases h
  | some n =>
    rw [e] at h
    exact ⟨n, (Option.some.inj h).symm, (List.getElem?_eq_some_iff.mp e).1⟩

theorem Rw.mv {K : PySem.W.Frag} {H H' : Hp} {d g : Addr} {xs : List V} {T : List (List Int)} (h : Rw K H xs T) (D : Deck H d g) (m : Mv d g H H') : Rw K H' xs T := h.to fun _ _ z => sq_mv D m z
theorem Mv.lst {d g p : Addr} {H H' : Hp} {xs : List V} (m : Mv d g H H') (h : H p = some (.lst xs)) (n : p ≠ g) (D : Deck H d g) : H' p = some (.lst xs) := by
  obtain ⟨k, L, h1, h2, _⟩ := D.ex
  exact m.keep _ _ h (ne_of h h1 (fun z => nomatch z)) n
theorem cutV_take (xs : List V) {k : Nat} (h : k ≤ xs.length) : cutV xs none (some (k : Int)) = xs.take k := by
  unfold cutV
  rw [HT.sIx_none, HT.sIx_nat, List.drop_zero, Nat.min_eq_left h, Nat.sub_zero]
theorem cutV_drop (xs : List V) {k : Nat} (h : k ≤ xs.length) : cutV xs (some (k : Int)) none = xs.drop k := by
  unfold cutV
  rw [HT.sIx_none, HT.sIx_nat, Nat.min_eq_left h, List.take_of_length_le (by rw [List.length_drop]; omega)]
theorem ixN_nat {n j : Nat} (h : j < n) : ixN n (j : Int) = some j := by
  unfold ixN
  rw [if_pos (by omega), if_pos (by omega), Int.toNat_natCast]
/-- naturals as values -/
def nL (cs : List Nat) : List V := (cs.map fun n : Nat => (n : Int)).map V.int
theorem nL_len (cs : List Nat) : (nL cs).length = cs.length := by unfold nL; rw [List.length_map, List.length_map]
theorem nL_at {cs : List Nat} {i : Nat} (h : i < cs.length) : (nL cs)[i]? = some (.int (cs[i] : Nat)) := by
  unfold nL; rw [List.getElem?_map, List.getElem?_map, List.getElem?_eq_getElem h]; rfl
theorem nL_app (cs ds : List Nat) : nL (cs ++ ds) = nL cs ++ nL ds := by unfold nL; rw [List.map_append, List.map_append]
theorem nL_take (cs : List Nat) (k : Nat) : (nL cs).take k = nL (cs.take k) := by unfold nL; rw [List.map_take, List.map_take]
theorem nL_drop (cs : List Nat) (k : Nat) : (nL cs).drop k = nL (cs.drop k) := by unfold nL; rw [List.map_drop, List.map_drop]
theorem sql_same {K : PySem.W.Frag} {H H' : Hp} {a : Addr} {xs : List V} (s : Same H H') (h : SqL K H a xs) : SqL K H' a xs := by
  rcases h with (z | ⟨o, z⟩) | z
  · exact .inl (.inl (s _ _ z))
  · exact .inl (.inr ⟨o, s _ _ z⟩)
  · exact .inr z
/-- rows shown -/
theorem lay_rows : ∀ T : List (List Int), PyData.canLayAll0 (T.map fun l => PyData.tuple (l.map PyData.int)) = true
  | [] => rfl
  | l :: r => by
    show (PyData.canLay0 (.tuple (l.map PyData.int)) && PyData.canLayAll0 _) = true
    rw [lay_rows r, show PyData.canLay0 (.tuple (l.map PyData.int)) = PyData.canLayAll0 (l.map PyData.int) from rfl, lay_ints l]; rfl
theorem depth_rows : ∀ T : List (List Int), PyData.depthAll (T.map fun l => PyData.tuple (l.map PyData.int)) ≤ 1
  | [] => Nat.zero_le _
  | l :: r => by
    show max (PyData.depth (.tuple (l.map PyData.int))) (PyData.depthAll _) ≤ 1
    have := depth_rows r
    rw [show PyData.depth (.tuple (l.map PyData.int)) = PyData.depthAll (l.map PyData.int) + 1 from rfl, depth_ints l]
    omega
theorem shaped_rows (T : List (List Int)) : SeqAt.shaped (.list (T.map fun l => .tuple (l.map PyData.int))) = true := by
  unfold SeqAt.shaped
  rw [show PyData.canLay0 (.list (T.map fun l => .tuple (l.map PyData.int))) = PyData.canLayAll0 (T.map fun l => .tuple (l.map PyData.int)) from rfl, lay_rows T]
  have h : PyData.depth (.list (T.map fun l => .tuple (l.map PyData.int))) ≤ 2 := Nat.succ_le_succ (depth_rows T)
  generalize PyData.depth (.list (T.map fun l => .tuple (l.map PyData.int))) = n at h
  match n, h with
  | 0, _ => rfl
  | 1, _ => rfl
  | 2, _ => rfl
theorem eqv_rows_nil : ∀ T : List (List Int), PyData.eqv (.list (T.map fun l => .tuple (l.map PyData.int))) (.list []) = decide (T = [])
  | [] => rfl
  | n :: r => by
    rw [decide_eq_false (show ¬ (n :: r = []) from List.cons_ne_nil n r)]
    rfl
def rMaxK (K : PySem.W.Frag) : List V → Hp → VK → Prop := fun vs H Q => ∃ (a : Addr) (ns : List Int), vs = [V.ref a] ∧ SqL K H a (ns.map V.int) ∧ 0 < ns.length ∧ ∀ m, m ∈ ns → (∀ y, y ∈ ns → y ≤ m) → Q (.int m) H
theorem cr_maxK {X : Cx} {K : PySem.W.Frag} (hc : X.calm = true) (h : X.K = K := by rfl) : CallR X (.builtin "max") (rMaxK K) := h ▸ cr_max hc
def rListOf (K : PySem.W.Frag) : List V → Hp → VK → Prop := fun xs H Q => ∃ p ys, xs = [.ref p] ∧ (SqL K H p ys ∨ SqT K H p ys) ∧ ∀ l, H l = none → Q (.ref l) (upd H l (.lst ys))
theorem call_list_ofK {X : Cx} {K : PySem.W.Frag} (h : X.K = K := by rfl) : CallR X (.type "list") (rListOf K) := h ▸ call_list_of
theorem defG_up {P : Program} {w : World} {K : PySem.W.Frag} {mg : Str → Option Value} {base : Heap} {j k : Nat} {x : Str} {ps : List Str} {sp : Sp} (D : DefG P w K mg base j x ps sp) (h : j ≤ k) : DefG P w K mg base k x ps sp := by
  obtain ⟨f, fd, F, r⟩ := D.ex
  exact ⟨⟨f, fd, F.up h, r⟩⟩
theorem op_neDK {X : Cx} {K : PySem.W.Frag} (hu : X.A.units + 64 < cLine) (h : X.K = K := by rfl) : OpR X (compareOp .NotEq) (rNeD K) := h ▸ op_neD hu
end GT
namespace GT
open PySem PySem.Spec PyProof.Rows L2 RZ GL
/-! ### choices of indexes, rising -/
def fst_ (s : List Nat) : Nat := match s.getLast? with
  | none => 0
  | some x => x + 1
def ext_ (n : Nat) (s : List Nat) : List (List Nat) := (List.range (n - fst_ s)).map fun k => s ++ [fst_ s + k]
def chs (n : Nat) : Nat → List (List Nat)
  | 0 => [[]]
  | k + 1 => (chs n k).flatMap (ext_ n)
theorem fst_snoc (s : List Nat) (x : Nat) : fst_ (s ++ [x]) = x + 1 := by unfold fst_; rw [List.getLast?_concat]
theorem snocA {α : Type} {L : List α} (h : L ≠ []) : ∃ L0 c, L = L0 ++ [c] := ⟨L.dropLast, L.getLast h, (List.dropLast_concat_getLast h).symm⟩
theorem mem_chs {n : Nat} : ∀ {k : Nat} {s : List Nat}, s ∈ chs n k ↔ s.length = k ∧ s.Pairwise (· < ·) ∧ ∀ x ∈ s, x < n
  | 0, s => by
    show s ∈ [[]] ↔ _
    rw [List.mem_singleton]
    constructor
    · rintro rfl; exact ⟨rfl, .nil, fun x hx => absurd hx List.not_mem_nil⟩
    · rintro ⟨h, _⟩; exact List.eq_nil_of_length_eq_zero h
  | k + 1, s => by
    show s ∈ (chs n k).flatMap (ext_ n) ↔ _
    rw [List.mem_flatMap]
    constructor
    · rintro ⟨s0, h0, hs⟩
      obtain ⟨l0, p0, b0⟩ := mem_chs.mp h0
      obtain ⟨j, hj, rfl⟩ := List.mem_map.mp hs
      rw [List.mem_range] at hj
      refine ⟨by rw [List.length_append, l0]; rfl, ?_, fun x hx => ?_⟩
      · rw [List.pairwise_append]
        refine ⟨p0, List.pairwise_singleton _ _, fun x hx y hy => ?_⟩
        rw [List.mem_singleton.mp hy]
        obtain ⟨s1, z, rfl⟩ := snocA (List.ne_nil_of_mem hx)
        rw [fst_snoc] at hj ⊢
        rcases List.mem_append.mp hx with hx | hx
        · have := (List.pairwise_append.mp p0).2.2 x hx z List.mem_cons_self
          omega
        · rw [List.mem_singleton.mp hx]; omega
      · rcases List.mem_append.mp hx with hx | hx
        · exact b0 x hx
        · rw [List.mem_singleton.mp hx]; omega
    · rintro ⟨hl, hp, hb⟩
      obtain ⟨s0, a, rfl⟩ := snocA (show s ≠ [] from fun z => by rw [z] at hl; cases hl)
      have hp' := List.pairwise_append.mp hp
      have ha : a < n := hb a (List.mem_append_right _ List.mem_cons_self)
      refine ⟨s0, mem_chs.mpr ⟨by rw [List.length_append] at hl; simpa using hl, hp'.1, fun x hx => hb x (List.mem_append_left _ hx)⟩, ?_⟩
      have hf : fst_ s0 ≤ a := by
        rcases Classical.em (s0 = []) with rfl | h
        · exact Nat.zero_le _
        · obtain ⟨s1, z, rfl⟩ := snocA h
          rw [fst_snoc]
          exact hp'.2.2 z (List.mem_append_right _ List.mem_cons_self) a List.mem_cons_self
      unfold ext_
      exact List.mem_map.mpr ⟨a - fst_ s0, List.mem_range.mpr (by omega), by rw [show fst_ s0 + (a - fst_ s0) = a by omega]⟩
/-- lists of naturals, as they lie -/
inductive Ls (H : Hp) : List V → List (List Nat) → Prop
  | nil : Ls H [] []
  | cons {p : Addr} {s : List Nat} {xs : List V} {C : List (List Nat)} (h : H p = some (.lst (nL s))) (r : Ls H xs C) : Ls H (.ref p :: xs) (s :: C)
section
variable {H H' : Hp} {xs ys : List V} {C E : List (List Nat)}
theorem Ls.len (h : Ls H xs C) : xs.length = C.length := by
  induction h with
  | nil => rfl
  | cons _ _ ih => rw [List.length_cons, List.length_cons, ih]
theorem Ls.to (h : Ls H xs C) (f : ∀ p l, H p = some (.lst (nL l)) → H' p = some (.lst (nL l))) : Ls H' xs C := by
  induction h with
  | nil => exact .nil
  | cons h _ ih => exact .cons (f _ _ h) ih
theorem Ls.same (h : Ls H xs C) (s : Same H H') : Ls H' xs C := h.to fun _ _ z => s _ _ z
theorem Ls.app (h : Ls H xs C) (g : Ls H ys E) : Ls H (xs ++ ys) (C ++ E) := by
  induction h with
  | nil => exact g
  | cons h _ ih => exact .cons h ih
theorem Ls.get (h : Ls H xs C) {i : Nat} {x : V} (e : xs[i]? = some x) : ∃ p l, x = .ref p ∧ C[i]? = some l ∧ H p = some (.lst (nL l)) := by
  induction h generalizing i with
  | nil => cases e
  | cons h _ ih =>
    match i, e with
    | 0, e => cases e; exact ⟨_, _, rfl, rfl, h⟩
    | i + 1, e => exact ih e
end
/-- the heap without one place -/
def er (L : Addr) (H : Hp) : Hp := fun b => if b = L then none else H b
theorem er_upd {L : Addr} {H : Hp} {o : HO} : er L (upd H L o) = er L H := funext fun b => by
  unfold er
  by_cases h : b = L
  · rw [if_pos h, if_pos h]
  · rw [if_neg h, if_neg h, upd_ne h]
theorem er_same {L : Addr} {H H' : Hp} (s : Same H H') : Same (er L H) (er L H') := fun b o h => by
  unfold er at *
  by_cases e : b = L
  · rw [if_pos e] at h; cases h
  · rw [if_neg e] at *; exact s b o h
theorem er_at {L b : Addr} {H : Hp} (h : b ≠ L) : er L H b = H b := by unfold er; rw [if_neg h]
theorem er_of {L b : Addr} {H : Hp} {o : HO} (h : er L H b = some o) : H b = some o := by
  unfold er at h
  by_cases e : b = L
  · rw [if_pos e] at h; cases h
  · rw [if_neg e] at h; exact h
theorem er_swap {L Z b : Addr} {H : Hp} {o : HO} (h : er L (er Z H) b = some o) : er L H b = some o := by
  have h1 := er_of h
  have h2 := er_of h1
  unfold er at *
  by_cases e : b = L
  · rw [if_pos e] at h; cases h
  · rw [if_neg e]; exact h2
/-- what is new -/
def nw (H0 H : Hp) : Hp := fun b => if (H0 b).isSome = true then none else H b
theorem nw_same {H0 H H' : Hp} (s : Same H H') : Same (nw H0 H) (nw H0 H') := fun b o h => by
  unfold nw at *
  by_cases e : (H0 b).isSome = true
  · rw [if_pos e] at h; cases h
  · rw [if_neg e] at *; exact s b o h
theorem nw_at {b : Addr} {H0 H : Hp} (h : H0 b = none) : nw H0 H b = H b := by unfold nw; rw [h]; rfl
theorem nw_of {b : Addr} {H0 H : Hp} {o : HO} (h : nw H0 H b = some o) : H b = some o ∧ H0 b = none := by
  unfold nw at h
  cases e : H0 b with
  | none => rw [e] at h; exact ⟨h, rfl⟩
  | some u => rw [e] at h; cases h
theorem flat_take {α β : Type} (f : α → List β) (C : List α) (i : Nat) : ((C.take i).flatMap f).length ≤ (C.flatMap f).length := by
  conv => rhs; rw [← List.take_append_drop i C]
  rw [List.flatMap_append, List.length_append]
  omega
end GT
namespace GT
open PySem PySem.Spec PyProof.Rows L2 RZ GL
/-! ### all determinants of a size -/
def pickR (T : List (List Int)) (r : List Nat) : List (List Int) := r.map fun i => T.getD i []
def detsOf (T : List (List Int)) (lg : Nat) (k : Nat) (r : List Nat) : List Int := (chs lg k).map fun cs => LA.D ((pickR T r).map vec) cs
def minorsOf (T : List (List Int)) (lg k : Nat) : List Int := (chs T.length k).flatMap (detsOf T lg k)
theorem mem_minors {T : List (List Int)} {lg k : Nat} {v : Int} : v ∈ minorsOf T lg k ↔ ∃ r ∈ chs T.length k, ∃ cs ∈ chs lg k, v = LA.D ((pickR T r).map vec) cs := by
  unfold minorsOf
  rw [List.mem_flatMap]
  constructor
  · rintro ⟨r, hr, hv⟩
    obtain ⟨cs, hcs, rfl⟩ := List.mem_map.mp hv
    exact ⟨r, hr, cs, hcs, rfl⟩
  · rintro ⟨r, hr, cs, hcs, rfl⟩
    exact ⟨r, hr, List.mem_map.mpr ⟨cs, hcs, rfl⟩⟩
theorem pick_in {T : List (List Int)} {r : List Nat} (rb : ∀ x ∈ r, x < T.length) : ∀ t ∈ pickR T r, t ∈ T := fun t ht => by
  obtain ⟨i0, hi0, rfl⟩ := List.mem_map.mp ht
  have := rb i0 hi0
  rw [List.getD_eq_getElem?_getD, List.getElem?_eq_getElem this]
  exact List.getElem_mem this
theorem pick_len {T : List (List Int)} {r : List Nat} : (pickR T r).length = r.length := List.length_map ..
/-- every part in order is picked by a choice -/
theorem sub_pick {T s : List (List Int)} (h : s.Sublist T) : ∃ r ∈ chs T.length s.length, s = pickR T r := by
  obtain ⟨is, rfl, hp⟩ := List.sublist_eq_map_getElem h
  refine ⟨is.map (·.val), mem_chs.mpr ⟨by rw [List.length_map, List.length_map], ?_, fun x hx => ?_⟩, ?_⟩
  · rw [List.pairwise_map]; exact hp.imp fun z => z
  · obtain ⟨y, _, rfl⟩ := List.mem_map.mp hx
    exact y.isLt
  · unfold pickR
    rw [List.map_map]
    refine List.map_congr_left fun i _ => ?_
    show T[i] = T.getD i.val []
    rw [List.getD_eq_getElem?_getD, List.getElem?_eq_getElem i.isLt]; rfl
theorem flat_len {α β : Type} (f : α → List β) (b : Nat) : ∀ C : List α, (∀ r ∈ C, (f r).length ≤ b) → (C.flatMap f).length ≤ C.length * b
  | [], _ => by simp
  | r :: C, h => by
    rw [List.flatMap_cons, List.length_append, List.length_cons, Nat.succ_mul]
    have h1 := h r List.mem_cons_self
    have h2 := flat_len f b C fun x hx => h x (List.mem_cons_of_mem _ hx)
    omega
theorem minors_len {T : List (List Int)} {lg k : Nat} : (minorsOf T lg k).length ≤ (chs T.length k).length * (chs lg k).length := flat_len _ _ _ fun r _ => by unfold detsOf; rw [List.length_map]; exact Nat.le_refl _
theorem chs_few : ∀ n : Fin 7, ∀ k : Fin 7, (chs n.val k.val).length ≤ 20 := by decide +kernel
theorem chs_le {n k : Nat} (hn : n ≤ 6) (hk : k ≤ 6) : (chs n k).length ≤ 20 := chs_few ⟨n, by omega⟩ ⟨k, by omega⟩
/-- the last size with a determinant that is not nothing -/
def lastS (f : Nat → Bool) : Nat → Nat
  | 0 => 0
  | i + 1 => if f (i + 1) then i + 1 else lastS f i
theorem lastS_of {f : Nat → Bool} {r : Nat} (h1 : r = 0 ∨ f r = true) (h2 : ∀ k, r < k → f k = false) : ∀ n, r ≤ n → lastS f n = r
  | 0, h => (by omega : (0 : Nat) = r)
  | n + 1, h => by
    show (if f (n + 1) then n + 1 else lastS f n) = r
    by_cases e : r = n + 1
    · rcases h1 with z | z
      · omega
      · rw [← e, z]; rfl
    · rw [h2 (n + 1) (by omega)]
      exact lastS_of h1 h2 n (by omega)
def anyOff (p : Int) (ws : List Int) : Bool := ws.any fun v => decide (¬ p ∣ v)
theorem anyOff_iff {p : Int} {ws : List Int} : anyOff p ws = true ↔ ∃ v ∈ ws, ¬ p ∣ v := by
  unfold anyOff
  rw [List.any_eq_true]
  constructor
  · rintro ⟨v, hv, h⟩; exact ⟨v, hv, of_decide_eq_true h⟩
  · rintro ⟨v, hv, h⟩; exact ⟨v, hv, decide_eq_true h⟩
open LA (PZ) in
theorem Cert.last {p : Int} (hp : PZ p) {w r : Nat} {T : List (List Int)} (h : Cert p w T r) : r ≤ min T.length w ∧ lastS (fun k => anyOff p (minorsOf T w k)) (min T.length w) = r := by
  obtain ⟨s, cs, hs, sl, cl, cp, cb, hd⟩ := h.some hp
  have rw_ : r ≤ w := by
    have : cs ∈ chs w r := mem_chs.mpr ⟨cl, cp, cb⟩
    refine Nat.le_of_not_lt fun lt => ?_
    -- r rising numbers below w
    have key : ∀ (L : List Nat) (a b : Nat), L.Pairwise (· < ·) → (∀ x ∈ L, a ≤ x ∧ x < b) → L.length ≤ b - a := by
      intro L
      induction L with
      | nil => intro a b _ _; exact Nat.zero_le _
      | cons y L ih =>
        intro a b hp hb
        rw [List.pairwise_cons] at hp
        have := ih (y + 1) b hp.2 fun x hx => ⟨hp.1 x hx, (hb x (List.mem_cons_of_mem _ hx)).2⟩
        have := hb y List.mem_cons_self
        rw [List.length_cons]
        omega
    have := key cs 0 w cp fun x hx => ⟨Nat.zero_le _, cb x hx⟩
    omega
  have rt : r ≤ T.length := by rw [← sl]; exact hs.length_le
  refine ⟨by omega, lastS_of ?_ ?_ _ (by omega)⟩
  · right
    obtain ⟨ix, hix, rfl⟩ := sub_pick hs
    rw [sl] at hix
    exact anyOff_iff.mpr ⟨_, mem_minors.mpr ⟨ix, hix, cs, mem_chs.mpr ⟨cl, cp, cb⟩, rfl⟩, hd⟩
  · intro k hk
    cases e : anyOff p (minorsOf T w k) with
    | false => rfl
    | true =>
      obtain ⟨v, hv, hn⟩ := anyOff_iff.mp e
      obtain ⟨ix, hix, cs', _, rfl⟩ := mem_minors.mp hv
      obtain ⟨il, _, ib⟩ := mem_chs.mp hix
      exact absurd (h.more hp (pick_in ib) (by rw [pick_len, il]; exact hk) cs') hn
/-! ### how great a determinant is -/
theorem Lp_size {b G : Nat} (a : LA.Ve) (ha : ∀ j, (a j).natAbs ≤ b) : ∀ (cs : List Nat) (g : List Nat → Int), (∀ l, l.length + 1 = cs.length → (g l).natAbs ≤ G) → (LA.Lp a cs g).natAbs ≤ cs.length * (b * G)
  | [], g, _ => Nat.zero_le _
  | c :: cs, g, h => by
    show (a c * g cs - LA.Lp a cs (fun l => g (c :: l))).natAbs ≤ _
    have h1 : (a c * g cs).natAbs ≤ b * G := by rw [Int.natAbs_mul]; exact Nat.mul_le_mul (ha c) (h cs rfl)
    have h2 := Lp_size a ha cs (fun l => g (c :: l)) fun l hl => h (c :: l) (by rw [List.length_cons, List.length_cons, hl])
    rw [List.length_cons, Nat.succ_mul]
    omega
theorem D_size {b : Nat} : ∀ (T : List (List Int)) (cs : List Nat), (∀ t ∈ T, Bd (2 ^ b) t) → cs.length ≤ 128 → (LA.D (T.map vec) cs).natAbs ≤ 2 ^ ((b + 7) * T.length)
  | [], [], _, _ => by show (1 : Int).natAbs ≤ _; exact Nat.one_le_two_pow
  | [], _ :: _, _, _ => Nat.zero_le _
  | t :: T, cs, h, hc => by
    show (LA.Lp (vec t) cs (LA.D (T.map vec))).natAbs ≤ _
    refine Nat.le_trans (Lp_size (b := 2 ^ b) (G := 2 ^ ((b + 7) * T.length)) (vec t) (h t List.mem_cons_self) cs _ fun l hl => D_size T l (fun x hx => h x (List.mem_cons_of_mem _ hx)) (by omega)) ?_
    refine Nat.le_trans (Nat.mul_le_mul_right _ hc) ?_
    rw [show 128 = 2 ^ 7 from rfl, ← Nat.pow_add, ← Nat.pow_add, List.length_cons]
    refine Nat.pow_le_pow_right (by decide) ?_
    rw [Nat.mul_succ]
    omega
end GT
namespace GT
open PySem PySem.Spec PyProof.Rows L2 RZ GL
/-! ### rows that are lists -/
structure Li (H : Hp) (xs : List V) (T : List (List Int)) : Prop where
  len : xs.length = T.length
  at_ : ∀ (j : Nat) (l : List Int), T[j]? = some l → ∃ p, xs[j]? = some (.ref p) ∧ H p = some (.lst (l.map V.int))
section
variable {H H' : Hp} {xs ys : List V} {T S : List (List Int)}
theorem Li.nil : Li H [] [] := ⟨rfl, fun _ _ h => by cases h⟩
theorem Li.to (h : Li H xs T) (f : ∀ p l, H p = some (.lst l) → H' p = some (.lst l)) : Li H' xs T := ⟨h.len, fun j l e => by
  obtain ⟨p, h1, h2⟩ := h.at_ j l e
  exact ⟨p, h1, f _ _ h2⟩⟩
theorem Li.same (h : Li H xs T) (s : Same H H') : Li H' xs T := h.to fun _ _ z => s _ _ z
theorem Li.snoc (h : Li H xs T) {p : Addr} {l : List Int} (e : H p = some (.lst (l.map V.int))) : Li H (xs ++ [.ref p]) (T ++ [l]) := ⟨by rw [List.length_append, List.length_append, h.len]; rfl, fun j m hm => by
  by_cases hj : j < T.length
  · rw [List.getElem?_append_left hj] at hm
    obtain ⟨q, h1, h2⟩ := h.at_ j m hm
    exact ⟨q, by rw [List.getElem?_append_left (by rw [h.len]; exact hj)]; exact h1, h2⟩
  · rw [List.getElem?_append_right (by omega)] at hm
    have e0 : j - T.length = 0 := by
      refine Classical.byContradiction fun z => ?_
      rw [List.getElem?_eq_none (by simp; omega)] at hm
      cases hm
    rw [e0] at hm
    obtain rfl : l = m := Option.some.inj hm
    exact ⟨p, by rw [List.getElem?_append_right (by rw [h.len]; omega), h.len, e0]; rfl, e⟩⟩
theorem Li.get (h : Li H xs T) {j : Nat} {x : V} (e : xs[j]? = some x) : ∃ p l, x = .ref p ∧ T[j]? = some l ∧ H p = some (.lst (l.map V.int)) := by
  have hj : j < T.length := by rw [← h.len]; exact (List.getElem?_eq_some_iff.mp e).1
  obtain ⟨p, h1, h2⟩ := h.at_ j _ (List.getElem?_eq_getElem hj)
  exact ⟨p, _, Option.some.inj (e.symm.trans h1), List.getElem?_eq_getElem hj, h2⟩
theorem Li.setRef (h : Li H xs T) {p : Addr} {l : List Int} (e : H p = some (.lst (l.map V.int))) (i : Nat) : Li H (xs.set i (.ref p)) (T.set i l) := ⟨by rw [List.length_set, List.length_set, h.len], fun j m hm => by
  by_cases hij : i = j
  · subst hij
    have hi : i < T.length := by
      have := (List.getElem?_eq_some_iff.mp hm).1
      rwa [List.length_set] at this
    rw [List.getElem?_set_self hi] at hm
    cases hm
    exact ⟨p, List.getElem?_set_self (by rw [h.len]; exact hi), e⟩
  · rw [List.getElem?_set_ne hij] at hm
    obtain ⟨q, h1, h2⟩ := h.at_ j m hm
    exact ⟨q, by rw [List.getElem?_set_ne hij]; exact h1, h2⟩⟩
theorem Li.setRow (h : Li H xs T) (nd : xs.Nodup) {i : Nat} {p : Addr} (e : xs[i]? = some (.ref p)) (l : List Int) : Li (upd H p (.lst (l.map V.int))) xs (T.set i l) := ⟨by rw [List.length_set, h.len], fun j m hm => by
  by_cases hij : i = j
  · subst hij
    have hi : i < T.length := by
      have := (List.getElem?_eq_some_iff.mp hm).1
      rwa [List.length_set] at this
    rw [List.getElem?_set_self hi] at hm
    cases hm
    exact ⟨p, e, upd_same⟩
  · rw [List.getElem?_set_ne hij] at hm
    obtain ⟨q, h1, h2⟩ := h.at_ j m hm
    refine ⟨q, h1, ?_⟩
    rw [upd_ne fun z => ?_]
    · exact h2
    · subst z
      obtain ⟨a1, a2⟩ := List.getElem?_eq_some_iff.mp e
      obtain ⟨b1, b2⟩ := List.getElem?_eq_some_iff.mp h1
      exact hij ((List.getElem_inj nd).mp (a2.trans b2.symm))⟩
theorem er_mv {d g : Addr} (D : Deck H d g) (M : Mv d g H H') {p : Addr} {xs : List V} (h : er g H p = some (.lst xs)) : er g H' p = some (.lst xs) := by
  have hp := er_of h
  have ng : p ≠ g := fun z => by unfold er at h; rw [if_pos z] at h; cases h
  rw [er_at ng]
  obtain ⟨k, L, h1, h2, _⟩ := D.ex
  exact M.keep _ _ hp (ne_of hp h1 (fun z => nomatch z)) ng
theorem Li.mv {d g : Addr} (h : Li (er g H) xs T) (D : Deck H d g) (M : Mv d g H H') : Li (er g H') xs T := h.to fun _ _ z => er_mv D M z
end
theorem ne_er {L p : Addr} {H : Hp} {o : HO} (h : er L H p = some o) : p ≠ L := fun z => by
  unfold er at h; rw [if_pos z] at h; cases h
theorem nez_in {H6 H : Hp} {Z g p : Addr} {o : HO} (h6 : H6 p = none) (nz : p ≠ Z) (ng : p ≠ g) (h : H p = some o) : nw H6 (er Z (er g H)) p = some o := by
  rw [nw_at h6, er_at nz, er_at ng]; exact h
theorem nez_out {H6 H : Hp} {Z g p : Addr} {o : HO} (h : nw H6 (er Z (er g H)) p = some o) : H6 p = none ∧ p ≠ Z ∧ p ≠ g ∧ H p = some o := by
  obtain ⟨h1, h2⟩ := nw_of h
  exact ⟨h2, ne_er h1, ne_er (er_of h1), er_of (er_of h1)⟩
/-! ### what keeps ranks -/
def RkTo (G G' : List (List Int)) : Prop := ∀ p r, LA.PZ p → LA.Rk p (G.map vec) r → LA.Rk p (G'.map vec) r
theorem RkTo.refl (G : List (List Int)) : RkTo G G := fun _ _ _ h => h
theorem RkTo.trans {A B C : List (List Int)} (h : RkTo A B) (g : RkTo B C) : RkTo A C := fun p r z a => g p r z (h p r z a)
open LA (SP Off Lin) in
theorem RkTo.of {G G' : List (List Int)} (h : ∀ p, LA.PZ p → (∀ t ∈ G, SP p (Off p) (G'.map vec) (vec t)) ∧ ∀ t ∈ G', SP p (Off p) (G.map vec) (vec t)) : RkTo G G' := fun p r z a => a.to (fun t ht => by
    obtain ⟨l, hl, rfl⟩ := List.mem_map.mp ht
    exact (h p z).1 l hl) (fun t ht => by
    obtain ⟨l, hl, rfl⟩ := List.mem_map.mp ht
    exact (h p z).2 l hl)
def addI (ns ms : List Int) (t : Int) : List Int := List.zipWith (fun x y => x + t * y) ns ms
theorem addI_len {ns ms : List Int} {t : Int} (h : ns.length = ms.length) : (addI ns ms t).length = ns.length := by unfold addI; rw [List.length_zipWith]; omega
theorem addI_at {ns ms : List Int} {t : Int} {i : Nat} (h1 : i < ns.length) (h2 : i < ms.length) : (addI ns ms t)[i]? = some (vec ns i + t * vec ms i) := by unfold addI; rw [List.getElem?_zipWith, at_vec h1, at_vec h2]
theorem vec_addI {ns ms : List Int} {t : Int} (h : ns.length = ms.length) (j : Nat) : vec (addI ns ms t) j = vec ns j + t * vec ms j := by
  by_cases hj : j < ns.length
  · exact vec_at (addI_at hj (h ▸ hj))
  · rw [vec_out (by rw [addI_len h]; omega), vec_out (l := ns) (by omega), vec_out (l := ms) (by omega)]; omega
open LA (SP Off Lin) in
theorem rk_add {G : List (List Int)} {a b : Nat} {ra rb : List Int} (ha : G[a]? = some ra) (hb : G[b]? = some rb) (ab : a ≠ b) (el : ra.length = rb.length) (t : Int) : RkTo G (G.set a (addI ra rb t)) := RkTo.of fun p z => by
  have la := (List.getElem?_eq_some_iff.mp ha).1
  have na : addI ra rb t ∈ G.set a (addI ra rb t) := List.mem_of_getElem? (List.getElem?_set_self la)
  have nb : rb ∈ G.set a (addI ra rb t) := List.mem_of_getElem? (i := b) (by rw [List.getElem?_set_ne ab]; exact hb)
  refine ⟨fun r hr => ?_, fun r hr => ?_⟩
  · obtain ⟨j, hj, rfl⟩ := List.getElem_of_mem hr
    by_cases e : a = j
    · subst e
      have er : G[a] = ra := Option.some.inj ((List.getElem?_eq_getElem hj).symm.trans ha)
      rw [er]
      exact (SP.sub t (SP.mem (List.mem_map_of_mem na)) (SP.mem (List.mem_map_of_mem nb))).of fun j => by rw [vec_addI el]; omega
    · exact .mem (List.mem_map_of_mem (List.mem_of_getElem? (i := j) (by rw [List.getElem?_set_ne e]; exact List.getElem?_eq_getElem hj)))
  · rcases List.mem_or_eq_of_mem_set hr with hr | rfl
    · exact .mem (List.mem_map_of_mem hr)
    · exact (SP.lin 1 t (SP.mem (List.mem_map_of_mem (List.mem_of_getElem? ha))) (SP.mem (List.mem_map_of_mem (List.mem_of_getElem? hb)))).of fun j => by rw [vec_addI el]; omega
open LA (SP Off Lin) in
theorem rk_swap {G : List (List Int)} {a b : Nat} {ra rb : List Int} (ha : G[a]? = some ra) (hb : G[b]? = some rb) : RkTo G ((G.set a rb).set b ra) := RkTo.of fun p z => by
  have la := (List.getElem?_eq_some_iff.mp ha).1
  have lb := (List.getElem?_eq_some_iff.mp hb).1
  refine ⟨fun r hr => .mem (List.mem_map_of_mem ?_), fun r hr => .mem (List.mem_map_of_mem ?_)⟩
  · obtain ⟨j, hj, rfl⟩ := List.getElem_of_mem hr
    have ej := List.getElem?_eq_getElem hj
    by_cases e1 : a = j
    · subst e1
      rw [Option.some.inj (ej.symm.trans ha)]
      exact List.mem_of_getElem? (List.getElem?_set_self (by rw [List.length_set]; exact lb))
    · by_cases e2 : b = j
      · subst e2
        rw [Option.some.inj (ej.symm.trans hb)]
        exact List.mem_of_getElem? (i := a) (by rw [List.getElem?_set_ne (fun z => e1 z.symm), List.getElem?_set_self la])
      · exact List.mem_of_getElem? (i := j) (by rw [List.getElem?_set_ne e2, List.getElem?_set_ne e1]; exact ej)
  · rcases List.mem_or_eq_of_mem_set hr with hr | rfl
    · rcases List.mem_or_eq_of_mem_set hr with hr | rfl
      · exact hr
      · exact List.mem_of_getElem? hb
    · exact List.mem_of_getElem? ha
def colI (c d : Nat) (t : Int) (l : List Int) : List Int := l.set c (vec l c + t * vec l d * (if c ≠ d then 1 else 0))
theorem vec_set {l : List Int} {c : Nat} (h : c < l.length) (x : Int) (j : Nat) : vec (l.set c x) j = if j = c then x else vec l j := by
  unfold vec
  rw [List.getD_eq_getElem?_getD, List.getD_eq_getElem?_getD]
  by_cases e : j = c
  · rw [if_pos e, e, List.getElem?_set_self h]; rfl
  · rw [if_neg e, List.getElem?_set_ne (fun z => e z.symm)]
def colV (c d : Nat) (t : Int) : LA.Ve → LA.Ve := fun v j => if j = c then v c + t * v d * (if c ≠ d then 1 else 0) else v j
theorem colV_lin (c d : Nat) (t : Int) : LA.Lin (colV c d t) := ⟨fun u v j => by
    unfold colV
    split
    · simp only [Int.mul_add, Int.add_mul]; omega
    · rfl, fun k v j => by
    unfold colV
    split
    · rw [Int.mul_add, Int.mul_left_comm t k, Int.mul_assoc k]
    · rfl, fun e v h j => by
    unfold colV
    split
    · exact Int.dvd_add (h c) (Int.dvd_mul_of_dvd_left (Int.dvd_mul_of_dvd_right (h d)))
    · exact h j⟩
theorem colV_inv (c d : Nat) (t : Int) (v : LA.Ve) (j : Nat) : colV c d (-t) (colV c d t v) j = v j := by
  by_cases e : c = d
  · subst e
    unfold colV
    by_cases hj : j = c
    · rw [hj]; simp
    · simp [hj]
  · have e' : ¬ d = c := fun z => e z.symm
    unfold colV
    by_cases hj : j = c
    · subst hj
      rw [if_pos rfl, if_pos rfl, if_pos e, if_neg e', Int.neg_mul, Int.neg_mul]
      omega
    · rw [if_neg hj, if_neg hj]
theorem rk_col {G : List (List Int)} {c d : Nat} (t : Int) (hc : ∀ r ∈ G, c < r.length) : RkTo G (G.map (colI c d t)) := fun p r z a => by
  have e : (G.map (colI c d t)).map vec = (G.map vec).map (colV c d t) := by
    rw [List.map_map, List.map_map]
    refine List.map_congr_left fun l hl => ?_
    funext j
    show vec (colI c d t l) j = colV c d t (vec l) j
    unfold colI colV
    rw [vec_set (hc l hl)]
  rw [e]
  exact a.map (colV_lin c d t) (colV_lin c d (-t)) (colV_inv c d t)
end GT
namespace GT
open PySem PySem.Spec PyProof.Rows L2 RZ GL
/-! ### places left out -/
def rs (bad : List Addr) (H : Hp) : Hp := fun b => if b ∈ bad then none else H b
theorem rs_out {bad : List Addr} {H : Hp} {b : Addr} {o : HO} (h : rs bad H b = some o) : b ∉ bad ∧ H b = some o := by
  unfold rs at h
  by_cases e : b ∈ bad
  · rw [if_pos e] at h; cases h
  · rw [if_neg e] at h; exact ⟨e, h⟩
theorem rs_in {bad : List Addr} {H : Hp} {b : Addr} (h : b ∉ bad) : rs bad H b = H b := by unfold rs; rw [if_neg h]
theorem rs_same {bad : List Addr} {H H' : Hp} (s : Same H H') : Same (rs bad H) (rs bad H') := fun b o h => by
  obtain ⟨h1, h2⟩ := rs_out h
  rw [rs_in h1]; exact s b o h2
theorem rs_upd {bad : List Addr} {H : Hp} {b : Addr} {o : HO} (h : b ∈ bad) : rs bad (upd H b o) = rs bad H := funext fun c => by
  unfold rs
  by_cases e : c ∈ bad
  · rw [if_pos e, if_pos e]
  · rw [if_neg e, if_neg e, upd_ne (fun z => e (by rw [z]; exact h))]
theorem rs_mv {bad : List Addr} {d g : Addr} {H H' : Hp} (hg : g ∈ bad) (D : Deck H d g) (M : Mv d g H H') {p : Addr} {l : List V} (h : rs bad H p = some (.lst l)) : rs bad H' p = some (.lst l) := by
  obtain ⟨h1, h2⟩ := rs_out h
  rw [rs_in h1]
  exact Mv.lst M h2 (fun z => h1 (z ▸ hg)) D
/-! ### lone entries -/
def loneI (w s : Nat) (v : Int) : List Int := (List.replicate w 0).set s v
theorem vec_zero (w j : Nat) : vec (List.replicate w 0) j = 0 := by
  unfold vec
  rw [List.getD_eq_getElem?_getD, List.getElem?_replicate]
  split <;> rfl
theorem vec_lone {w s : Nat} (h : s < w) (v : Int) (j : Nat) : vec (loneI w s v) j = if j = s then v else 0 := by
  unfold loneI
  rw [vec_set (by rw [List.length_replicate]; exact h), vec_zero]
def loneG (w m : Nat) (ps : List (Nat × Int)) : List (List Int) := ps.map (fun x => loneI w x.1 x.2) ++ List.replicate m (List.replicate w 0)
open LA (SP Off Tri Rk PZ) in
theorem lone_tri {p : Int} {w : Nat} : ∀ ps : List (Nat × Int), (ps.map (·.1)).Nodup → (∀ x ∈ ps, x.1 < w) → (∀ x ∈ ps, ¬ p ∣ x.2) → Tri p (ps.map fun x => vec (loneI w x.1 x.2)) (ps.map (·.1))
  | [], _, _, _ => trivial
  | x :: ps, nd, hw, hp => by
    rw [List.map_cons, List.nodup_cons] at nd
    refine ⟨?_, fun r hr => ?_, lone_tri ps nd.2 (fun y hy => hw y (List.mem_cons_of_mem _ hy)) fun y hy => hp y (List.mem_cons_of_mem _ hy)⟩
    · show ¬ p ∣ vec (loneI w x.1 x.2) x.1
      rw [vec_lone (hw x List.mem_cons_self), if_pos rfl]
      exact hp x List.mem_cons_self
    · obtain ⟨y, hy, rfl⟩ := List.mem_map.mp hr
      show p ∣ vec (loneI w y.1 y.2) x.1
      rw [vec_lone (hw y (List.mem_cons_of_mem _ hy)), if_neg (fun z => nd.1 (by rw [z]; exact List.mem_map_of_mem (f := fun x : Nat × Int => x.1) hy))]
      exact Int.dvd_zero p
open LA (SP Off Tri Rk PZ) in
theorem lone_rk {p : Int} (hp : PZ p) {w m : Nat} {ps : List (Nat × Int)} (nd : (ps.map (·.1)).Nodup) (hw : ∀ x ∈ ps, x.1 < w) : Rk p ((loneG w m ps).map vec) ((ps.map (·.2)).filter fun v => decide (¬ p ∣ v)).length := by
  have key := lone_tri (p := p) (w := w) (ps.filter fun x => decide (¬ p ∣ x.2)) ((List.filter_sublist.map _).nodup nd) (fun x hx => hw x (List.mem_filter.mp hx).1) fun x hx => of_decide_eq_true (List.mem_filter.mp hx).2
  have e : ((ps.map (·.2)).filter fun v => decide (¬ p ∣ v)).length = ((ps.filter fun x => decide (¬ p ∣ x.2)).map fun x => vec (loneI w x.1 x.2)).length := by
    rw [List.length_map, List.filter_map, List.length_map]; rfl
  rw [e]
  refine key.rk hp (fun x hx => ?_) fun t ht => ?_
  · obtain ⟨y, hy, rfl⟩ := List.mem_map.mp hx
    exact .mem (List.mem_map_of_mem (List.mem_append_left _ (List.mem_map_of_mem (f := fun x : Nat × Int => loneI w x.1 x.2) (List.mem_filter.mp hy).1)))
  · obtain ⟨l, hl, rfl⟩ := List.mem_map.mp ht
    rcases List.mem_append.mp hl with hl | hl
    · obtain ⟨y, hy, rfl⟩ := List.mem_map.mp hl
      by_cases hd : p ∣ y.2
      · refine .zero fun j => ?_
        rw [vec_lone (hw y hy)]
        split
        · exact hd
        · exact Int.dvd_zero p
      · exact .mem (List.mem_map_of_mem (f := fun x : Nat × Int => vec (loneI w x.1 x.2)) (List.mem_filter.mpr ⟨hy, decide_eq_true hd⟩))
    · obtain ⟨_, rfl⟩ := List.mem_replicate.mp hl
      exact .zero fun j => by rw [vec_zero]; exact Int.dvd_zero p
theorem loneG_len {w m : Nat} {ps : List (Nat × Int)} : (loneG w m ps).length = ps.length + m := by unfold loneG; rw [List.length_append, List.length_map, List.length_replicate]
theorem loneG_set {w m s : Nat} {ps : List (Nat × Int)} {v : Int} : (loneG w (m + 1) ps).set ps.length (loneI w s v) = loneG w m (ps ++ [(s, v)]) := by
  unfold loneG
  rw [List.set_append_right _ _ (by rw [List.length_map]; exact Nat.le_refl _), List.length_map, Nat.sub_self, List.replicate_succ, List.set_cons_zero, List.map_append, List.append_assoc]
  rfl
theorem loneG_at {w m : Nat} {ps : List (Nat × Int)} : (loneG w (m + 1) ps)[ps.length]? = some (List.replicate w 0) := by
  unfold loneG
  rw [List.getElem?_append_right (by rw [List.length_map]; exact Nat.le_refl _), List.length_map, Nat.sub_self]
  rfl
/-! ### primes -/
theorem pz_of {n : Nat} (h2 : 2 ≤ n) (h : ∀ x, x < n → x ≠ 0 → ∃ y, y < n ∧ x * y % n = 1) : LA.PZ (n : Int) where
  one := fun z => by
    have := Int.le_of_dvd (by decide) z
    omega
  mul := fun {a b} z => by
    by_cases ha : (n : Int) ∣ a
    · exact .inl ha
    · right
      have n0 : (0 : Int) < n := by omega
      have m0 := Int.emod_nonneg a (show (n : Int) ≠ 0 by omega)
      have m1 := Int.emod_lt_of_pos a n0
      obtain ⟨x, ex⟩ : ∃ x : Nat, a % n = x := ⟨(a % n).toNat, by omega⟩
      have x0 : x ≠ 0 := fun z => ha (Int.dvd_of_emod_eq_zero (by rw [ex, z]; rfl))
      obtain ⟨y, _, hy⟩ := h x (by omega) x0
      have e1 : (x * y : Int) % n = 1 := by exact_mod_cast hy
      obtain ⟨k, hk⟩ := z
      have ea : a = n * (a / n) + x := by rw [← ex, Int.emod_def]; omega
      have exy : (x * y : Int) = n * (x * y / n) + 1 := by
        have := Int.emod_def (x * y : Int) n
        omega
      refine ⟨k * y - (a / n) * y * b - (x * y / n) * b, ?_⟩
      have h1 : (x : Int) * y * b = n * (x * y / n) * b + b := by rw [exy, Int.add_mul, Int.one_mul, ← exy]
      have h2 : a * b * y = n * k * y := by rw [hk]
      have h3 : a * b * y = n * (a / n) * b * y + x * b * y := by
        conv => lhs; rw [ea]
        rw [Int.add_mul, Int.add_mul]
      have h4 : (x : Int) * b * y = x * y * b := by rw [Int.mul_assoc, Int.mul_comm b y, ← Int.mul_assoc]
      rw [Int.mul_sub, Int.mul_sub]
      have h5 : (n : Int) * (k * y) = n * k * y := (Int.mul_assoc _ _ _).symm
      have h6 : (n : Int) * (a / n * y * b) = n * (a / n) * b * y := by
        rw [← Int.mul_assoc, ← Int.mul_assoc, Int.mul_assoc (n * (a / n)) y b, Int.mul_comm y b, ← Int.mul_assoc]
      have h7 : (n : Int) * (x * y / n * b) = n * (x * y / n) * b := (Int.mul_assoc _ _ _).symm
      rw [h5, h6, h7]
      omega
theorem inv_of {n : Nat} (h : ∀ x : Fin n, x.val = 0 ∨ x.val * (x.val ^ (n - 2) % n) % n = 1) (n0 : 0 < n) : ∀ x, x < n → x ≠ 0 → ∃ y, y < n ∧ x * y % n = 1 := fun x hx h0 => ⟨x ^ (n - 2) % n, Nat.mod_lt _ n0, (h ⟨x, hx⟩).resolve_left h0⟩
theorem pz2 : LA.PZ 2 := pz_of (n := 2) (by decide) (inv_of (by decide +kernel) (by decide))
theorem pz3 : LA.PZ 3 := pz_of (n := 3) (by decide) (inv_of (by decide +kernel) (by decide))
theorem pz5 : LA.PZ 5 := pz_of (n := 5) (by decide) (inv_of (by decide +kernel) (by decide))
theorem pz7 : LA.PZ 7 := pz_of (n := 7) (by decide) (inv_of (by decide +kernel) (by decide))
theorem pz11 : LA.PZ 11 := pz_of (n := 11) (by decide) (inv_of (by decide +kernel) (by decide))
theorem pz13 : LA.PZ 13 := pz_of (n := 13) (by decide) (inv_of (by decide +kernel) (by decide))
theorem pz31 : LA.PZ 31 := pz_of (n := 31) (by decide) (inv_of (by decide +kernel) (by decide))
theorem pz97 : LA.PZ 97 := pz_of (n := 97) (by decide) (inv_of (by decide +kernel) (by decide))
theorem pz499 : LA.PZ 499 := pz_of (n := 499) (by decide) (inv_of (by decide +kernel) (by decide))
theorem pz997 : LA.PZ 997 := pz_of (n := 997) (by decide) (inv_of (by decide +kernel) (by decide))
end GT
namespace GT
open PySem PySem.Spec PyProof.Rows L2 RZ GL
/-! ### zip of a list and a tuple -/
def ItzM (K : PySem.W.Frag) (a b : Addr) : It where
  go := fun i H => ∃ (xs ys : List V) (x y : V), (SqL K H a xs ∧ xs[i]? = some x) ∧ SqT K H b ys ∧ ys[i]? = some y
  yld := fun i H v H' => ∃ T x y, v = .ref T ∧ (H T = none ∧ H' = upd H T (.tup [x, y])) ∧ (∀ xs, SqL K H a xs → xs[i]? = some x) ∧ ∀ ys, SqT K H b ys → ys[i]? = some y
  stop := fun i H => ∃ xs ys : List V, (SqL K H a xs ∧ SqT K H b ys) ∧ (i = xs.length ∧ i ≤ ys.length ∨ i = ys.length ∧ i ≤ xs.length)
theorem sep_of {z TI TO i1 i2 a b : Addr} (F : ZipApart z TI TO i1 i2 a b) : ZipSep2 z TI TO i1 i2 [i1, a] [i2, b] := by
  have pair : ∀ {x p q : Addr}, x ≠ p → x ≠ q → x ∉ [p, q] := fun h1 h2 h => by
    rcases List.mem_cons.mp h with e | h
    · exact h1 e
    · exact h2 (List.mem_singleton.mp h)
  exact ⟨F.TIz, F.TOz, F.TITO, F.TIi1, List.mem_cons_self, pair F.i1z.symm F.l1z.symm, pair F.TOi1 F.l1TO.symm, F.TIi2, List.mem_cons_self, pair F.i2z.symm F.l2z.symm, pair F.TOi2 F.l2TO.symm, pair F.i12 F.l2i1.symm, pair F.i12.symm F.l1i2.symm⟩
def StM (z TI TO i1 i2 a b : Addr) (i : Nat) (h : Heap) : Prop := (IsZip h z TI TO .none ∧ IsTupOf2 h TI (.ref i1) (.ref i2) ∧ ∃ x y, IsTupOf2 h TO x y) ∧ h.IsListIter i1 a i ∧ h.IsTupleIter i2 b i
theorem turn_zipM {P : Program} {w : World} {K : PySem.W.Frag} {elts : List Expr} {kk : Nat} {tpos : Pos} {a b z TI TO i1 i2 : Addr} (F : ZipApart z TI TO i1 i2 a b) :
    Turn P w K (.Tuple elts kk tpos) (ItzM K a b) [z, TI, TO, i1, i2] z (StM z TI TO i1 i2 a b) where
  mem := List.mem_cons_self
  obj := fun i h st c hc => by
    obtain ⟨⟨hz, hTI, x, y, hTO⟩, ⟨o1, e1, k1, d1⟩, o2, e2, k2, d2⟩ := st
    simp only [List.mem_cons, List.not_mem_nil, or_false] at hc
    rcases hc with rfl | rfl | rfl | rfl | rfl
    · exact ⟨_, hz, fun v q => (by cases q)⟩
    · exact ⟨_, hTI, fun v q => (by cases q)⟩
    · exact ⟨_, hTO, fun v q => (by cases q)⟩
    · exact ⟨o1, e1, fun v q => (by rw [d1] at q; cases q)⟩
    · exact ⟨o2, e2, fun v q => (by rw [d2] at q; cases q)⟩
  keep := fun i h h' st k => by
    obtain ⟨⟨hz, hTI, x, y, hTO⟩, h1, h2⟩ := st
    have up : ∀ c, c ∈ [z, TI, TO, i1, i2] → ∀ o, h.get? c = some o → h'.get? c = some o := fun c hc o e => k c hc o e
    exact ⟨⟨up z (by simp) _ hz, up TI (by simp) _ hTI, x, y, up TO (by simp) _ hTO⟩, h1.at fun o e => up i1 (by simp) o e, h2.at fun o e => up i2 (by simp) o e⟩
  item := by
    intro X hP hw hK hc i pins s σ H E I hf st hg
    subst hP hw hK
    obtain ⟨⟨hz, hTI, x0, y0, hTO⟩, h1, h2⟩ := st
    obtain ⟨xs, ys, x, y, ⟨qa, ex⟩, qb, ey⟩ := hg
    obtain ⟨us, ru, pa, _⟩ := I.list qa
    obtain ⟨vs, rv, pb, _⟩ := I.tuple qb
    obtain ⟨u, eu, su⟩ := ru.get ex
    obtain ⟨v, ev, sv⟩ := rv.get ey
    have S := sep_of F
    have na : a ≠ i1 := F.l1i1
    have nb : b ≠ i2 := F.l2i2
    have hzl : z < s.heap.objs.size := Heap.lt_size hz
    have hd : X.A.in1.handled = none := I.ok.hd hc
    have li : i < us.toArray.size := by simpa using (List.getElem?_eq_some_iff.mp eu).1
    have lj : i < vs.toArray.size := by simpa using (List.getElem?_eq_some_iff.mp ev).1
    refine wpAny_pyNext_zipD2_item S (Draws.list hd i1 a na us.toArray) (Draws.tuple hd i2 b nb vs.toArray) hz hTI hTO ⟨h1, pa.isList⟩ ⟨h2, pb⟩ li lj fun p1 p2 h' tk g1 g2 hz' hTO' t1 t2 hT hsz hk => ?_
    have e1 : p1 = u := by
      have g : us.toArray[i]? = some p1 := g1
      have : us[i]? = some p1 := by simpa using g
      exact Option.some.inj (this.symm.trans eu)
    have e2 : p2 = v := by
      have g : vs.toArray[i]? = some p2 := g2
      have : vs[i]? = some p2 := by simpa using g
      exact Option.some.inj (this.symm.trans ev)
    subst e1 e2
    refine ⟨_, rfl, wpAny_letOwnedTupleGo_zip (s := { s with heap := h', toks := tk }) hz' fun h2' hz2 sb => ?_⟩
    have hT2 : h2'.get? s.heap.objs.size = some { cls := .type "tuple", data := .seq #[p1, p2] } := (sb.2 _ (Nat.ne_of_gt hzl)).trans hT
    have ob : ObjOk X.prog X.w (upd H s.heap.objs.size (.tup [x, y])) h2' s.heap.objs.size (.tup [x, y]) := ⟨(show 2 ≤ sizeLine by decide), [p1, p2], .cons su (.cons sv .nil), _, hT2, rfl, _, rfl⟩
    have stay : ∀ c o, c ∉ [z, TI, TO, i1, i2] → s.heap.get? c = some o → h2'.get? c = some o := fun c o nc e => by
      simp only [List.mem_cons, List.not_mem_nil, or_false, not_or] at nc
      exact (sb.2 c nc.1).trans (hk c o nc.1 nc.2.2.1 nc.2.2.2.1 nc.2.2.2.2 e)
    have J := I.turnedNew (t' := tk) (ch := [z, TI, TO, i1, i2]) stay hf (Nat.le_refl _) ob
    refine ⟨.ref s.heap.objs.size, _, J, rfl, ⟨_, x, y, rfl, ⟨I.hok.fresh (Nat.le_refl _), rfl⟩, fun l hl => by rw [I.list_inj hl qa]; exact ex, fun l hl => by rw [I.tuple_inj hl qb]; exact ey⟩, ⟨⟨hz2, ?_, p1, p2, ?_⟩, ?_, ?_⟩, fun c hcm => ?_⟩
    · exact (sb.2 _ S.TIz).trans (hk _ _ S.TIz S.TITO S.TIi1 S.TIi2 hTI)
    · exact (sb.2 _ S.TOz).trans hTO'
    · exact t1.1.at fun o e => (sb.2 _ S.zi1.symm).trans e
    · exact t2.1.at fun o e => (sb.2 _ S.zi2.symm).trans e
    · have lt : c < s.heap.objs.size := by
        obtain ⟨o1, e1, _⟩ := h1
        obtain ⟨o2, e2, _⟩ := h2
        simp only [List.mem_cons, List.not_mem_nil, or_false] at hcm
        rcases hcm with rfl | rfl | rfl | rfl | rfl
        · exact hzl
        · exact Heap.lt_size hTI
        · exact Heap.lt_size hTO
        · exact Heap.lt_size e1
        · exact Heap.lt_size e2
      rw [upd_ne (Nat.ne_of_lt lt)]
      exact (hf c hcm).1
  done := by
    intro X hP hw hK hc i pins s σ H E I hf st hg
    subst hP hw hK
    obtain ⟨⟨hz, hTI, x0, y0, hTO⟩, h1, h2⟩ := st
    obtain ⟨xs, ys, ⟨qa, qb⟩, en⟩ := hg
    obtain ⟨us, ru, pa, _⟩ := I.list qa
    obtain ⟨vs, rv, pb, _⟩ := I.tuple qb
    have l1 := ru.length
    have l2 := rv.length
    have na : a ≠ i1 := F.l1i1
    have nb : b ≠ i2 := F.l2i2
    have hd : X.A.in1.handled = none := I.ok.hd hc
    refine wpAny_pyNext_zipD2_end (sep_of F) (Draws.list hd i1 a na us.toArray) (Draws.tuple hd i2 b nb vs.toArray) hz hTI hTO ⟨h1, pa.isList⟩ ⟨h2, pb⟩ (by simp; omega) (by simp; omega) (by simp; omega) fun h' tk hk => ⟨rfl, I.turnedL (t' := tk) (ch := [z, TI, TO, i1, i2]) (fun c o nc e => ?_) hf⟩
    simp only [List.mem_cons, List.not_mem_nil, or_false, not_or] at nc
    exact hk c o nc.1 nc.2.2.1 nc.2.2.2.1 nc.2.2.2.2 e
  self := fun A i s Q E st h => wpAny_pyIter_zip st.1.1 h
def iZipM (K : PySem.W.Frag) (ta : TA) : TI := fun σ H R => ta σ H fun vs H1 => ∃ a b xs ys, vs = [.ref a, .ref b] ∧ SqL K H1 a xs ∧ SqT K H1 b ys ∧ R (ItzM K a b) H1
theorem pi_zipM0 {X : Cx} {e e2 : Expr} {ta : TA} {p pos tpos : Pos} {elts : List Expr} {kk : Nat} (hg : Gl X "zip") (hm : X.mg "zip" = none) (ha : PA X [e, e2] ta)
    (hs : starEach [e, e2] X.env = (false, eval e X.env) :: starEach [e2] X.env := by rfl) (hpl : (backTo pos (starEach [e2] X.env)).any (·.1) = false := by rfl) :
    PI X (.Tuple elts kk tpos) (.Call (.Name "zip" p) [e, e2] [] pos) (iZipM X.K ta) := by
  constructor
  intro pins s σ H R I h
  refine Call_ (ld_blt I hg hm PyProof.Rows.boot_zip (PyProof.Rows.callWith_type1 (thn (ha.run pos pins s σ H _ I h) fun us s1 ⟨vs, H1, I1, r1, q1⟩ => ?_) hs hpl))
  obtain ⟨a, b, xs, ys, rfl, qa, qb, q⟩ := q1
  cases r1 with
  | cons ra rr =>
  cases rr with
  | cons rb rr =>
  cases rr
  cases ra
  cases rb
  obtain ⟨us, ru, pa, _⟩ := I1.list qa
  obtain ⟨vs, rv, pb, _⟩ := I1.tuple qb
  have la : a < s1.heap.objs.size := pa.lt
  have lb : b < s1.heap.objs.size := by obtain ⟨_, eo, _⟩ := pb; exact Heap.lt_size eo
  refine zip_begins2 (begins_list a us.toArray) (begins_tuple b vs.toArray) pa.isList pb fun h' hz hTI hTO g1 g2 hsz hk => wpAny_pyIter_zip hz ?_
  have J : Inv X pins σ H1 { s1 with heap := h' } := I1.kept (t' := s1.toks) hk
  refine ⟨_, _, _, _, H1, rfl, J, turn_zipM (PySem.W.ktu_apart s1.heap.objs.size a b la lb), ⟨⟨hz, hTI, _, _, hTO⟩, ⟨_, g1, rfl, rfl⟩, _, g2, rfl, rfl⟩, fun c hc => ?_, q⟩
  have le : s1.heap.objs.size ≤ c := by
    simp only [List.mem_cons, List.not_mem_nil, or_false] at hc
    rcases hc with e | e | e | e | e <;> rw [e] <;> first | exact Nat.le_add_right _ _ | exact Nat.le_refl _
  exact I1.fpOk le (I1.hok.fresh le)
theorem pi_zipM {X : Cx} {K : PySem.W.Frag} {e e2 : Expr} {ta : TA} {p pos tpos : Pos} {elts : List Expr} {kk : Nat} (hg : Gl X "zip") (hm : X.mg "zip" = none) (ha : PA X [e, e2] ta)
    (hs : starEach [e, e2] X.env = (false, eval e X.env) :: starEach [e2] X.env := by rfl) (hpl : (backTo pos (starEach [e2] X.env)).any (·.1) = false := by rfl) (h : X.K = K := by rfl) :
    PI X (.Tuple elts kk tpos) (.Call (.Name "zip" p) [e, e2] [] pos) (iZipM K ta) := h ▸ pi_zipM0 hg hm ha hs hpl
theorem walk_zipM {K : PySem.W.Frag} {a b : Addr} {xs ys : List V} {n : Nat} (h1 : n = xs.length) (h2 : n = ys.length) : Walk (ItzM K a b) n (fun H => SqL K H a xs ∧ SqT K H b ys) (YPair (fun i => xs[i]?) (fun i => ys[i]?)) where
  goes := fun i H hi h => ⟨xs, ys, xs[i]'(by omega), ys[i]'(by omega), ⟨h.1, List.getElem?_eq_getElem _⟩, h.2, List.getElem?_eq_getElem _⟩
  stops := fun H h => ⟨xs, ys, h, by omega⟩
  yields := fun i H x H' _ h y => by
    obtain ⟨T, u, v, e1, ⟨e2, e3⟩, f1, f2⟩ := y
    exact ⟨T, u, v, e1, e2, e3, f1 _ h.1, f2 _ h.2⟩
end GT
namespace GT
open PySem
open LA (SP Only1 mu1 PZ D)
/-! ### one group has one Hermite form -/
def spanL (L : Hl) (v : LA.Ve) : Prop := Spn ((rows L).map vec) v
theorem HS.tail {w c : Nat} {x : List Int × Nat} {M : Hl} (h : HS w c (x :: M)) : HS w c M := ⟨fun y hy => h.ll y (List.mem_cons_of_mem _ hy), fun y hy => h.lp y (List.mem_cons_of_mem _ hy), (List.pairwise_cons.mp h.pw).2⟩
theorem span_self {L : Hl} {x : List Int × Nat} (h : x ∈ L) : spanL L (vec x.1) := .mem (List.mem_map_of_mem (List.mem_map_of_mem h))
theorem spanL_cons {x : List Int × Nat} {M : Hl} {v : LA.Ve} (h : spanL M v) : spanL (x :: M) v := SP.mono h fun t ht => List.mem_cons_of_mem _ ht
/-- what vanishes at the first lead lies in the span of the others -/
theorem HS.rest {w c : Nat} {x : List Int × Nat} {M : Hl} (h : HS w c (x :: M)) {v : LA.Ve} (hv : spanL (x :: M) v) : ∃ a : Int, spanL M (fun j => v j - a * vec x.1 j) ∧ v x.2 = a * vec x.1 x.2 := by
  obtain ⟨m, a, hm, hs⟩ := SP.dec (mu1 0) (show SP 0 Only1 (vec x.1 :: (rows M).map vec) v from hv)
  have hm : m = 1 := hm
  subst hm
  have hz : 1 * v x.2 + a * vec x.1 x.2 = 0 := by
    have := SP.van (mu1 0) hs (j := x.2) fun t ht => by
      obtain ⟨l, hl, rfl⟩ := List.mem_map.mp ht
      obtain ⟨y, hy, rfl⟩ := List.mem_map.mp hl
      rw [(h.tail.lp y hy).2.2 x.2 ((List.pairwise_cons.mp h.pw).1 y hy).1]
      exact Int.dvd_refl 0
    exact Int.zero_dvd.mp this
  refine ⟨-a, hs.of fun j => ?_, ?_⟩
  · rw [Int.neg_mul, Int.one_mul, Int.sub_neg]
  · rw [Int.neg_mul]; rw [Int.one_mul] at hz; omega
theorem HS.rest0 {w c : Nat} {x : List Int × Nat} {M : Hl} (h : HS w c (x :: M)) {v : LA.Ve} (hv : spanL (x :: M) v) (z : v x.2 = 0) : spanL M v := by
  obtain ⟨a, hs, e⟩ := h.rest hv
  have p := (h.lp x List.mem_cons_self).2.1
  have a0 : a = 0 := by
    rw [z] at e
    rcases Int.mul_eq_zero.mp e.symm with q | q
    · exact q
    · omega
  exact SP.of hs fun j => by rw [a0]; omega
/-- what is small at all leads is nothing -/
theorem HS.small {w c : Nat} : ∀ {L : Hl}, HS w c L → ∀ {v : LA.Ve}, spanL L v → (∀ x ∈ L, (v x.2).natAbs < (vec x.1 x.2).natAbs) → ∀ j, v j = 0
  | [], _, v, hv, _ => fun j => Int.zero_dvd.mp (SP.nil (mu1 0) hv j)
  | x :: M, h, v, hv, hs => by
    obtain ⟨a, h1, e⟩ := h.rest hv
    have p := hs x List.mem_cons_self
    have a0 : a = 0 := by
      refine Classical.byContradiction fun q => ?_
      rw [e, Int.natAbs_mul] at p
      have : 1 * (vec x.1 x.2).natAbs ≤ a.natAbs * (vec x.1 x.2).natAbs := Nat.mul_le_mul_right _ (by omega)
      omega
    exact HS.small h.tail (SP.of h1 fun j => by rw [a0]; omega) fun y hy => hs y (List.mem_cons_of_mem _ hy)
theorem HS.head0 {w c : Nat} {x : List Int × Nat} {M : Hl} (h : HS w c (x :: M)) {v : LA.Ve} (hv : spanL (x :: M) v) {j : Nat} (hj : j < x.2) : v j = 0 := by
  have := SP.van (mu1 0) hv (j := j) fun t ht => by
    obtain ⟨l, hl, rfl⟩ := List.mem_map.mp ht
    obtain ⟨y, hy, rfl⟩ := List.mem_map.mp hl
    have z : j < y.2 := by
      rcases List.mem_cons.mp hy with rfl | hy
      · exact hj
      · have := ((List.pairwise_cons.mp h.pw).1 y hy).1
        omega
    rw [(h.lp y hy).2.2 j z]
    exact Int.dvd_refl 0
  exact Int.zero_dvd.mp this
theorem HS.uniq {w c : Nat} : ∀ {L M : Hl}, HS w c L → HS w c M → (∀ x ∈ L, spanL M (vec x.1)) → (∀ y ∈ M, spanL L (vec y.1)) → L = M
  | [], [], _, _, _, _ => rfl
  | [], y :: M, _, hM, _, h2 => by
    have z := SP.nil (mu1 0) (h2 y List.mem_cons_self) y.2
    have := (hM.lp y List.mem_cons_self).2.1
    have := Int.zero_dvd.mp z
    omega
  | x :: L, [], hL, _, h1, _ => by
    have z := SP.nil (mu1 0) (h1 x List.mem_cons_self) x.2
    have := (hL.lp x List.mem_cons_self).2.1
    have := Int.zero_dvd.mp z
    omega
  | x :: L, y :: M, hL, hM, h1, h2 => by
    obtain ⟨px, lx, zx⟩ := hL.lp x List.mem_cons_self
    obtain ⟨py, ly, zy⟩ := hM.lp y List.mem_cons_self
    have sx := h1 x List.mem_cons_self
    have sy := h2 y List.mem_cons_self
    have e : x.2 = y.2 := by
      rcases Nat.lt_trichotomy x.2 y.2 with q | q | q
      · have := hM.head0 sx q
        omega
      · exact q
      · have := hL.head0 sy q
        omega
    have el : vec x.1 x.2 = vec y.1 y.2 := by
      obtain ⟨a, _, ea⟩ := hM.rest sx
      obtain ⟨b, _, eb⟩ := hL.rest sy
      rw [← e] at ea ⊢
      refine Int.dvd_antisymm (by omega) (by rw [e]; omega) ⟨b, ?_⟩ ⟨a, ?_⟩
      · rw [eb, Int.mul_comm]
      · rw [ea, Int.mul_comm]
    have t1 : ∀ u ∈ L, spanL M (vec u.1) := fun u hu => hM.rest0 (h1 u (List.mem_cons_of_mem _ hu)) (by rw [← e]; exact (hL.tail.lp u hu).2.2 _ ((List.pairwise_cons.mp hL.pw).1 u hu).1)
    have t2 : ∀ u ∈ M, spanL L (vec u.1) := fun u hu => hL.rest0 (h2 u (List.mem_cons_of_mem _ hu)) (by rw [e]; exact (hM.tail.lp u hu).2.2 _ ((List.pairwise_cons.mp hM.pw).1 u hu).1)
    have ih := HS.uniq hL.tail hM.tail t1 t2
    subst ih
    have df : spanL (y :: L) (fun j => vec x.1 j - 1 * vec y.1 j) := SP.sub 1 sx (span_self List.mem_cons_self)
    have df0 : spanL L (fun j => vec x.1 j - 1 * vec y.1 j) := hM.rest0 df (by
      show vec x.1 y.2 - 1 * vec y.1 y.2 = 0
      rw [← el, ← e]; omega)
    have z := hL.tail.small df0 fun u hu => by
      obtain ⟨_, a1, a2⟩ := (List.pairwise_cons.mp hL.pw).1 u hu
      obtain ⟨_, b1, b2⟩ := (List.pairwise_cons.mp hM.pw).1 u hu
      show (vec x.1 u.2 - 1 * vec y.1 u.2).natAbs < _
      omega
    have er : x.1 = y.1 := vec_inj (by rw [hL.ll x List.mem_cons_self, hM.ll y List.mem_cons_self]) fun j => by
      have := z j
      have : vec x.1 j - 1 * vec y.1 j = 0 := this
      omega
    have : x = y := Prod.ext er e
    rw [this]
theorem HF.uniq {w b b' : Nat} {T : List (List Int)} {L M : Hl} (h : HF w b T L) (g : HF w b' T M) : L = M := h.hs.uniq g.hs (fun x hx => (h.s1 x hx).trans fun t ht => by
    obtain ⟨l, hl, rfl⟩ := List.mem_map.mp ht
    exact g.s3 l hl) fun y hy => (g.s1 y hy).trans fun t ht => by
    obtain ⟨l, hl, rfl⟩ := List.mem_map.mp ht
    exact h.s3 l hl
/-! ### greatest common divisors of determinants -/
structure IsGcd (ws : List Int) (d : Int) : Prop where
  nn : 0 ≤ d
  all : ∀ x ∈ ws, d ∣ x
  top : ∀ e, (∀ x ∈ ws, e ∣ x) → e ∣ d
theorem IsGcd.zero {ws : List Int} (h : IsGcd ws 0) : ∀ x ∈ ws, x = 0 := fun x hx => Int.zero_dvd.mp (h.all x hx)
/-- the last size with a determinant, and their divisor -/
structure TopIs (T : List (List Int)) (w n k : Nat) (d : Int) : Prop where
  le : k ≤ n
  at_ : (k = 0 ∧ d = 1) ∨ (0 < d ∧ IsGcd (minorsOf T w k) d)
  over : ∀ j, k < j → j ≤ n → ∀ x ∈ minorsOf T w j, x = 0
theorem TopIs.rank {T : List (List Int)} {w k r : Nat} {d : Int} (h : TopIs T w (min T.length w) k d) (c : Cert 0 w T r) : k = r := by
  obtain ⟨h1, _⟩ := c.last LA.pz0
  obtain ⟨s, cs, hs, sl, cl, cp, cb, hd⟩ := c.some LA.pz0
  rcases Nat.lt_trichotomy k r with q | q | q
  · obtain ⟨ix, hix, rfl⟩ := sub_pick hs
    rw [sl] at hix
    have := h.over r q h1 _ (mem_minors.mpr ⟨ix, hix, cs, mem_chs.mpr ⟨cl, cp, cb⟩, rfl⟩)
    rw [this] at hd
    exact absurd (Int.dvd_refl 0) hd
  · exact q
  · rcases h.at_ with ⟨z, _⟩ | ⟨z, g⟩
    · omega
    · have : (0 : Int) ∣ d := g.top 0 fun x hx => by
        obtain ⟨ix, hix, cs', _, rfl⟩ := mem_minors.mp hx
        obtain ⟨il, _, ib⟩ := mem_chs.mp hix
        exact c.more LA.pz0 (pick_in ib) (by rw [pick_len, il]; exact q) cs'
      have := Int.zero_dvd.mp this
      omega
theorem minors_span {T S : List (List Int)} {w k : Nat} {d : Int} (hd : ∀ x ∈ minorsOf S w k, d ∣ x) (h : ∀ t ∈ T, Spn (S.map vec) (vec t)) : ∀ x ∈ minorsOf T w k, d ∣ x := fun x hx => by
  obtain ⟨ix, hix, cs, hcs, rfl⟩ := mem_minors.mp hx
  obtain ⟨il, _, ib⟩ := mem_chs.mp hix
  refine LA.span_D (mu1 d) (S.map vec) k [] (cs := cs) (fun s hs hn => ?_) ((pickR T ix).map vec) (by rw [List.length_map, pick_len, il]) fun v hv => ?_
  · obtain ⟨s', hs', rfl⟩ := List.sublist_map_iff.mp hs
    obtain ⟨iy, hiy, rfl⟩ := sub_pick hs'
    rw [List.length_map, pick_len] at hn
    have := (mem_chs.mp hiy).1
    rw [pick_len] at hiy
    rw [hn] at hiy
    exact hd _ (mem_minors.mpr ⟨iy, hiy, cs, hcs, rfl⟩)
  · obtain ⟨l, hl, rfl⟩ := List.mem_map.mp hv
    exact (h l (pick_in ib l hl)).of0 (mu1 d)
theorem TopIs.same {T S : List (List Int)} {w k : Nat} {d e : Int} {n m : Nat} (h : TopIs T w n k d) (g : TopIs S w m k e) (h1 : ∀ t ∈ T, Spn (S.map vec) (vec t)) (h2 : ∀ t ∈ S, Spn (T.map vec) (vec t)) : d = e := by
  rcases h.at_ with ⟨z, rfl⟩ | ⟨z, a⟩
  · rcases g.at_ with ⟨_, rfl⟩ | ⟨z2, b⟩
    · rfl
    · subst z
      have e1 : e ∣ 1 := b.all 1 (mem_minors.mpr ⟨[], mem_chs.mpr ⟨rfl, .nil, fun _ h => absurd h List.not_mem_nil⟩, [], mem_chs.mpr ⟨rfl, .nil, fun _ h => absurd h List.not_mem_nil⟩, rfl⟩)
      exact Int.dvd_antisymm (by decide) b.nn (Int.one_dvd e) e1
  · rcases g.at_ with ⟨z2, rfl⟩ | ⟨z2, b⟩
    · subst z2
      have e1 : d ∣ 1 := a.all 1 (mem_minors.mpr ⟨[], mem_chs.mpr ⟨rfl, .nil, fun _ h => absurd h List.not_mem_nil⟩, [], mem_chs.mpr ⟨rfl, .nil, fun _ h => absurd h List.not_mem_nil⟩, rfl⟩)
      exact Int.dvd_antisymm a.nn (by decide) e1 (Int.one_dvd d)
    · exact Int.dvd_antisymm a.nn b.nn (b.top d (minors_span a.all h2)) (a.top e (minors_span b.all h1))
theorem HS.cert {w : Nat} {L : Hl} (h : HS w w L) : Cert 0 w (rows L) L.length := by
  refine ⟨⟨(rows L).map vec, L.map (·.2), h.tri, by unfold rows; rw [List.length_map, List.length_map], ?_, fun c hc => ?_, fun x hx => .mem hx, fun t ht => .mem (List.mem_map_of_mem ht)⟩⟩
  · rw [List.pairwise_map]; exact h.pw.imp fun z => z.1
  · obtain ⟨x, hx, rfl⟩ := List.mem_map.mp hc
    exact (h.lp x hx).1
theorem eqv_two (a b : Int) : PyData.eqv (.tuple [.int a, .int b]) (.tuple [.int a, .int b]) = true := by simp [PyData.eqv, PyData.eqvAll]
end GT
namespace LA
/-! ### determinants by the first column; turned tables -/
def Cp (c : Nat) : List Ve → (List Ve → Int) → Int
  | [], _ => 0
  | r :: R, g => r c * g R - Cp c R (fun S => g (r :: S))
theorem Lp_0 (a : Ve) : ∀ cs : List Nat, Lp a cs (fun _ => 0) = 0
  | [] => rfl
  | c :: cs => by
    show a c * 0 - Lp a cs (fun _ => 0) = 0
    rw [Lp_0 a cs, Int.mul_zero]; rfl
theorem Lp_Cp (a : Ve) (cs : List Nat) (c : Nat) : ∀ (R : List Ve) (h : List Ve → List Nat → Int), Lp a cs (fun l => Cp c R (fun S => h S l)) = Cp c R (fun S => Lp a cs (h S))
  | [], h => Lp_0 a cs
  | r :: R, h => by
    show Lp a cs (fun l => r c * h R l - Cp c R (fun S => h (r :: S) l)) = r c * Lp a cs (h R) - Cp c R (fun S => Lp a cs (h (r :: S)))
    rw [← Lp_Cp a cs c R (fun S => h (r :: S))]
    have := Lp_add a (r c) (-1) cs (h R) (fun l => Cp c R (fun S => h (r :: S) l))
    rw [show (fun l => r c * h R l - Cp c R (fun S => h (r :: S) l)) = (fun l => r c * h R l + -1 * Cp c R (fun S => h (r :: S) l)) from funext fun l => by omega]
    rw [this]; omega
theorem D_Cp (c : Nat) : ∀ (R : List Ve) (cs : List Nat), D R (c :: cs) = Cp c R (fun S => D S cs)
  | [], cs => rfl
  | a :: R, cs => by
    show a c * D R cs - Lp a cs (fun l => D R (c :: l)) = a c * D R cs - Cp c R (fun S => Lp a cs (D S))
    rw [← Lp_Cp a cs c R D]
    rw [show (fun l => D R (c :: l)) = (fun l => Cp c R (fun S => D S l)) from funext fun l => D_Cp c R l]
theorem Lp_map (A : Nat → Nat → Int) (i : Nat) : ∀ (J : List Nat) (g : List Ve → Int), Lp (A i) J (fun l => g (l.map fun j i => A i j)) = Cp i (J.map fun j i => A i j) g
  | [], _ => rfl
  | j :: J, g => by
    show A i j * g (J.map fun j i => A i j) - Lp (A i) J (fun l => g ((fun i => A i j) :: l.map fun j i => A i j)) = A i j * g (J.map fun j i => A i j) - Cp i (J.map fun j i => A i j) (fun S => g ((fun i => A i j) :: S))
    rw [Lp_map A i J (fun S => g ((fun i => A i j) :: S))]
theorem D_turn (A : Nat → Nat → Int) : ∀ (I J : List Nat), D (I.map A) J = D (J.map fun j i => A i j) I
  | [], [] => rfl
  | [], j :: J => rfl
  | i :: I, J => by
    rw [D_Cp, ← Lp_map A i J (fun S => D S I)]
    show Lp (A i) J (D (I.map A)) = _
    rw [show D (I.map A) = (fun l => D (l.map fun j i => A i j) I) from funext fun l => D_turn A I l]
theorem Lp_dvdS {d : Int} (a : Ve) : ∀ (cs : List Nat) (g : List Nat → Int), (∀ l, l.Sublist cs → d ∣ g l) → d ∣ Lp a cs g
  | [], _, _ => Int.dvd_zero d
  | c :: cs, g, h => Int.dvd_sub (Int.dvd_mul_of_dvd_right (h cs (List.sublist_cons_self c cs))) (Lp_dvdS a cs _ fun l hl => h (c :: l) (hl.cons_cons c))
theorem D_dvdS {d : Int} {B : List Ve} : ∀ (A : List Ve) (cs : List Nat), (∀ l, l.Sublist cs → d ∣ D B l) → d ∣ D (A ++ B) cs
  | [], cs, h => h cs (List.Sublist.refl _)
  | a :: A, cs, h => Lp_dvdS a cs _ fun l hl => D_dvdS A l fun k hk => h k (hk.trans hl)
theorem Lp_len {a : Ve} : ∀ (cs : List Nat) (g : List Nat → Int), (∀ l, l.length + 1 = cs.length → g l = 0) → Lp a cs g = 0
  | [], _, _ => rfl
  | c :: cs, g, h => by
    show a c * g cs - Lp a cs (fun l => g (c :: l)) = 0
    rw [h cs rfl, Lp_len cs _ fun l hl => h (c :: l) (by rw [List.length_cons, List.length_cons, hl])]
    omega
theorem D_len : ∀ (R : List Ve) (cs : List Nat), R.length ≠ cs.length → D R cs = 0
  | [], [], h => absurd rfl h
  | [], _ :: _, _ => rfl
  | a :: R, cs, h => Lp_len cs _ fun l hl => D_len R l fun e => h (by rw [List.length_cons]; omega)
theorem Lp_a0 {a : Ve} : ∀ (cs : List Nat) (g : List Nat → Int), (∀ c ∈ cs, a c = 0) → Lp a cs g = 0
  | [], _, _ => rfl
  | c :: cs, g, h => by
    show a c * g cs - Lp a cs (fun l => g (c :: l)) = 0
    rw [h c List.mem_cons_self, Lp_a0 cs _ fun x hx => h x (List.mem_cons_of_mem _ hx)]
    omega
def un (k : Nat) : Ve := fun j => if j = k then 1 else 0
theorem D_un : ∀ (n s : Nat), D ((List.range' s n).map un) (List.range' s n) = 1
  | 0, _ => rfl
  | n + 1, s => by
    rw [List.range'_succ, List.map_cons]
    show un s s * D ((List.range' (s + 1) n).map un) (List.range' (s + 1) n) - Lp (un s) (List.range' (s + 1) n) _ = 1
    rw [D_un n (s + 1), Lp_a0 _ _ fun c hc => by
      have := List.mem_range'_1.mp hc
      unfold un
      rw [if_neg (by omega)]]
    unfold un
    rw [if_pos rfl]; rfl
/-! ### sums -/
def sumN : Nat → (Nat → Int) → Int
  | 0, _ => 0
  | n + 1, f => sumN n f + f n
theorem sumN_add (f g : Nat → Int) : ∀ n, sumN n (fun k => f k + g k) = sumN n f + sumN n g
  | 0 => rfl
  | n + 1 => by simp only [sumN]; rw [sumN_add f g n]; omega
theorem sumN_smul (c : Int) (f : Nat → Int) : ∀ n, sumN n (fun k => c * f k) = c * sumN n f
  | 0 => by simp [sumN]
  | n + 1 => by simp only [sumN]; rw [sumN_smul c f n, Int.mul_add]
theorem sumN_congr {f g : Nat → Int} : ∀ n, (∀ k, k < n → f k = g k) → sumN n f = sumN n g
  | 0, _ => rfl
  | n + 1, h => by simp only [sumN]; rw [sumN_congr n fun k hk => h k (by omega), h n (by omega)]
theorem sumN_0 : ∀ n, sumN n (fun _ => 0) = 0
  | 0 => rfl
  | n + 1 => by simp only [sumN]; rw [sumN_0 n]; rfl
theorem sumN_one (f : Nat → Int) (i : Nat) : ∀ n, sumN n (fun k => if k = i then f k else 0) = if i < n then f i else 0
  | 0 => rfl
  | n + 1 => by
    simp only [sumN]
    rw [sumN_one f i n]
    by_cases h : n = i
    · rw [if_neg (by omega), if_pos h, if_pos (by omega), h]; omega
    · rw [if_neg h]
      by_cases h2 : i < n
      · rw [if_pos h2, if_pos (by omega)]; omega
      · rw [if_neg h2, if_neg (by omega)]; rfl
end LA
namespace GT
open PySem
open LA (SP Only1 mu1 PZ D Ve sumN un)
/-! ### the rows that vanish -/
theorem vec_drop (l : List Int) (m j : Nat) : vec (l.drop m) j = vec l (m + j) := by
  unfold vec; rw [List.getD_eq_getElem?_getD, List.getD_eq_getElem?_getD, List.getElem?_drop]
theorem vec_take (l : List Int) (m j : Nat) : vec (l.take m) j = if j < m then vec l j else 0 := by
  unfold vec; rw [List.getD_eq_getElem?_getD, List.getD_eq_getElem?_getD, List.getElem?_take]
  split <;> rfl
theorem vec_app (a b : List Int) (j : Nat) : vec (a ++ b) j = if j < a.length then vec a j else vec b (j - a.length) := by
  unfold vec
  rw [List.getD_eq_getElem?_getD, List.getD_eq_getElem?_getD, List.getD_eq_getElem?_getD, List.getElem?_append]
  split <;> rfl
def urI (w k : Nat) : List Int := (List.replicate k 0 ++ [1]) ++ List.replicate (w - k - 1) 0
theorem urI_len {w k : Nat} (h : k < w) : (urI w k).length = w := by unfold urI; simp; omega
theorem vec_zero' (w j : Nat) : vec (List.replicate w 0) j = 0 := by
  unfold vec
  rw [List.getD_eq_getElem?_getD, List.getElem?_replicate]
  split <;> rfl
theorem vec_un {w k : Nat} (j : Nat) : vec (urI w k) j = un k j := by
  unfold urI un
  rw [vec_app, vec_app, vec_zero', vec_zero']
  simp only [List.length_append, List.length_replicate, List.length_singleton]
  by_cases h : j = k
  · rw [if_pos (by omega), if_neg (by omega), if_pos h, h, Nat.sub_self]; rfl
  · rw [if_neg h]
    by_cases h2 : j < k
    · rw [if_pos (by omega), if_pos h2]
    · rw [if_neg (by omega)]
def mkI (T : List (List Int)) (w k : Nat) : List Int := (T.map fun t => vec t k) ++ urI w k
def MkT (T : List (List Int)) (w : Nat) : List (List Int) := (List.range w).map (mkI T w)
def Tt (T : List (List Int)) (w : Nat) : List (List Int) := (List.range w).map fun k => T.map fun t => vec t k
def rowT (T : List (List Int)) (i : Nat) : List Int := T.getD i []
theorem vec_col (T : List (List Int)) (k i : Nat) : vec (T.map fun t => vec t k) i = vec (rowT T i) k := by
  unfold rowT
  by_cases h : i < T.length
  · rw [List.getD_eq_getElem?_getD, List.getElem?_eq_getElem h]
    exact vec_at (by rw [List.getElem?_map, List.getElem?_eq_getElem h]; rfl)
  · rw [List.getD_eq_getElem?_getD, List.getElem?_eq_none (by omega), vec_out (by rw [List.length_map]; omega)]
    rfl
theorem vec_mk_lo {T : List (List Int)} {w k i : Nat} (h : i < T.length) : vec (mkI T w k) i = vec (rowT T i) k := by
  unfold mkI
  rw [vec_app, List.length_map, if_pos h, vec_col]
theorem vec_mk_hi {T : List (List Int)} {w k : Nat} (j : Nat) : vec (mkI T w k) (T.length + j) = un k j := by
  unfold mkI
  rw [vec_app, List.length_map, if_neg (by omega), vec_un]
  congr 1; omega
theorem mkI_len {T : List (List Int)} {w k : Nat} (h : k < w) : (mkI T w k).length = T.length + w := by unfold mkI; rw [List.length_append, List.length_map, urI_len h]
theorem row_mem {T : List (List Int)} {i : Nat} (h : i < T.length) : rowT T i ∈ T := by
  unfold rowT
  rw [List.getD_eq_getElem?_getD, List.getElem?_eq_getElem h]
  exact List.getElem_mem h
theorem mem_row {T : List (List Int)} {t : List Int} (h : t ∈ T) : ∃ i, i < T.length ∧ rowT T i = t := by
  obtain ⟨i, hi, e⟩ := List.getElem_of_mem h
  exact ⟨i, hi, by unfold rowT; rw [List.getD_eq_getElem?_getD, List.getElem?_eq_getElem hi, e]; rfl⟩
def dotV (w : Nat) (u v : Ve) : Int := sumN w fun k => u k * v k
def hiV (m : Nat) (v : Ve) : Ve := fun j => v (m + j)
def loV (m : Nat) (v : Ve) : Ve := fun j => if j < m then v j else 0
theorem hiV_lin (m : Nat) : LA.Lin (hiV m) := ⟨fun _ _ _ => rfl, fun _ _ _ => rfl, fun d v h j => h _⟩
theorem loV_lin (m : Nat) : LA.Lin (loV m) := ⟨fun u v j => by unfold loV; split <;> rfl, fun c v j => by unfold loV; split; rfl; omega, fun d v h j => by unfold loV; split; exact h j; exact Int.dvd_zero d⟩
/-- what a row of the marked table's span tells -/
theorem mk_inv {T : List (List Int)} {w : Nat} {v : Ve} (h : Spn ((MkT T w).map vec) v) (i : Nat) (hi : i < T.length) : v i = dotV w (hiV T.length v) (vec (rowT T i)) := by
  induction h with
  | zero h =>
    rw [Int.zero_dvd.mp (h i)]
    refine ((LA.sumN_congr w fun k _ => ?_).trans (LA.sumN_0 w)).symm
    unfold hiV
    rw [Int.zero_dvd.mp (h _), Int.zero_mul]
  | mem h =>
    obtain ⟨l, hl, rfl⟩ := List.mem_map.mp h
    obtain ⟨k, hk, rfl⟩ := List.mem_map.mp hl
    have hk := List.mem_range.mp hk
    rw [vec_mk_lo hi]
    unfold dotV
    rw [LA.sumN_congr (g := fun j => if j = k then vec (rowT T i) j else 0) w fun j _ => by
      unfold hiV; rw [vec_mk_hi]; unfold un
      split
      · exact Int.one_mul _
      · exact Int.zero_mul _]
    rw [LA.sumN_one, if_pos hk]
  | add _ _ iu iv =>
    show _ + _ = _
    rw [iu, iv]
    unfold dotV
    rw [← LA.sumN_add]
    exact LA.sumN_congr w fun k _ => (Int.add_mul ..).symm
  | smul c _ iv =>
    show _ * _ = _
    rw [iv]
    unfold dotV
    rw [← LA.sumN_smul]
    exact LA.sumN_congr w fun k _ => (Int.mul_assoc ..).symm
  | cancel m hm _ iv =>
    have hm : m = 1 := hm
    subst hm
    rw [show ∀ x : Ve, (fun j => 1 * x j) = x from fun x => funext fun j => Int.one_mul _] at iv
    exact iv
    -- LA.sumN_congr w fun k _ => by unfold hiV; rw [Int.one_mul]
theorem mk_all {T : List (List Int)} {w : Nat} {y : List Int} (hy : y.length = w) (h0 : ∀ t ∈ T, dotV w (vec y) (vec t) = 0) : Spn ((MkT T w).map vec) (fun j => if j < T.length then 0 else vec y (j - T.length)) := by
  have key : ∀ n, n ≤ w → Spn ((MkT T w).map vec) (fun j => sumN n fun k => vec y k * vec (mkI T w k) j) := by
    intro n
    induction n with
    | zero => exact fun _ => .zero fun j => Int.dvd_refl 0
    | succ n ih => exact fun hn => .add (ih (by omega)) (.smul _ (.mem (List.mem_map_of_mem (List.mem_map_of_mem (List.mem_range.mpr (by omega))))))
  refine (key w (Nat.le_refl _)).of fun j => ?_
  by_cases hj : j < T.length
  · rw [if_pos hj]
    rw [← h0 _ (row_mem hj)]
    exact LA.sumN_congr w fun k _ => by rw [vec_mk_lo hj]
  · rw [if_neg hj]
    have e : j = T.length + (j - T.length) := by omega
    rw [LA.sumN_congr (g := fun k => if k = j - T.length then vec y k else 0) w fun k _ => by
      rw [e, vec_mk_hi]
      unfold un
      by_cases h : k = j - T.length
      · rw [if_pos (by omega), if_pos (by omega)]; exact Int.mul_one _
      · rw [if_neg (by omega), if_neg (by omega)]; exact Int.mul_zero _]
    rw [LA.sumN_one]
    split
    · rfl
    · exact vec_out (by omega)
theorem hs_parts {w c : Nat} (m : Nat) : ∀ {L : Hl}, HS w c L → ∃ A B, L = A ++ B ∧ (∀ x ∈ A, x.2 < m) ∧ ∀ x ∈ B, m ≤ x.2
  | [], _ => ⟨[], [], rfl, fun _ h => absurd h List.not_mem_nil, fun _ h => absurd h List.not_mem_nil⟩
  | x :: L, h => by
    by_cases e : x.2 < m
    · obtain ⟨A, B, rfl, h1, h2⟩ := hs_parts m h.tail
      exact ⟨x :: A, B, rfl, fun y hy => by
        rcases List.mem_cons.mp hy with rfl | hy
        · exact e
        · exact h1 y hy, h2⟩
    · refine ⟨[], x :: L, rfl, fun _ h => absurd h List.not_mem_nil, fun y hy => ?_⟩
      rcases List.mem_cons.mp hy with rfl | hy
      · omega
      · have := ((List.pairwise_cons.mp h.pw).1 y hy).1
        omega
theorem HS.strip {w c m : Nat} : ∀ {A B : Hl}, HS w c (A ++ B) → (∀ x ∈ A, x.2 < m) → ∀ {v : Ve}, spanL (A ++ B) v → (∀ j, j < m → v j = 0) → spanL B v
  | [], _, _, _, _, hv, _ => hv
  | x :: A, B, h, hA, v, hv, hz => HS.strip h.tail (fun y hy => hA y (List.mem_cons_of_mem _ hy)) (h.rest0 hv (hz _ (hA x List.mem_cons_self))) hz
def dropK (m : Nat) (x : List Int × Nat) : List Int × Nat := (x.1.drop m, x.2 - m)
def takeK (m : Nat) (x : List Int × Nat) : List Int × Nat := (x.1.take m, x.2)
/-! ### sizes -/
theorem Lp_bd {a : LA.Ve} {A G : Nat} : ∀ (cs : List Nat) (g : List Nat → Int), (∀ c ∈ cs, (a c).natAbs ≤ A) → (∀ l, (g l).natAbs ≤ G) → (LA.Lp a cs g).natAbs ≤ cs.length * (A * G)
  | [], _, _, _ => Nat.zero_le _
  | c :: cs, g, h, hg => by
    show (a c * g cs - LA.Lp a cs (fun l => g (c :: l))).natAbs ≤ _
    have h1 := Lp_bd cs (fun l => g (c :: l)) (fun x hx => h x (List.mem_cons_of_mem _ hx)) fun l => hg _
    have h2 := Nat.mul_le_mul (h c List.mem_cons_self) (hg cs)
    rw [← Int.natAbs_mul] at h2
    rw [List.length_cons, Nat.succ_mul]
    omega
theorem D_shift (m : Nat) : ∀ (R : List Ve) (cs : List Nat), D (R.map (hiV m)) cs = D R (cs.map (m + ·))
  | [], [] => rfl
  | [], _ :: _ => rfl
  | a :: R, cs => by
    have key : ∀ (cs : List Nat) (g : List Nat → Int), LA.Lp (hiV m a) cs (fun l => g (l.map (m + ·))) = LA.Lp a (cs.map (m + ·)) g := by
      intro cs
      induction cs with
      | nil => exact fun _ => rfl
      | cons c cs ih =>
        intro g
        show a (m + c) * g (cs.map (m + ·)) - LA.Lp (hiV m a) cs (fun l => g ((m + c) :: l.map (m + ·))) = a (m + c) * g (cs.map (m + ·)) - LA.Lp a (cs.map (m + ·)) (fun l => g ((m + c) :: l))
        rw [ih fun l => g ((m + c) :: l)]
    show LA.Lp (hiV m a) cs (D (R.map (hiV m))) = LA.Lp a (cs.map (m + ·)) (D R)
    rw [← key cs (D R)]
    rw [show D (R.map (hiV m)) = (fun l => D R (l.map (m + ·))) from funext fun l => D_shift m R l]
theorem D_head {h : Ve} {R : List Ve} {c : Nat} {cs : List Nat} (z : ∀ r ∈ R, r c = 0) : D (h :: R) (c :: cs) = h c * D R cs := by
  show h c * D R cs - LA.Lp h cs (fun l => D R (c :: l)) = _
  rw [show (fun l => D R (c :: l)) = fun _ => (0 : Int) from funext fun l => Int.zero_dvd.mp (LA.D_col R l fun r hr => by rw [z r hr]; exact Int.dvd_refl 0), LA.Lp_0]
  omega
theorem HS.tailz {w c : Nat} {x : List Int × Nat} {M : Hl} (h : HS w c (x :: M)) : ∀ r ∈ (rows M).map vec, r x.2 = 0 := fun r hr => by
  obtain ⟨l, hl, rfl⟩ := List.mem_map.mp hr
  obtain ⟨y, hy, rfl⟩ := List.mem_map.mp hl
  exact (h.tail.lp y hy).2.2 _ ((List.pairwise_cons.mp h.pw).1 y hy).1
theorem mul_le {l : Int} {d : Int} {G : Nat} (h : (l * d).natAbs ≤ G) (l1 : 0 < l) : d.natAbs ≤ G := by
  rw [Int.natAbs_mul] at h
  have := Nat.mul_le_mul_right d.natAbs (show 1 ≤ l.natAbs by omega)
  omega
theorem HS.big {w c : Nat} : ∀ {A B : Hl}, HS w c (A ++ B) → ∀ J : List Nat, (D ((rows B).map vec) J).natAbs ≤ (D ((rows (A ++ B)).map vec) (A.map (·.2) ++ J)).natAbs
  | [], _, _, _ => Nat.le_refl _
  | x :: A, B, h, J => by
    refine Nat.le_trans (HS.big h.tail J) ?_
    have e : D ((rows (x :: A ++ B)).map vec) ((x :: A).map (·.2) ++ J) = vec x.1 x.2 * D ((rows (A ++ B)).map vec) (A.map (·.2) ++ J) := D_head h.tailz
    rw [e]
    exact mul_le (Nat.le_refl _) (h.lp x List.mem_cons_self).2.1
/-- what bounds the determinants bounds the entries of a Hermite form -/
theorem HS.sizes {w c G : Nat} : ∀ {N : Hl}, HS w c N → (∀ cs, (D ((rows N).map vec) cs).natAbs ≤ G) → D ((rows N).map vec) (N.map (·.2)) ≠ 0 ∧ (∀ x ∈ N, (vec x.1 x.2).natAbs ≤ G) ∧ ∀ x ∈ N, ∀ j, (vec x.1 j).natAbs ≤ G + N.length * (G * G)
  | [], _, _ => ⟨by decide, fun _ h => absurd h List.not_mem_nil, fun _ h => absurd h List.not_mem_nil⟩
  | x :: M, h, hd => by
    obtain ⟨px, lx, zx⟩ := h.lp x List.mem_cons_self
    have e : ∀ cs, D ((rows (x :: M)).map vec) (x.2 :: cs) = vec x.1 x.2 * D ((rows M).map vec) cs := fun cs => D_head h.tailz
    have hM : ∀ cs, (D ((rows M).map vec) cs).natAbs ≤ G := fun cs => by
      have := hd (x.2 :: cs)
      rw [e] at this
      exact mul_le this lx
    obtain ⟨n0, h1, h2⟩ := HS.sizes h.tail hM
    have lG : (vec x.1 x.2).natAbs ≤ G := by
      have := hd (x.2 :: M.map (·.2))
      rw [e, Int.mul_comm, Int.natAbs_mul] at this
      have := Nat.mul_le_mul_right (vec x.1 x.2).natAbs (show 1 ≤ (D ((rows M).map vec) (M.map (·.2))).natAbs by omega)
      omega
    refine ⟨?_, fun y hy => ?_, fun y hy j => ?_⟩
    · show D ((rows (x :: M)).map vec) (x.2 :: M.map (·.2)) ≠ 0
      rw [e]
      exact Int.mul_ne_zero (by omega) n0
    · rcases List.mem_cons.mp hy with rfl | hy
      · exact lG
      · exact h1 y hy
    · rw [List.length_cons, Nat.succ_mul]
      rcases List.mem_cons.mp hy with rfl | hy
      · have q := hd (j :: M.map (·.2))
        have q1 : D ((rows (y :: M)).map vec) (j :: M.map (·.2)) = vec y.1 j * D ((rows M).map vec) (M.map (·.2)) - LA.Lp (vec y.1) (M.map (·.2)) (fun l => D ((rows M).map vec) (j :: l)) := rfl
        rw [q1] at q
        have q2 := Lp_bd (a := vec y.1) (A := G) (G := G) (M.map (·.2)) (fun l => D ((rows M).map vec) (j :: l)) (fun c hc => by
          obtain ⟨z, hz, rfl⟩ := List.mem_map.mp hc
          obtain ⟨_, a1, a2⟩ := (List.pairwise_cons.mp h.pw).1 z hz
          have := h1 z hz
          omega) fun l => hM _
        rw [List.length_map] at q2
        have q3 := Nat.mul_le_mul_left (vec y.1 j).natAbs (show 1 ≤ (D ((rows M).map vec) (M.map (·.2))).natAbs by omega)
        rw [← Int.natAbs_mul] at q3
        omega
      · have := h2 y hy j
        omega
def bN (b w : Nat) : Nat := 2 * ((b + 7) * w) + w
theorem big_le {g s w : Nat} (h : s ≤ w) (w1 : 1 ≤ w) : 2 ^ g + s * (2 ^ g * 2 ^ g) ≤ 2 ^ (2 * g + w) := by
  have h1 : w + 1 ≤ 2 ^ w := Nat.lt_two_pow_self
  have h2 : 2 ^ g ≤ 2 ^ g * 2 ^ g := Nat.le_mul_of_pos_left _ (Nat.pow_pos (by decide))
  have h3 := Nat.mul_le_mul_right (2 ^ g * 2 ^ g) (show s + 1 ≤ 2 ^ w by omega)
  rw [Nat.succ_mul] at h3
  rw [show 2 * g + w = w + (g + g) by omega, Nat.pow_add, Nat.pow_add]
  omega
/-- what kernel tells -/
structure KF (w B : Nat) (T : List (List Int)) (N : Hl) : Prop where
  hs : HS w w N
  bd : ∀ x ∈ N, Bd (2 ^ B) x.1
  le : N.length ≤ w
  van : ∀ x ∈ N, ∀ t ∈ T, dotV w (vec x.1) (vec t) = 0
  all : ∀ y : List Int, y.length = w → (∀ t ∈ T, dotV w (vec y) (vec t) = 0) → Spn ((rows N).map vec) (vec y)
  lt : w - N.length ≤ min T.length w
  over : ∀ k, w - N.length < k → ∀ v ∈ minorsOf T w k, v = 0
  some : ∃ v ∈ minorsOf T w (w - N.length), v ≠ 0
  one : ∀ d : Int, (∀ v ∈ minorsOf (rows N) w N.length, d ∣ v) → d ∣ 1
theorem minors_turn {T : List (List Int)} {w : Nat} (hw : ∀ t ∈ T, t.length = w) (r cs : List Nat) : D ((pickR T r).map vec) cs = D ((pickR (Tt T w) cs).map vec) r := by
  have e : ∀ i j, vec ((Tt T w).getD j []) i = vec (rowT T i) j := fun i j => by
    by_cases h : j < w
    · have : (Tt T w).getD j [] = T.map fun t => vec t j := by
        unfold Tt
        rw [List.getD_eq_getElem?_getD, List.getElem?_map, List.getElem?_range h]; rfl
      rw [this, vec_col]
    · have : (Tt T w).getD j [] = [] := by
        unfold Tt
        rw [List.getD_eq_getElem?_getD, List.getElem?_eq_none (by rw [List.length_map, List.length_range]; omega)]; rfl
      rw [this]
      have z : vec (rowT T i) j = 0 := by
        by_cases hi : i < T.length
        · exact vec_out (by rw [hw _ (row_mem hi)]; omega)
        · unfold rowT
          rw [List.getD_eq_getElem?_getD, List.getElem?_eq_none (by omega)]; rfl
      rw [z]; rfl
  have e1 : (pickR T r).map vec = r.map fun i => vec (rowT T i) := by unfold pickR rowT; rw [List.map_map]; rfl
  have e2 : (pickR (Tt T w) cs).map vec = cs.map fun j i => vec (rowT T i) j := by
    unfold pickR
    rw [List.map_map]
    exact List.map_congr_left fun j _ => funext fun i => e i j
  rw [e1, e2]
  exact LA.D_turn (fun i => vec (rowT T i)) r cs
theorem kernel_of {w b : Nat} {T : List (List Int)} {L A B : Hl} (w1 : 1 ≤ w) (w9 : w ≤ 90) (hb : ∀ t ∈ MkT T w, Bd (2 ^ b) t) (hw : ∀ t ∈ T, t.length = w) (h : HF (T.length + w) b (MkT T w) L) (eL : L = A ++ B) (hA : ∀ x ∈ A, x.2 < T.length) (hB : ∀ x ∈ B, T.length ≤ x.2) :
    KF w (bN b w) T (B.map (dropK T.length)) := by
  obtain ⟨m, em⟩ : ∃ m, m = T.length := ⟨_, rfl⟩
  rw [← em] at h hA hB ⊢
  have ml : (MkT T w).length = w := by unfold MkT; rw [List.length_map, List.length_range]
  have hs := h.hs
  have inB : ∀ x ∈ B, x ∈ L := fun x hx => by rw [eL]; exact List.mem_append_right _ hx
  have inA : ∀ x ∈ A, x ∈ L := fun x hx => by rw [eL]; exact List.mem_append_left _ hx
  have hd : ∀ x : List Int × Nat, vec (dropK m x).1 = hiV m (vec x.1) := fun x => funext fun j => vec_drop _ _ _
  have ht : ∀ x : List Int × Nat, vec (takeK m x).1 = loV m (vec x.1) := fun x => funext fun j => vec_take _ _ _
  have pw := hs.pw
  rw [eL, List.pairwise_append] at pw
  have nl : (B.map (dropK m)).length = B.length := List.length_map ..
  -- as many rows as places
  have hiun : ∀ v ∈ (List.range' 0 w).map un, SP 0 Only1 ((rows L).map fun l => hiV m (vec l)) v := fun v hv => by
    obtain ⟨k, hk, rfl⟩ := List.mem_map.mp hv
    have hk := List.mem_range'_1.mp hk
    have := SP.map (hiV_lin m) (h.s3 (mkI T w k) (List.mem_map_of_mem (List.mem_range.mpr (by omega))))
    rw [List.map_map] at this
    refine this.of fun j => ?_
    unfold hiV
    rw [em, vec_mk_hi]
  have Lw : L.length = w := by
    have h1 := h.len
    rw [ml] at h1
    refine Nat.le_antisymm h1 (Nat.le_of_not_lt fun lt => ?_)
    have := LA.D_more LA.pz0.mu (R := (rows L).map fun l => hiV m (vec l)) (hs := (List.range' 0 w).map un) (cs := List.range' 0 w) (fun x hx => (hiun x hx).of0 LA.pz0.mu) (by rw [List.length_map, List.length_map, List.length_range']; unfold rows; rw [List.length_map]; exact lt)
    rw [LA.D_un] at this
    exact absurd this (by decide)
  have AB : A.length + B.length = w := by rw [← Lw, eL, List.length_append]
  have hsB : HS w w (B.map (dropK m)) := by
    refine ⟨fun x hx => ?_, fun x hx => ?_, ?_⟩
    · obtain ⟨y, hy, rfl⟩ := List.mem_map.mp hx
      show (y.1.drop m).length = w
      rw [List.length_drop, hs.ll y (inB y hy)]; omega
    · obtain ⟨y, hy, rfl⟩ := List.mem_map.mp hx
      have q := hB y hy
      obtain ⟨h1, h2, h3⟩ := hs.lp y (inB y hy)
      refine ⟨by show y.2 - m < w; omega, ?_, fun j hj => ?_⟩
      · rw [hd]
        show 0 < vec y.1 (m + (y.2 - m))
        rw [show m + (y.2 - m) = y.2 by omega]; exact h2
      · have hj : j < y.2 - m := hj
        rw [hd]
        exact h3 _ (by omega)
    · rw [List.pairwise_map]
      refine pw.2.1.imp_of_mem fun {x y} hx hy hxy => ?_
      have q1 := hB x hx
      have q2 := hB y hy
      refine ⟨by show x.2 - m < y.2 - m; omega, ?_, ?_⟩
      · rw [hd]
        show 0 ≤ vec x.1 (m + (y.2 - m))
        rw [show m + (y.2 - m) = y.2 by omega]; exact hxy.2.1
      · rw [hd, hd]
        show vec x.1 (m + (y.2 - m)) < vec y.1 (m + (y.2 - m))
        rw [show m + (y.2 - m) = y.2 by omega]; exact hxy.2.2
  have hsA : HS m m (A.map (takeK m)) := by
    refine ⟨fun x hx => ?_, fun x hx => ?_, ?_⟩
    · obtain ⟨y, hy, rfl⟩ := List.mem_map.mp hx
      show (y.1.take m).length = m
      rw [List.length_take, hs.ll y (inA y hy)]; omega
    · obtain ⟨y, hy, rfl⟩ := List.mem_map.mp hx
      have q := hA y hy
      obtain ⟨h1, h2, h3⟩ := hs.lp y (inA y hy)
      refine ⟨q, ?_, fun j hj => ?_⟩
      · rw [ht]
        show 0 < (if y.2 < m then vec y.1 y.2 else 0)
        rw [if_pos q]; exact h2
      · have hj : j < y.2 := hj
        rw [ht]
        show (if j < m then vec y.1 j else 0) = 0
        rw [if_pos (by omega)]; exact h3 _ hj
    · rw [List.pairwise_map]
      refine pw.1.imp_of_mem fun {x y} hx hy hxy => ?_
      have q1 := hA x hx
      have q2 := hA y hy
      refine ⟨hxy.1, ?_, ?_⟩
      · rw [ht]
        show 0 ≤ (if y.2 < m then vec x.1 y.2 else 0)
        rw [if_pos q2]; exact hxy.2.1
      · rw [ht, ht]
        show (if y.2 < m then vec x.1 y.2 else 0) < (if y.2 < m then vec y.1 y.2 else 0)
        rw [if_pos q2, if_pos q2]; exact hxy.2.2
  have loMk : ∀ k, loV m (vec (mkI T w k)) = vec (T.map fun t => vec t k) := fun k => funext fun j => by
    unfold loV
    by_cases hj : j < m
    · rw [if_pos hj, vec_mk_lo (by omega), vec_col]
    · rw [if_neg hj, vec_out (by rw [List.length_map]; omega)]
  have cert : Cert 0 m (Tt T w) A.length := by
    refine ⟨⟨(rows (A.map (takeK m))).map vec, (A.map (takeK m)).map (·.2), hsA.tri, by unfold rows; simp, ?_, fun c hc => ?_, fun x hx => ?_, fun t ht' => ?_⟩⟩
    · rw [List.pairwise_map]; exact hsA.pw.imp fun z => z.1
    · obtain ⟨x, hx, rfl⟩ := List.mem_map.mp hc
      exact (hsA.lp x hx).1
    · obtain ⟨l, hl, rfl⟩ := List.mem_map.mp hx
      obtain ⟨y, hy, rfl⟩ := List.mem_map.mp hl
      obtain ⟨z, hz, rfl⟩ := List.mem_map.mp hy
      have := SP.map (loV_lin m) (h.s1 z (inA z hz))
      rw [ht]
      refine (this.mono fun t ht'' => ?_).of0 LA.pz0.mu
      obtain ⟨u, hu, rfl⟩ := List.mem_map.mp ht''
      obtain ⟨l, hl, rfl⟩ := List.mem_map.mp hu
      obtain ⟨k, hk, rfl⟩ := List.mem_map.mp hl
      rw [loMk]
      exact List.mem_map_of_mem (List.mem_map_of_mem (f := fun k => T.map fun t => vec t k) hk)
    · obtain ⟨k, hk, rfl⟩ := List.mem_map.mp ht'
      rw [← loMk]
      refine SP.of0 ?_ LA.pz0.mu
      refine (SP.map (loV_lin m) (h.s3 (mkI T w k) (List.mem_map_of_mem hk))).trans fun u hu => ?_
      obtain ⟨v, hv, rfl⟩ := List.mem_map.mp hu
      obtain ⟨l, hl, rfl⟩ := List.mem_map.mp hv
      obtain ⟨y, hy, rfl⟩ := List.mem_map.mp hl
      rw [eL] at hy
      rcases List.mem_append.mp hy with hy | hy
      · rw [← ht]
        exact .mem (List.mem_map_of_mem (List.mem_map_of_mem (List.mem_map_of_mem hy)))
      · refine .zero fun j => ?_
        unfold loV
        split
        · rename_i hj
          rw [(hs.lp y (inB y hy)).2.2 j (by have := hB y hy; omega)]; exact Int.dvd_refl 0
        · exact Int.dvd_refl 0
  have ttl : (Tt T w).length = w := by unfold Tt; rw [List.length_map, List.length_range]
  have eA : w - (B.map (dropK m)).length = A.length := by rw [nl]; omega
  refine ⟨hsB, fun x hx => ?_, by rw [nl]; omega, fun x hx t ht' => ?_, fun y hy h0 => ?_, ?_, fun k hk v hv => ?_, ?_, fun d hd' => ?_⟩
  · intro j
    refine Nat.le_trans ((hsB.sizes (G := 2 ^ ((b + 7) * w)) fun cs => ?_).2.2 x hx j) (big_le (by rw [nl]; omega) w1)
    have eB : (rows (B.map (dropK m))).map vec = ((rows B).map vec).map (hiV m) := by
      unfold rows
      rw [List.map_map, List.map_map, List.map_map, List.map_map]
      exact List.map_congr_left fun x _ => hd x
    rw [eB, D_shift]
    refine Nat.le_trans (HS.big (A := A) (B := B) (eL ▸ hs) _) ?_
    rw [← eL]
    generalize A.map (·.2) ++ cs.map (m + ·) = js
    have ll : ((rows L).map vec).length = w := by unfold rows; rw [List.length_map, List.length_map, Lw]
    by_cases ej : js.length = w
    · have d1 := LA.span_D (mu1 (D ((rows L).map vec) js)) ((rows L).map vec) w [] (cs := js) (fun s hs' hn => by
        rw [hs'.eq_of_length (by rw [hn, ll])]; exact Int.dvd_refl _) ((MkT T w).map vec) (by rw [List.length_map, ml]) fun v hv => by
          obtain ⟨l, hl, rfl⟩ := List.mem_map.mp hv
          exact (h.s3 l hl).of0 (mu1 _)
      have d2 := LA.span_D (mu1 (D ((MkT T w).map vec) js)) ((MkT T w).map vec) w [] (cs := js) (fun s hs' hn => by
        rw [hs'.eq_of_length (by rw [hn, List.length_map, ml])]; exact Int.dvd_refl _) ((rows L).map vec) ll fun v hv => by
          obtain ⟨l, hl, rfl⟩ := List.mem_map.mp hv
          obtain ⟨y, hy, rfl⟩ := List.mem_map.mp hl
          exact (h.s1 y hy).of0 (mu1 _)
      rw [List.nil_append] at d1 d2
      have sz := D_size (b := b) (MkT T w) js hb (by omega)
      rw [ml] at sz
      refine Nat.le_trans ?_ sz
      by_cases z : D ((MkT T w).map vec) js = 0
      · rw [z] at d2
        rw [Int.zero_dvd.mp d2]; exact Nat.zero_le _
      · exact Nat.le_of_dvd (by omega) (Int.natAbs_dvd_natAbs.mpr d1)
    · rw [LA.D_len _ _ (by rw [ll]; exact fun q => ej q.symm)]
      exact Nat.zero_le _
  · obtain ⟨y, hy, rfl⟩ := List.mem_map.mp hx
    obtain ⟨i, hi, rfl⟩ := mem_row ht'
    rw [hd, em, ← mk_inv (h.s1 y (inB y hy)) i hi]
    exact (hs.lp y (inB y hy)).2.2 i (by have := hB y hy; omega)
  · have s1 := (mk_all hy h0).trans fun t ht' => by
      obtain ⟨l, hl, rfl⟩ := List.mem_map.mp ht'
      exact h.s3 l hl
    rw [← em] at s1
    have s2 := HS.strip (A := A) (B := B) (eL ▸ hs) hA (eL ▸ s1) fun j hj => if_pos hj
    have s3 := SP.map (hiV_lin m) s2
    refine (s3.mono (S := (rows (B.map (dropK m))).map vec) fun t ht' => ?_).of fun j => ?_
    · obtain ⟨u, hu, rfl⟩ := List.mem_map.mp ht'
      obtain ⟨l, hl, rfl⟩ := List.mem_map.mp hu
      obtain ⟨x, hx, rfl⟩ := List.mem_map.mp hl
      rw [← hd]
      exact List.mem_map_of_mem (List.mem_map_of_mem (List.mem_map_of_mem hx))
    · show vec y j = if m + j < m then 0 else vec y (m + j - m)
      rw [if_neg (by omega), show m + j - m = j by omega]
  · rw [eA, ← em]
    have := (cert.last LA.pz0).1
    rw [ttl] at this
    omega
  · rw [eA] at hk
    obtain ⟨r, hr, cs, hcs, rfl⟩ := mem_minors.mp hv
    obtain ⟨cl, _, cb⟩ := mem_chs.mp hcs
    rw [minors_turn hw]
    exact Int.zero_dvd.mp (cert.more LA.pz0 (pick_in (by rw [ttl]; exact cb)) (by rw [pick_len, cl]; exact hk) r)
  · obtain ⟨s, cs, hs', sl, cl, cp, cb, hdd⟩ := cert.some LA.pz0
    obtain ⟨r, hr, rfl⟩ := sub_pick hs'
    rw [sl, ttl] at hr
    refine ⟨D ((pickR T cs).map vec) r, mem_minors.mpr ⟨cs, mem_chs.mpr ⟨by rw [eA]; exact cl, cp, by rw [← em]; exact cb⟩, r, by rw [eA]; exact hr, rfl⟩, fun z => ?_⟩
    rw [minors_turn hw] at z
    rw [z] at hdd
    exact hdd (Int.dvd_refl 0)
  · have := LA.span_D (mu1 d) ((rows L).map fun l => hiV m (vec l)) w [] (cs := List.range' 0 w) (fun s hs' hn => ?_) ((List.range' 0 w).map un) (by rw [List.length_map, List.length_range']) fun v hv => (hiun v hv).of0 (mu1 d)
    · rw [List.nil_append, LA.D_un] at this; exact this
    · have es := hs'.eq_of_length (by rw [hn, List.length_map]; unfold rows; rw [List.length_map, Lw])
      rw [es, List.nil_append, eL]
      unfold rows
      rw [List.map_append, List.map_append]
      refine LA.D_dvdS _ _ fun l hl => ?_
      have eB : (B.map (·.1)).map (fun l => hiV m (vec l)) = (rows (B.map (dropK m))).map vec := by
        unfold rows
        rw [List.map_map, List.map_map, List.map_map]
        exact List.map_congr_left fun x _ => (hd x).symm
      rw [eB]
      have rlen : (rows (B.map (dropK m))).length = (B.map (dropK m)).length := List.length_map ..
      by_cases e : l.length = (B.map (dropK m)).length
      · obtain ⟨r, hr, er⟩ := sub_pick (List.Sublist.refl (rows (B.map (dropK m))))
        refine hd' _ (mem_minors.mpr ⟨r, by rw [rlen] at hr ⊢; exact hr, l, mem_chs.mpr ⟨e, List.Pairwise.sublist hl List.pairwise_lt_range', fun c hc => ?_⟩, by rw [← er]⟩)
        have := List.mem_range'_1.mp (hl.subset hc)
        omega
      · rw [LA.D_len _ _ (by rw [List.length_map, rlen]; exact fun q => e q.symm)]
        exact Int.dvd_zero d
end GT
namespace GL
open PySem PySem.Spec PyProof.Rows L2 PySem.W PySem.Calls
/-! ### tuples whose own methods are called: it is known that they have no dict -/
def SqZ (K : PySem.W.Frag) (H : Hp) (a : Addr) (xs : List V) : Prop :=
  (∃ o : Obj, H a = some (.frz o (.tup xs)) ∧ o.dict = none) ∨
    ∃ (o : Obj) (its : Array Value) (n : Nat), K.lookup a = some o ∧ o.cls = .type "tuple" ∧ o.dict = none ∧ o.data = .seq its n ∧ its.size ≤ sizeLine ∧ Vals xs its.toList
theorem SqZ.t {K : PySem.W.Frag} {H : Hp} {a : Addr} {xs : List V} (h : SqZ K H a xs) : SqT K H a xs := by
  rcases h with ⟨o, h, _⟩ | ⟨o, its, n, h1, h2, _, h3, h4, h5⟩
  · exact .inl (.inr ⟨o, h⟩)
  · exact .inr ⟨o, its, n, h1, h2, h3, h4, h5⟩
theorem SqZ.to {K : PySem.W.Frag} {H H' : Hp} {a : Addr} {xs : List V} (k : ∀ o, H a = some (.frz o (.tup xs)) → H' a = some (.frz o (.tup xs))) (h : SqZ K H a xs) : SqZ K H' a xs :=
  h.imp (fun ⟨o, h, d⟩ => ⟨o, k o h, d⟩) id
theorem SqZ.same {K : PySem.W.Frag} {H H' : Hp} {a : Addr} {xs : List V} (s : Same H H') (h : SqZ K H a xs) : SqZ K H' a xs := h.to fun _ e => s _ _ e
/-- what is said of a new tuple -/
def NewZ (H : Hp) (xs : List V) (Q : VK) : Prop := ∀ (p : Addr) (o : Obj), H p = none → o.dict = none → Q (.ref p) (upd H p (.frz o (.tup xs)))
section
variable {X : Cx} {pins : List (Addr × Obj)} {σ : L2.St} {H : Hp} {s : Shared}
theorem newZ {xs : List V} {its : List Value} {Q : VK} (I : Inv X pins σ H s) (r : Vals xs its) (hz : xs.length ≤ sizeLine) (q : NewZ H xs Q) : EP X pins σ Q (.ref s.heap.objs.size) { s with heap := s.heap.push { cls := .type "tuple", data := .seq its.toArray } } :=
  ⟨.ref s.heap.objs.size, upd H s.heap.objs.size (.frz ({ cls := .type "tuple", data := .seq its.toArray } : Obj) (.tup xs)),
    I.laid (t' := s.toks) (fun b ob e => Heap.get?_push_of_some _ e) (Nat.le_refl _) (show ObjOk X.prog X.w _ _ _ (.frz _ (.tup xs)) from ⟨Heap.get?_push_size _ rfl, hz, its, r, IsTup.new _ _⟩), rfl, q _ _ (I.hok.fresh (Nat.le_refl _)) rfl⟩
/-- tuple(a list) -/
def kTupZ (K : PySem.W.Frag) : V → Hp → VK → Prop := fun x H Q => ∃ p xs, x = .ref p ∧ SqL K H p xs ∧ NewZ H xs Q
theorem pe_tupleZ {a : Expr} {ta : TE} {p pos : Pos} (hg : Gl X "tuple") (hm : X.mg "tuple" = none) (ha : PE X a ta) (na : starEach [a] X.env = (false, eval a X.env) :: starEach [] X.env := by rfl) :
    PE X (.Call (.Name "tuple" p) [a] [] pos) (tThen ta (kTupZ X.K)) := by
  constructor
  intro pins s σ H Q I h
  refine Call_ (ld_blt I hg hm boot_tuple (PyProof.Rows.callWith_type1 (one_arg ha I h (fun v s2 x H2 I2 r q => ?_) na) na))
  obtain ⟨p, xs, rfl, hs, q⟩ := q
  obtain rfl : v = .ref p := r
  obtain ⟨its, rv, pl, hz⟩ := I2.list hs
  refine call_tuple_list pl.isList (fun h' hk => ?_) (by rw [List.size_toArray, ← rv.length]; exact hz)
  exact newZ (s := { s2 with heap := h' }) (I2.kept (t' := s2.toks) hk) rv hz q
/-- t + u -/
def rCatZ (K : PySem.W.Frag) : R2 := fun x y H Q => ∃ a b xs ys, x = .ref a ∧ y = .ref b ∧ SqT K H a xs ∧ SqT K H b ys ∧ xs.length + ys.length ≤ sizeLine ∧ (xs = [] → Q (.ref b) H) ∧ (xs ≠ [] → ys = [] → Q (.ref a) H) ∧ (xs ≠ [] → ys ≠ [] → NewZ H (xs ++ ys) Q)
theorem op_catZ : OpR X (binaryOp .Add) (rCatZ X.K) := by
  intro pins s σ H x y v u Q I rx ry h
  obtain ⟨a, b, xs, ys, rfl, rfl, ha, hb, hz, q0, q1, q2⟩ := h
  obtain rfl : v = .ref a := rx
  obtain rfl : u = .ref b := ry
  obtain ⟨its, r1, p1, _⟩ := I.tuple ha
  obtain ⟨its2, r2, p2, _⟩ := I.tuple hb
  by_cases hx : xs = []
  · subst hx
    cases r1
    exact cat_tup0 p1 p2 ⟨.ref b, H, I, rfl, q0 rfl⟩
  · refine HT.cat_tup p1 p2 (fun z => hx (r1.nil_iff.mp z)) (fun z => ⟨.ref a, H, I, rfl, q1 hx (r2.nil_iff.mp z)⟩) (fun z => ?_) (by rw [← r1.length, ← r2.length]; exact hz)
    exact newZ I (r1.append r2) (by rw [List.length_append]; exact hz) (q2 hx fun w => z (r2.nil_iff.mpr w))
/-- t[lo:hi] -/
def rSlZ (K : PySem.W.Frag) : V → Option Int → Option Int → Hp → VK → Prop := fun x lo hi H Q => ∃ a xs, x = .ref a ∧ SqT K H a xs ∧
  (HT.sIx xs.length 0 lo = 0 ∧ HT.sIx xs.length xs.length hi = xs.length → Q (.ref a) H) ∧ (¬ (HT.sIx xs.length 0 lo = 0 ∧ HT.sIx xs.length xs.length hi = xs.length) → NewZ H (cutV xs lo hi) Q)
theorem sl_tupZ : SlR X (rSlZ X.K) := by
  intro pins s σ H x v vl vu lo hi sl Q I rx hs pl pu h
  obtain ⟨a, xs, rfl, hx, q1, q2⟩ := h
  obtain rfl : v = .ref a := rx
  obtain ⟨its, r, ht, hz⟩ := I.tuple hx
  have hlen : its.toArray.size = xs.length := by rw [List.size_toArray]; exact r.length.symm
  refine ⟨"tuple", _, PyProof.Rows.slot_tuple_getitem.lookup, ht.typeIs, ?_⟩
  by_cases hw : HT.sIx xs.length 0 lo = 0 ∧ HT.sIx xs.length xs.length hi = xs.length
  · exact getItem_tuple_whole ht hs pl pu (by rw [hlen]; exact hw) ⟨.ref a, H, I, rfl, q1 hw⟩
  · refine HT.getItem_tuple_cut ht hs pl pu (by rw [hlen]; exact hw) ?_ (by rw [hlen]; exact hz)
    rw [hlen]
    exact newZ I ((r.drop (HT.sIx xs.length 0 lo)).take (HT.sIx xs.length xs.length hi - HT.sIx xs.length 0 lo)) (Nat.le_trans (cutV_length xs lo hi) hz) (q2 hw)
variable {o e : Expr} {es : List Expr} {to : TE} {t : TA} {name : Str} {apos cpos : Pos} {id : String} {r : V → List V → Hp → VK → Prop}
/-- t.m(e, ..), m a method of tuples -/
def tBMZ (K : PySem.W.Frag) (r : V → List V → Hp → VK → Prop) (to : TE) (t : TA) : TE := fun σ H Q => to σ H fun x H1 => (∃ a xs, x = .ref a ∧ SqZ K H1 a xs) ∧ t σ H1 fun xs H2 => r x xs H2 Q
theorem pe_bmZ (slot : Slot "tuple" name id) (hty : typeOf (.builtin id) = pure (.type "method_descriptor")) (hm : MtR X id r) (ho : PE X o to) (ha : PA X (e :: es) t)
    (hbase : attributeBase o name X.env (eval o X.env) = eval o X.env := by rfl)
    (hfew : ((backTo cpos (starEach (e :: es) X.env)).all (fun x => !x.1) && (backToKw cpos (keywordEach [] X.env)).all (fun x => x.1.isSome)
      && decide ((e :: es).length + ([] : List Keyword).length + (if ([] : List Keyword).isEmpty then 0 else 1) < 30)) = true := by rfl)
    (hline : (apos.endLine == cpos.line) = true := by rfl) (hs : starEach (e :: es) X.env = (false, eval e X.env) :: starEach es X.env := by rfl) (hplain : (backTo cpos (starEach es X.env)).any (·.1) = false := by rfl) :
    PE X (.Call (.Attribute o name apos) (e :: es) [] cpos) (tBMZ X.K r to t) := by
  constructor
  intro pins s σ H Q I h
  refine wpAny_Call_method_late hbase hfew hline rfl (thn (ho.run pins s σ H _ I h) fun v s1 ⟨x, H1, I1, r1, ty, q1⟩ => ?_)
  obtain ⟨a, xs, rfl, hz⟩ := ty
  obtain rfl : v = .ref a := r1
  have tp : s1.TypeIs (.ref a) "tuple" ∧ ∃ ob, s1.heap.get? a = some ob ∧ ob.dict = none := by
    obtain ⟨its, _, ht, _⟩ := I1.tuple hz.t
    refine ⟨ht.typeIs, ?_⟩
    rcases hz with ⟨ob, e, d⟩ | ⟨ob, _, _, e, _, d, _⟩
    · exact ⟨ob, ((show ObjOk X.prog X.w H1 s1.heap a (.frz ob (.tup xs)) from I1.hok a _ e)).1, d⟩
    · exact ⟨ob, I1.kIn a ob e, d⟩
  refine ⟨"tuple", id, PySem.F.plainAttrs_tuple, slot, hty, tp.1, fun b e => ?_, ?_⟩
  · cases e
    exact tp.2
  have hA := ha.run cpos pins s1 σ H1 _ I1 q1
  rw [hs] at hA ⊢
  refine Calls.callWith_builtin (by show (false || (backTo cpos (starEach es X.env)).any (·.1)) = false; rw [hplain] <;> rfl) (Calls.evalArgs_plain ?_)
  exact thn hA fun us s2 ⟨vs, H2, I2, r2, q2⟩ => hm pins s2 σ H2 (V.ref a) vs _ us Q I2 rfl r2 q2
end

/-! ### t[::-1] -/
section
variable {prog : Program} {w : World} {A : Around} {E : Value → Shared → Prop} {s : Shared}
theorem fm_congr {α β : Type} {f g : α → Option β} : ∀ l : List α, (∀ k ∈ l, f k = g k) → l.filterMap f = l.filterMap g
  | [], _ => rfl
  | a :: r, h => by
    rw [List.filterMap_cons, List.filterMap_cons, h a List.mem_cons_self, fm_congr r fun k hk => h k (List.mem_cons_of_mem _ hk)]
theorem back_list (xs : Array Value) : ((List.range xs.size).filterMap fun (k : Nat) => xs[((xs.size : Int) - 1 + (k : Int) * (-1)).toNat]?).toArray = xs.toList.reverse.toArray := by
  congr 1
  have e : (List.range xs.size).filterMap (fun (k : Nat) => xs[((xs.size : Int) - 1 + (k : Int) * (-1)).toNat]?) = ((List.range xs.size).map fun k => xs.size - 1 - k).filterMap (xs[·]?) := by
    rw [List.filterMap_map]
    refine fm_congr _ fun k hk => ?_
    have := List.mem_range.mp hk
    show xs[((xs.size : Int) - 1 + (k : Int) * (-1)).toNat]? = xs[xs.size - 1 - k]?
    rw [show ((xs.size : Int) - 1 + (k : Int) * (-1)).toNat = xs.size - 1 - k by omega]
  rw [e, krv_range, List.filterMap_reverse, krv_all]
theorem getItem_tuple_back {t sl : Addr} {items : Array Value} {vs : Value} {Q : Value → Shared → Prop} (ht : IsTup s.heap t items) (hs : s.heap.IsSliceOf sl .none .none vs) (ps : IsPart vs (some (-1)))
    (h : Q (.ref s.heap.objs.size) { s with heap := s.heap.push { cls := .type "tuple", data := .seq items.toList.reverse.toArray } })
    (hsz : items.size ≤ sizeLine) : wpAny (model prog w) A (getItem (.ref t) (.ref sl)) Q E s := by
  have fit : sizeOk (.seq items.toList.reverse.toArray) := by
    show items.toList.reverse.toArray.size ≤ sizeLine
    rw [List.size_toArray, List.length_reverse, Array.length_toList]
    exact hsz
  obtain ⟨os, hos, hcs, hds⟩ := id hs
  have hTs : s.TypeIs (.ref sl) "slice" := ⟨os, hos, hcs⟩
  unfold getItem
  try with_reducible refine wpAny_holding ?_
  first | refine wpAny_bind (wpAny_pure ?_) | skip
  refine wpAny_bind (wpAny_sequenceKey ht.typeIs (by decide) ?_)
  refine wpAny_bind (wpAny_callSpecial?_slot (name := Str.ofString "__getitem__") ht.typeIs PyProof.Rows.slot_tuple_getitem
    (wpAny_call_entry PyProof.Rows.slot_tuple_getitem ht.typeIs entry_tuple_getitem ?_ (args_tuple_getitem _ _)))
  show wpAny _ _ (Builtin.Tuple.tupleItemsOf (.ref t) >>= _) _ _ s
  refine wpAny_bind (tupleItemsOf_ ht (wpAny_bind (wpAny_typeOf hTs ?_)))
  rw [if_pos (by decide)]
  have places : Builtin.Slice.slicePlaces ((items.size : Int) - 1) (-1) (-1) = items.size := by
    unfold Builtin.Slice.slicePlaces
    rw [if_neg (by decide)]
    by_cases z : items.size = 0
    · rw [z]; decide
    · rw [if_pos (by omega), show (-(-1 : Int)) = 1 by decide, Int.ediv_one]
      omega
  have app : wpAny (model prog w) A.in1 (Builtin.Slice.sliceApplied (.ref sl) (pure (items.size : Int))) (fun r s' => r = (((items.size : Int) - 1), -1, items.size) ∧ s' = s) (fun _ _ => False) s := by
    unfold Builtin.Slice.sliceApplied Builtin.Slice.sliceFields
    refine wpAny_bind (wpAny_bind (wpAny_field hos hds (x := .none) rfl (wpAny_bind (wpAny_field hos hds (x := .none) rfl (wpAny_bind (wpAny_field hos hds (x := vs) rfl (wpAny_pure ?_)))))))
    refine wpAny_bind (HT.slicePart_ ps ?_)
    show wpAny _ _ (if ((-1 : Int) == 0) = true then _ else _) _ _ s
    rw [if_neg (by decide)]
    refine wpAny_bind (slicePart_none (wpAny_bind (slicePart_none (wpAny_bind (wpAny_pure ?_)))))
    show wpAny _ _ (pure (((items.size : Int) - 1), (-1 : Int), Builtin.Slice.slicePlaces ((items.size : Int) - 1) (-1) (-1))) _ _ s
    rw [places]
    exact wpAny_pure ⟨rfl, rfl⟩
  refine wpAny_bind (wpAny_mono app (fun r s' hr => ?_) fun _ _ z => z.elim)
  obtain ⟨rfl, rfl⟩ := hr
  have no : ¬ ((((items.size : Int) - 1) == 0 && (-1 : Int) == 1 && items.size == items.size) = true) := by
    intro q
    rw [Bool.and_eq_true, Bool.and_eq_true] at q
    exact absurd q.1.2 (by decide)
  show wpAny _ _ (if (((items.size : Int) - 1) == 0 && (-1 : Int) == 1 && items.size == items.size) = true then _ else _) _ _ s'
  rw [if_neg no, back_list]
  first
    | exact wpAny_bind (m := Builtin.Tuple.tupleExact _) (wpAny_newObj_type (wpAny_pure ⟨_, rfl, wpAny_pure h⟩) fit)
    | exact wpAny_bind (m := Builtin.Tuple.tupleExact _) (wpAny_newObj_type (wpAny_bind (wpAny_pure (wpAny_pure ⟨_, rfl, wpAny_pure h⟩))) fit)
    | exact wpAny_bind (wpAny_bind (m := Builtin.Tuple.tupleExact _) (wpAny_newObj_type (wpAny_pure (wpAny_pure ⟨_, rfl, wpAny_pure h⟩)) fit))
    | exact wpAny_bind (wpAny_bind (m := Builtin.Tuple.tupleExact _) (wpAny_newObj_type (wpAny_pure ⟨_, rfl, wpAny_pure h⟩) fit))
end
section
variable {X : Cx}
def tRevZ (K : PySem.W.Frag) (te : TE) : TE := fun σ H Q => te σ H fun x H1 => ∃ a xs, x = .ref a ∧ SqT K H1 a xs ∧ NewZ H1 xs.reverse Q
theorem pe_revZ {e : Expr} {te : TE} {k : Nat} {p1 p2 p3 pos : Pos} (he : PE X e te) : PE X (.Subscript e (.Slice none none (some (.UnaryOp .USub (.Constant (.int 1) k p1) p2)) p3) pos) (tRevZ X.K te) := by
  constructor
  intro pins s σ H Q I h
  refine Subscript_ (thn (he.run pins s σ H _ I h) fun v s1 hv => ?_)
  obtain ⟨x, H1, I1, r1, a, xs, rfl, hx, q⟩ := hv
  obtain rfl : v = .ref a := r1
  have part : PO X (some (.UnaryOp .USub (.Constant (.int 1) k p1) p2)) (tPart (tUn (rU fun i => .int (-i)) (tC (.int 1)))) := po_some (pe_un un_neg pe_int)
  refine wpAny_Slice (thn (po_none.run pins s1 σ H1 (fun o H2 => o = none ∧ H2 = H1) I1 ⟨rfl, rfl⟩) fun vl s2 hl => ?_)
  obtain ⟨l, H2, I2, pl, rfl, rfl⟩ := hl
  refine thn (po_none.run pins s2 σ H2 (fun o H3 => o = none ∧ H3 = H2) I2 ⟨rfl, rfl⟩) fun vu s3 hu => ?_
  obtain ⟨u, H3, I3, pu, rfl, rfl⟩ := hu
  refine thn (part.run pins s3 σ H3 (fun o H4 => o = some (-1) ∧ H4 = H3) I3 ⟨1, rfl, -1, rfl, rfl, rfl⟩) fun vs s4 hp => ?_
  obtain ⟨o, H4, I4, ps, rfl, rfl⟩ := hp
  cases pl
  cases pu
  have I5 : Inv X pins σ H4 { s4 with heap := s4.heap.push { cls := .type "slice", data := .fields #[.none, .none, vs] } } := I4.kept (t' := s4.toks) fun b ob q => Heap.get?_push_of_some _ q
  obtain ⟨its, r, ht, hz⟩ := I5.tuple hx
  show wpAny (model X.prog X.w) X.A (subscriptTail e (.Slice none none (some (.UnaryOp .USub (.Constant (.int 1) k p1) p2)) p3) (.ref a) (.ref s4.heap.objs.size)) (EP X pins σ Q) X.xe { s4 with heap := s4.heap.push { cls := .type "slice", data := .fields #[.none, .none, vs] } }
  refine tail_any (ops := [.ref a, .ref s4.heap.objs.size]) ht.typeIs (PyProof.Rows.slot_tuple_getitem.lookup) ?_ (by with_unfolding_all rfl)
  refine getItem_tuple_back ht (Heap.IsSliceOf.new _ .none .none vs) ps ?_ (by rw [List.size_toArray, ← r.length]; exact hz)
  have e1 : its.toArray.toList.reverse.toArray = its.reverse.toArray := by simp
  rw [e1]
  exact newZ I5 r.reverse (by rw [List.length_reverse]; exact hz) q
end
/-! ### t * 0, t * 1 -/
section
theorem tuple_mul1 (l : Addr) (items : Array Value) (n : Nat) (dd : Option Addr) (sl : Array (Option Value)) (u : Tok) :
    Meets (Builtin.«tuple.__mul__» ⟨[.ref l, .int 1 u], []⟩) (fun _ R s => s.heap.get? l = some { cls := .type "tuple", dict := dd, data := .seq items n, slots := sl } ∧ R (.ok (.ret (Value.ref l))) s) :=
  .of_wp fun prog w A R s h => by
    obtain ⟨hp, g, d, tk, os⟩ := s
    obtain ⟨hl, h⟩ := h
    have f1 := AutoSeq1.idx_int
    have c1 : (items.isEmpty || (1 : Int) == 1) = true := by rw [Bool.or_eq_true]; exact Or.inr (by decide)
    wp_walk using wpAny_loadPart' hl
    repeat (first
      | (refine wpAny_ite_true (decide_eq_true c1) ?_; wp_walk using wpAny_loadPart' hl)
      | (refine wpAny_ite_false (by decide) ?_; wp_walk using wpAny_loadPart' hl))
    exact ⟨_, rfl, h⟩
theorem tuple_mul0 (l : Addr) (items : Array Value) (n : Nat) (dd : Option Addr) (sl : Array (Option Value)) (u : Tok) (ne : items.isEmpty = false) :
    Meets (Builtin.«tuple.__mul__» ⟨[.ref l, .int 0 u], []⟩) (fun _ R s => s.heap.get? l = some { cls := .type "tuple", dict := dd, data := .seq items n, slots := sl } ∧
      R (.ok (.ret (Value.ref s.heap.objs.size))) { s with heap := s.heap.push { cls := Value.type "tuple", data := Data.seq #[] }, toks := s.toks }) :=
  .of_wp fun prog w A R s h => by
    obtain ⟨hp, g, d, tk, os⟩ := s
    obtain ⟨hl, h⟩ := h
    have f1 := AutoSeq1.idx_int
    have c1 : (items.isEmpty || (0 : Int) == 1) = false := by rw [ne, Bool.false_or]; decide
    have c2 : (decide ((0 : Int) ≤ 0) || items.isEmpty) = true := by rw [Bool.or_eq_true]; exact Or.inl (by decide)
    wp_walk using wpAny_loadPart' hl
    repeat (first
      | (refine wpAny_ite_false (decide_eq_false (by rw [c1]; exact Bool.false_ne_true)) ?_; wp_walk using wpAny_loadPart' hl)
      | (refine wpAny_ite_true (decide_eq_true c2) ?_; wp_walk using wpAny_loadPart' hl)
      | (refine wpAny_ite_false (by decide) ?_; wp_walk using wpAny_loadPart' hl))
    exact ⟨_, rfl, h⟩
end
section
variable {X : Cx}
def rRep01 (K : PySem.W.Frag) : R2 := fun x y H Q => ∃ l k xs, x = .ref l ∧ y = .int k ∧ SqT K H l xs ∧ xs ≠ [] ∧ (k = 0 ∨ k = 1) ∧ (k = 0 → NewZ H [] Q) ∧ (k = 1 → Q (.ref l) H)
theorem op_rep01 : OpR X (binaryOp .Mult) (rRep01 X.K) := by
  intro pins s σ H x y v u Q I rx ry h
  obtain ⟨l, k, xs, rfl, rfl, hT, ne, hk, q0, q1⟩ := h
  obtain rfl : v = .ref l := rx
  obtain ⟨t, rfl⟩ := ry
  obtain ⟨its, r, ⟨⟨cls, dd, data, sl⟩, ho, hc, n, hd⟩, hs⟩ := I.tuple hT
  simp only at hc hd
  subst hc hd
  have em : its.toArray.isEmpty = false := by
    cases its with
    | nil => cases r; exact absurd rfl ne
    | cons a b => rfl
  refine wpAny_binaryOp_repeat_ref (T := "tuple") (U := "int") (by decide) ⟨_, ho, rfl⟩ (fun s' => typeIs_int s' k t) noFill_tuple_mul F.fills_int_mul F.slot_int_rmul repeat_tuple F.slot_int_index.lookup
    (call_meets F.slot_int_rmul (typeIs_int s k t) F.entry_int_rmul (F.args_int_rmul_2 _ _) (int_rmul_tuple k t l its.toArray n dd sl) ⟨ho, rfl, ⟨_, ho, rfl⟩, ?_⟩)
  rcases hk with rfl | rfl
  · exact call_meets F.slot_tuple_mul ⟨_, ho, rfl⟩ F.entry_tuple_mul (F.args_tuple_mul_2 _ _) (tuple_mul0 l its.toArray n dd sl t em) ⟨ho, newZ I (its := []) .nil (Nat.zero_le _) (q0 rfl)⟩
  · exact call_meets F.slot_tuple_mul ⟨_, ho, rfl⟩ F.entry_tuple_mul (F.args_tuple_mul_2 _ _) (tuple_mul1 l its.toArray n dd sl t) ⟨ho, ⟨.ref l, H, I, rfl, q1 rfl⟩⟩
end
end GL
/-! the deck of the later laws: a dict of a list of ints and two ints, the second one counts the draws -/
namespace G3
open PySem PySem.Spec PyProof.Rows L2 GL
structure Keys where
  c : Str
  b : Str
  n : Str
  cb : ¬ c = b
  cn : ¬ c = n
  bn : ¬ b = n
theorem inr_ne {x y : Str} (h : ¬ x = y) : ¬ ((Sum.inr x : Key) = (Sum.inr y : Key)) := fun e => by
  injection e with e1
  exact h e1
def deckD (k : Keys) (g : Addr) (m n : Int) : List (Key × V) := [(Sum.inr k.c, .ref g), (Sum.inr k.b, .int m), (Sum.inr k.n, .int n)]
theorem deck_c (k : Keys) (g : Addr) (m n : Int) : valV (deckD k g m n) (Sum.inr k.c : Key) = some (.ref g) := valV_pos rfl
theorem deck_b (k : Keys) (g : Addr) (m n : Int) : valV (deckD k g m n) (Sum.inr k.b : Key) = some (.int m) := by
  unfold deckD
  rw [valV_neg (inr_ne k.cb), valV_pos rfl]
theorem deck_n (k : Keys) (g : Addr) (m n : Int) : valV (deckD k g m n) (Sum.inr k.n : Key) = some (.int n) := by
  unfold deckD
  rw [valV_neg (inr_ne k.cn), valV_neg (inr_ne k.bn), valV_pos rfl]
theorem deck_put (k : Keys) (g : Addr) (m n n' : Int) : putK (deckD k g m n) (Sum.inr k.n : Key) (.int n') = deckD k g m n' := by
  unfold putK deckD
  simp only [List.any_cons, List.any_nil, List.map_cons, List.map_nil, decide_eq_false (inr_ne k.cn), decide_eq_false (inr_ne k.bn), decide_true, Bool.or_true, Bool.false_or, Bool.or_false, if_true]
  rw [if_neg (inr_ne k.cn), if_neg (inr_ne k.bn)]
theorem get_c {k : Keys} {H : Hp} {d g : Addr} {m n : Int} (h : H d = some (.dK (deckD k g m n))) : DGet H d (.str k.c) (some (.ref g)) := deck_c k g m n ▸ DGet.k (k := Sum.inr k.c) h
theorem get_b {k : Keys} {H : Hp} {d g : Addr} {m n : Int} (h : H d = some (.dK (deckD k g m n))) : DGet H d (.str k.b) (some (.int m)) := deck_b k g m n ▸ DGet.k (k := Sum.inr k.b) h
theorem get_n {k : Keys} {H : Hp} {d g : Addr} {m n : Int} (h : H d = some (.dK (deckD k g m n))) : DGet H d (.str k.n) (some (.int n)) := deck_n k g m n ▸ DGet.k (k := Sum.inr k.n) h
theorem put_n {k : Keys} {H : Hp} {d g : Addr} {m n n' : Int} (h : H d = some (.dK (deckD k g m n))) : DPut H d (.str k.n) (.int n') (upd H d (.dK (deckD k g m n'))) := deck_put k g m n n' ▸ DPut.k (k := Sum.inr k.n) h (show 3 < sizeLine from smallt (by omega))
theorem deck_merge (k : Keys) (g : Addr) (m n : Int) : mergeK [] (deckD k g m n) = deckD k g m n := by
  have e1 : putK ([] : List (Key × V)) (Sum.inr k.c : Key) (V.ref g) = [((Sum.inr k.c : Key), V.ref g)] := rfl
  have e2 : putK [((Sum.inr k.c : Key), V.ref g)] (Sum.inr k.b : Key) (V.int m) = [((Sum.inr k.c : Key), V.ref g), ((Sum.inr k.b : Key), V.int m)] := by
    unfold putK
    simp only [List.any_cons, List.any_nil, decide_eq_false (inr_ne k.cb), Bool.or_false]
    rfl
  have e3 : putK [((Sum.inr k.c : Key), V.ref g), ((Sum.inr k.b : Key), V.int m)] (Sum.inr k.n : Key) (V.int n) = deckD k g m n := by
    unfold putK
    simp only [List.any_cons, List.any_nil, decide_eq_false (inr_ne k.cn), decide_eq_false (inr_ne k.bn), Bool.or_false]
    rfl
  show putK (putK (putK ([] : List (Key × V)) (Sum.inr k.c : Key) (V.ref g)) (Sum.inr k.b : Key) (V.int m)) (Sum.inr k.n : Key) (V.int n) = _
  rw [e1, e2, e3]
section
variable {K : PySem.W.Frag} {H H' : Hp} {k : Keys} {d g : Addr} {b b' : Nat}
/-- the deck, from which b more draws may be made -/
structure Dk (k : Keys) (H : Hp) (d g : Addr) (b : Nat) : Prop where
  ex : ∃ (m n : Int) (L : List Int), H d = some (.dK (deckD k g m n)) ∧ H g = some (.lst (L.map V.int)) ∧ L.length ≤ 63 ∧ 0 ≤ m ∧ m < 2147483587 ∧ 0 ≤ n ∧ n + b ≤ 1000000000000
theorem Dk.ne (D : Dk k H d g b) : d ≠ g := by
  obtain ⟨m, n, L, h1, h2, _⟩ := D.ex
  exact ne_of h1 h2 (fun z => nomatch z)
theorem Dk.same (D : Dk k H d g b) (s : Same H H') : Dk k H' d g b := by
  obtain ⟨m, n, L, h1, h2, r⟩ := D.ex
  exact ⟨⟨m, n, L, s _ _ h1, s _ _ h2, r⟩⟩
theorem Dk.mono (D : Dk k H d g b) (h : b' ≤ b) : Dk k H d g b' := by
  obtain ⟨m, n, L, h1, h2, h3, h4, h5, h6, h7⟩ := D.ex
  exact ⟨⟨m, n, L, h1, h2, h3, h4, h5, h6, by omega⟩⟩
theorem Dk.off {p : Addr} (D : Dk k H d g b) (h : H p = none) : p ≠ d ∧ p ≠ g := by
  obtain ⟨m, n, L, h1, h2, r⟩ := D.ex
  exact ⟨(ne_of_none h1 h).symm, (ne_of_none h2 h).symm⟩
theorem Dk.new {p : Addr} {o : HO} (D : Dk k H d g b) (h : H p = none) : Dk k (upd H p o) d g b := D.same (Same.new h)
theorem Dk.mut {p : Addr} {o : HO} (D : Dk k H d g b) (n : p ≠ d ∧ p ≠ g) : Dk k (upd H p o) d g b := by
  obtain ⟨m, n', L, h1, h2, r⟩ := D.ex
  exact ⟨⟨m, n', L, by rw [upd_ne n.1.symm]; exact h1, by rw [upd_ne n.2.symm]; exact h2, r⟩⟩
theorem Mv.free3 {p : Addr} (m : Mv d g H H') (D' : Dk k H' d g b) (h : H' p = none) : H p = none := by
  have n := D'.off h
  cases e : H p with
  | none => rfl
  | some o => rw [m.keep p o e n.1 n.2] at h; cases h
def spDrw (k : Keys) : Sp := fun vs H Q _ => ∃ (d g : Addr) (n : Int) (b : Nat), vs = [.ref d, .int n] ∧ Dk k H d g (b + 1) ∧ 0 < n ∧ n.natAbs < 2 ^ 8000 ∧
  ∀ (r : Int) (H' : Hp), 0 ≤ r → r < n → Dk k H' d g b → Mv d g H H' → Q (.int r) H'
def spDck (K : PySem.W.Frag) (k : Keys) : Sp := fun vs H Q _ => ∃ (a : Addr) (ns : List Int), vs = [.ref a] ∧ SqL K H a (ns.map V.int) ∧ ns.length ≤ 63 ∧
  ∀ (d g : Addr) (H' : Hp), Same H H' → H d = none → H g = none → Dk k H' d g 1000000000000 → Q (.ref d) H'
def spPck (k : Keys) : Sp := fun vs H Q _ => ∃ (d g a : Addr) (xs : List V) (b : Nat), vs = [.ref d, .ref a] ∧ Dk k H d g (b + 1) ∧ H a = some (.lst xs) ∧ a ≠ g ∧ xs ≠ [] ∧ xs.length ≤ 1000 ∧
  ∀ (x : V) (H' : Hp), x ∈ xs → Dk k H' d g b → Mv d g H H' → Q x H'
theorem cut_map (ns : List Int) (lo hi : Option Int) : cutV (ns.map V.int) lo hi = ((ns.drop (HT.sIx ns.length 0 lo)).take (HT.sIx ns.length ns.length hi - HT.sIx ns.length 0 lo)).map V.int := by
  unfold cutV
  rw [List.length_map, List.map_take, List.map_drop]
theorem cut_ints (ns : List Int) (lo hi : Option Int) : ∃ ms : List Int, cutV (ns.map V.int) lo hi = ms.map V.int ∧ ms.length ≤ ns.length := by
  refine ⟨_, cut_map ns lo hi, ?_⟩
  rw [List.length_take, List.length_drop]
  omega
theorem ints_at {ns : List Int} {i : Nat} {x : V} (h : (ns.map V.int)[i]? = some x) : ∃ n, x = .int n ∧ i < ns.length := by
  rw [List.getElem?_map] at h
  cases e : ns[i]? with
  | none => rw [e] at h; cases h
  | some n =>
    rw [e] at h
    exact ⟨n, (Option.some.inj h).symm, (List.getElem?_eq_some_iff.mp e).1⟩
theorem vals_rev : ∀ {xs : List V} {us : List Value}, Vals xs us → Vals xs.reverse us.reverse
  | _, _, .nil => .nil
  | _, _, .cons r t => by
    rw [List.reverse_cons, List.reverse_cons]
    exact Vals.append (vals_rev t) (.cons r .nil)
def spLaw (K : PySem.W.Frag) : Sp := fun vs H Q _ => ∃ (a : Addr) (ns : List Int), vs = [.ref a] ∧ SqL K H a (ns.map V.int) ∧ ns.length ≤ 63 ∧ ∀ H', Q (.bl true) H'
theorem walk {l : PySem.W.OpenLaw} {k : Nat} {q : Program} {loose : List Str} {XP : (Str → Option Value) → Heap → Prop} {YP : World → Heap → Prop} {d : DefRec} {K : Params → PySem.W.Frag} (hn : l.most = some 63) (hdf : d.params.defaults = []) (hr : Room k callerA)
    (hY : ∀ (w : World) (h : Heap), YP w h → (K w.params).In h)
    (F : ∀ (w : World) (mg : Str → Option Value) (fa : Addr) (h : Heap), (K w.params).In h → h.Ns mainGlobals mg → mg d.name = some (.ref fa) →
      ∃ fd : FuncData, (∀ (s : Shared) (u : Value), BindsTo s fd ⟨[u], []⟩ [("_law_script", u)]) ∧ ∀ base : Heap, (K w.params).In base → base.Ns mainGlobals mg → FnG l.prog w (K w.params) mg base CX0 k fa fd ["_law_script"] (spLaw (K w.params))) :
    PySem.W.WalkO q loose XP YP l.row.toRowW d [] (fun f vs => PySem.call f vs) :=
  walkG (n := 63) (k := k) (x := "_law_script") (sp := spLaw) hn (by decide) hdf hr hY F (fun _ _ a ns hl _ hS => ⟨a, ns, rfl, hS, hl, fun _ => rfl⟩)
end
section
variable {X : Cx} {k n : Nat} {f : Addr} {fd : FuncData} {ps ks : List Str} {sp : Sp} {x : Str} {p pos : Pos} {e : Expr} {es : List Expr} {t tk : TA} {kws : List Keyword} {g : List Value → List Value → List Value} {gV : List V → List V → List V}
/-- what is known of a def that is called with keywords -/
structure DefKG (P : Program) (w : World) (K : PySem.W.Frag) (mg : Str → Option Value) (base : Heap) (k : Nat) (x : Str) (ps : List Str) (n : Nat) (ks : List Str) (gV : List V → List V → List V) (sp : Sp) : Prop where
  ex : ∃ (f : Addr) (fd : FuncData) (g : List Value → List Value → List Value), FnG P w K mg base CX0 k f fd ps sp ∧ mg x = some (.ref f) ∧ PySem.W.keepIn K (.ref f) = true ∧ KBn K fd ps n ks g gV
def tCallKG (sp : Sp) (n m : Nat) (gV : List V → List V → List V) (E : XK) (ta tk : TA) : TE := fun σ H Q => ta σ H fun vs H1 => tk σ H1 fun zs H2 => vs.length = n ∧ zs.length = m ∧ sp (gV vs zs) H2 Q E
/-- f(a=.., b=..) -/
theorem pe_defK0 (D : DefKG X.prog X.w X.K X.mg X.base k x ps 0 ks gV sp) (hr : Room k X.A) (hc : Calm X.A) (hg : Gl X x) (hkw : PK X kws tk)
    (hall : (backToKw pos (keywordEach kws X.env)).all (·.1.isSome) = true := by rfl) (hks : (backToKw pos (keywordEach kws X.env)).filterMap (·.1) = ks := by rfl) (hdb : (x == ("__debug__" : Str)) = false := by decide)
    (hpl : ((backTo pos (starEach [] X.env)).any (·.1) || (backToKw pos (keywordEach kws X.env)).any (·.1.isNone)) = false := by rfl) :
    PE X (.Call (.Name x p) [] kws pos) (tCallKG sp 0 ks.length gV E0 tNil tk) := by
  obtain ⟨f, fd, g, F, hm, hk, hb⟩ := D.ex
  constructor
  intro pins s σ H Q I h
  refine wpAny_Call_Name_kw (ld_glob I hg hm (PySem.W.callWith_KW0 (h₀ := X.base) I.ok.mod.kin hk hall (thn (hkw.run pos pins s σ H _ I h) ?_) hpl) hdb)
  rintro ws s2 ⟨zs, H2, I2, rz, l1, l2, q2⟩
  refine ⟨I2.kIn, ?_⟩
  rw [hks]
  exact runKG (us := []) (vs := []) F hr hc hb pass0 I2 .nil rz rfl l2 q2
end
theorem Nice.intW {i : Int} (h : i.natAbs < 2 ^ 1920) : Nice 1921 0 (.int i) := by
  have l : i.natAbs.log2 < 1920 := PySem.Flt.log2_lt_of (by decide) h
  exact ⟨decide_eq_true l, rfl, Nat.le_refl _, PyProof.Rows.int_text_len_1921 l⟩
theorem Nice.natW {n : Nat} (h : n < 2 ^ 1920) : Nice 1921 0 (.int (n : Int)) := Nice.intW (by rw [Int.natAbs_natCast]; exact h)
theorem defK_mk {P : Program} {w : World} {K : PySem.W.Frag} {mg : Str → Option Value} {base : Heap} {k n : Nat} {x : Str} {st : Stmt} {f : Addr} {fd : FuncData} {ps ks : List Str} {gV : List V → List V → List V} {g : List Value → List Value → List Value} {sp : Sp} (F : Fun K x x st f fd) (gl : mg x = some (.ref f)) (b : KBn K fd ps n ks g gV) (h : FnG P w K mg base CX0 k f fd ps sp) : DefKG P w K mg base k x ps n ks gV sp :=
  ⟨⟨f, fd, g, h, gl, F.kp, b⟩⟩
end G3
/-! an instance that is called: own __call__, where nothing that guards itself is under way -/
namespace G3
open PySem PySem.Spec PyProof.Rows L2 GL StX PySem.W PySem.Calls
theorem callO_ofK {M : Model} {A : Around} {E : Value → Shared → Prop} {s : Shared} {a : Addr} {pos : Pos} {Q : Value → Shared → Prop} {args : List (Bool × Sem Value)} {kws : List (Option Str × Sem Value)} (hplain : (args.any (·.1) || kws.any (·.1.isNone)) = false)
    (h : wpAny M A (evalArgs (.ref a) true args kws) (fun z s₁ => (∃ C ox od, PySem.W.InstAt s₁.heap a ox C od ∧ ox.data = .plain) ∧ wpAny M A (call (.ref a) ([] ++ z.pos) z.kw) Q E s₁) E s) : wpAny M A (callWith pos (.ref a) [] args kws) Q E s := by
  unfold callWith
  refine wpAny_bind (wpAny_holding (wpAny_mono h (fun z s₁ h₁ => wpAny_bind (wpAny_standAt ?_)) fun _ _ y => y))
  obtain ⟨⟨C, ox, od, J, hd⟩, h₁⟩ := h₁
  have L := PySem.W.kco_keeper (M := M) J hd
  simp only [hplain]
  refine wpAny_bind (L.here ?_)
  have tail : ∀ {t : Sem Value}, wpAny M A t Q E s₁ → wpAny M A (t >>= fun r => holding [r] point >>= fun _ => pure r) Q E s₁ :=
    fun ht => wpAny_bind (wpAny_mono ht (fun r s₂ hr => wpAny_bind (wpAny_holding (wpAny_point (wpAny_pure hr)))) fun _ _ y => y)
  exact tail (wpAny_operateT h₁)
section
variable {X : Cx} {CX : CXT} {k n : Nat} {f C : Addr} {fd : FuncData} {ps ks : List Str} {sp : Sp} {E : XK} {e fe : Expr} {es : List Expr} {tf : TE} {t tk : TA} {p pos : Pos} {ds : List Value} {dvs : List V} {kws : List Keyword} {g : List Value → List Value → List Value} {gV : List V → List V → List V}
def tCallOG (C : Addr) (sp : Sp) (E : XK) (tf : TE) (t : TA) : TE := fun σ H Q => tf σ H fun y H1 => ∃ a, y = V.ref a ∧ t σ H1 fun vs H2 => (∃ dx fs, H2 a = some (.ins C dx fs)) ∧ sp (V.ref a :: vs) H2 Q E
/-- f(e, ..), f an expression that gives an instance -/
theorem pe_callOG (hf : PE X fe tf) (c : CallO X.K C f) (F : FnG X.prog X.w X.K X.mg X.base CX k f fd ps sp) (hb : Binds X.K fd ps []) (hr : Room k X.A) (hc : Calm X.A) (hx : Passes CX X E) (ha : PA X (e :: es) t)
    (ht : eval (.Call fe (e :: es) [] pos) X.env = (do callWith pos (← eval fe X.env) [] (backTo pos (starEach (e :: es) X.env)) (backToKw pos (keywordEach [] X.env))) := by rfl)
    (he : starEach (e :: es) X.env = (false, eval e X.env) :: starEach es X.env := by rfl) (hpl : (backTo pos (starEach es X.env)).any (·.1) = false := by rfl) : PE X (.Call fe (e :: es) [] pos) (tCallOG C sp E tf t) := by
  refine ⟨fun pins s σ H Q I h => ?_⟩
  refine Call_ (thn (hf.run pins s σ H _ I h) fun u s1 ⟨y, H1, I1, ry, a, ey, q⟩ => ?_) ht
  subst ey
  obtain rfl : u = Value.ref a := ry
  refine callO_with (thn (ha.run pos pins s1 σ H1 _ I1 q) fun us s2 ⟨vs, H2, I2, r, hi, q2⟩ => ?_) he hpl
  obtain ⟨ox, od, J, hd⟩ := insC_at I2 (.inr hi)
  refine ⟨⟨C, ox, od, J, hd⟩, ?_⟩
  have both : Vals (V.ref a :: vs) (Value.ref a :: us) := .cons rfl r
  have long : (Value.ref a :: us).length = ps.length := both.length.symm.trans (F.len _ _ _ _ q2)
  have go := F.run X.A X.stack s2 H2 ⟨Value.ref a :: us, []⟩ (Value.ref a :: us) (V.ref a :: vs) Q E hr hc I2.env0 (by simpa using hb s2 (Value.ref a :: us) I2.kIn (by simpa using long)) both q2
  refine wpAny_call (PySem.W.kco_code (a := ⟨us, []⟩) I2.kIn J hd c.at_ c.fn c.fi (codeAny_mono go fun r' s' q => ?_))
  have z := out_of hx I2 r' s' q
  match r', z with
  | .error _, z => exact z
  | .ok (.ret _), z => exact z
def tCallOKG (C : Addr) (sp : Sp) (n : Nat) (gV : List V → List V → List V) (E : XK) (tf : TE) (tk : TA) : TE := fun σ H Q => tf σ H fun y H1 => ∃ a, y = V.ref a ∧ tk σ H1 fun zs H2 => zs.length = n ∧ (∃ dx fs, H2 a = some (.ins C dx fs)) ∧ sp (gV [V.ref a] zs) H2 Q E
/-- f(k=e, ..) -/
theorem pe_callOKG (hf : PE X fe tf) (c : CallO X.K C f) (F : FnG X.prog X.w X.K X.mg X.base CX k f fd ps sp) (hb : KBn X.K fd ps 1 ks g gV) (hr : Room k X.A) (hc : Calm X.A) (hx : Passes CX X E) (hkw : PK X kws tk)
    (hall : (backToKw pos (keywordEach kws X.env)).all (·.1.isSome) = true := by rfl) (hks : (backToKw pos (keywordEach kws X.env)).filterMap (·.1) = ks := by rfl)
    (hpl : ((backTo pos (starEach [] X.env)).any (·.1) || (backToKw pos (keywordEach kws X.env)).any (·.1.isNone)) = false := by rfl)
    (ht : eval (.Call fe [] kws pos) X.env = (do callWith pos (← eval fe X.env) [] (backTo pos (starEach [] X.env)) (backToKw pos (keywordEach kws X.env))) := by rfl) : PE X (.Call fe [] kws pos) (tCallOKG C sp ks.length gV E tf tk) := by
  refine ⟨fun pins s σ H Q I h => ?_⟩
  rw [ht]
  refine wpAny_bind (thn (hf.run pins s σ H _ I h) fun u s1 ⟨y, H1, I1, ry, a, ey, q⟩ => ?_)
  subst ey
  obtain rfl : u = Value.ref a := ry
  refine callO_ofK hpl (evalArgs_kw2_nil hall (thn (hkw.run pos pins s1 σ H1 _ I1 q) fun ws s2 ⟨zs, H2, I2, rz, l2, hi, q2⟩ => ?_))
  obtain ⟨ox, od, J, hd⟩ := insC_at I2 (.inr hi)
  refine ⟨⟨C, ox, od, J, hd⟩, ?_⟩
  rw [hks]
  have go := F.run X.A X.stack s2 H2 ⟨[Value.ref a], ks.zip ws⟩ (g [Value.ref a] ws) (gV [V.ref a] zs) Q E hr hc I2.env0 (hb.to s2 [Value.ref a] ws I2.kIn rfl (rz.length.symm.trans l2)) (hb.rel (.cons rfl .nil) rz) q2
  refine wpAny_call (PySem.W.kco_code (a := ⟨[], ks.zip ws⟩) I2.kIn J hd c.at_ c.fn c.fi (codeAny_mono go fun r' s' q => ?_))
  have z := out_of hx I2 r' s' q
  match r', z with
  | .error _, z => exact z
  | .ok (.ret _), z => exact z
end
/-! ### C.m(..), m a static method of the class at C -/
structure StatM (K : PySem.W.Frag) (C : Addr) (m : Str) (f : Addr) : Prop where
  ga : PySem.W.specialIn K (.ref C) "__getattribute__" = some (some (.builtin "type.__getattribute__"))
  rd : PySem.W.readsIn K C (.type "type") = true
  fc : ∃ (p : Addr) (rest : List Value), PySem.W.findCls K (.ref C) (.type "type") m = some (.get (.builtin "staticmethod.__get__") (.ref p) .none (.ref C)) ∧ PySem.W.recIn K p "staticmethod" = some (.ref f :: rest)
  kp : PySem.W.keepIn K (.ref f) = true
theorem getstat {X : Cx} {pins : List (Addr × Obj)} {σ : L2.St} {H : Hp} {s : Shared} {A : Around} {E : Value → Shared → Prop} {C f : Addr} {m : Str} {pl : Sem Bool} {Q : Value × List Value → Shared → Prop} (I : Inv X pins σ H s) (S : StatM X.K C m f)
    (h : ∀ s', Inv X pins σ H s' → Q (.ref f, []) s') : wpAny (model X.prog X.w) A (getMethod (.ref C) m pl) Q E s := by
  obtain ⟨p, rest, e1, e2⟩ := S.fc
  refine PySem.W.method_cls I.kIn S.ga (PySem.W.cls_bind (mc := .type "type") I.kIn S.rd e1 (wpAny_call (PySem.W.sm_get (s := { s with toks := s.toks + 1 }) I.kIn e2 (PySem.W.handed_on rfl ?_))))
  exact h _ (I.tok _)
section
variable {X : Cx} {CX : CXT} {k n : Nat} {f C : Addr} {fd : FuncData} {ps ks : List Str} {sp : Sp} {x m : Str} {e : Expr} {es : List Expr} {t tk : TA} {p pos apos : Pos} {ds : List Value} {dvs : List V} {kws : List Keyword} {g : List Value → List Value → List Value} {gV : List V → List V → List V}
theorem pe_statG {pl : Sem Bool} (S : StatM X.K C m f) (F : FnG X.prog X.w X.K X.mg X.base CX0 k f fd ps sp) (hb : Binds X.K fd ps ds) (hd : Vals dvs ds) (hr : Room k X.A) (hc : Calm X.A) (hg : Gl X x) (hm : X.mg x = some (.ref C)) (ha : PA X (e :: es) t) (hdb : (x == ("__debug__" : Str)) = false := by decide)
    (hst : starEach (e :: es) X.env = (false, eval e X.env) :: starEach es X.env := by rfl) (hpl : (backTo pos (starEach es X.env)).any (·.1) = false := by rfl)
    (ht : eval (.Call (.Attribute (.Name x p) m apos) (e :: es) [] pos) X.env = (eval (.Name x p) X.env >>= fun ov => standAt apos.atName >>= fun _ => holding [ov] (getMethod ov m pl) >>= fun fx =>
      callWith pos fx.1 fx.2 (backTo pos (starEach (e :: es) X.env)) (backToKw pos (keywordEach [] X.env))) := by rfl) :
    PE X (.Call (.Attribute (.Name x p) m apos) (e :: es) [] pos) (tCall sp dvs E0 t) := by
  constructor
  intro pins s σ H Q I h
  refine PySem.W.methodCall_KW (pl := pl) (ld_glob I hg hm ?_ hdb) ht
  refine getstat I S fun s1 I1 => ?_
  refine PySem.W.callWith_K (first := []) (h₀ := X.base) I1.ok.mod.kin S.kp (thn (ha.run pos pins s1 σ H _ I1 h) ?_) hst hpl
  rintro us s2 ⟨vs, H2, I2, r, q2⟩
  exact ⟨I2.kIn, runG F hr hc hb hd pass0 I2 r q2⟩
theorem pe_statKG0 {pl : Sem Bool} (S : StatM X.K C m f) (F : FnG X.prog X.w X.K X.mg X.base CX0 k f fd ps sp) (hb : KBn X.K fd ps 0 ks g gV) (hr : Room k X.A) (hc : Calm X.A) (hg : Gl X x) (hm : X.mg x = some (.ref C)) (hkw : PK X kws tk) (hdb : (x == ("__debug__" : Str)) = false := by decide)
    (hall : (backToKw pos (keywordEach kws X.env)).all (·.1.isSome) = true := by rfl) (hks : (backToKw pos (keywordEach kws X.env)).filterMap (·.1) = ks := by rfl)
    (hpl : ((backTo pos (starEach [] X.env)).any (·.1) || (backToKw pos (keywordEach kws X.env)).any (·.1.isNone)) = false := by rfl)
    (ht : eval (.Call (.Attribute (.Name x p) m apos) [] kws pos) X.env = (eval (.Name x p) X.env >>= fun ov => standAt apos.atName >>= fun _ => holding [ov] (getMethod ov m pl) >>= fun fx =>
      callWith pos fx.1 fx.2 (backTo pos (starEach [] X.env)) (backToKw pos (keywordEach kws X.env))) := by rfl) :
    PE X (.Call (.Attribute (.Name x p) m apos) [] kws pos) (tCallKG sp 0 ks.length gV E0 tNil tk) := by
  constructor
  intro pins s σ H Q I h
  refine PySem.W.methodCall_KW (pl := pl) (ld_glob I hg hm ?_ hdb) ht
  refine getstat I S fun s1 I1 => ?_
  refine PySem.W.callWith_KW0 (first := []) (h₀ := X.base) I1.ok.mod.kin S.kp hall (thn (hkw.run pos pins s1 σ H _ I1 h) ?_) hpl
  rintro ws s2 ⟨zs, H2, I2, rz, l1, l2, q2⟩
  refine ⟨I2.kIn, ?_⟩
  rw [hks]
  exact runKG (us := []) (vs := []) F hr hc hb pass0 I2 .nil rz rfl l2 q2
theorem pe_statKG1 {pl : Sem Bool} (S : StatM X.K C m f) (F : FnG X.prog X.w X.K X.mg X.base CX0 k f fd ps sp) (hb : KBn X.K fd ps n ks g gV) (hr : Room k X.A) (hc : Calm X.A) (hg : Gl X x) (hm : X.mg x = some (.ref C)) (ha : PA X (e :: es) t) (hkw : PK X kws tk) (hdb : (x == ("__debug__" : Str)) = false := by decide)
    (hall : (backToKw pos (keywordEach kws X.env)).all (·.1.isSome) = true := by rfl) (hks : (backToKw pos (keywordEach kws X.env)).filterMap (·.1) = ks := by rfl)
    (hpl : ((backTo pos (starEach (e :: es) X.env)).any (·.1) || (backToKw pos (keywordEach kws X.env)).any (·.1.isNone)) = false := by rfl)
    (hst : starEach (e :: es) X.env = (false, eval e X.env) :: starEach es X.env := by rfl)
    (ht : eval (.Call (.Attribute (.Name x p) m apos) (e :: es) kws pos) X.env = (eval (.Name x p) X.env >>= fun ov => standAt apos.atName >>= fun _ => holding [ov] (getMethod ov m pl) >>= fun fx =>
      callWith pos fx.1 fx.2 (backTo pos (starEach (e :: es) X.env)) (backToKw pos (keywordEach kws X.env))) := by rfl) :
    PE X (.Call (.Attribute (.Name x p) m apos) (e :: es) kws pos) (tCallKG sp n ks.length gV E0 t tk) := by
  constructor
  intro pins s σ H Q I h
  refine PySem.W.methodCall_KW (pl := pl) (ld_glob I hg hm ?_ hdb) ht
  refine getstat I S fun s1 I1 => ?_
  refine PySem.W.callWith_KW (first := []) (h₀ := X.base) I1.ok.mod.kin S.kp hall (thn (ha.run pos pins s1 σ H _ I1 h) ?_) hpl hst
  rintro us s2 ⟨vs, H2, I2, r, q2⟩
  refine thn (hkw.run pos pins s2 σ H2 _ I2 q2) ?_
  rintro ws s3 ⟨zs, H3, I3, rz, l1, l2, q3⟩
  refine ⟨I3.kIn, ?_⟩
  rw [hks]
  exact runKG (us := us) (vs := vs) F hr hc hb pass0 I3 r rz l1 l2 q3
end
/-! ### rules told with the written part itself: a comprehension's element may then use them -/
section
variable {X : Cx} {K : PySem.W.Frag} {a e o : Expr} {ta : TE} {p pos : Pos} {f : Str}
theorem ix_tupK (h : X.K = K := by rfl) : IxR X (rIxT K) := h ▸ ix_tup
theorem ix_listK (h : X.K = K := by rfl) : IxR X (rIxL K) := h ▸ ix_list
theorem pe_fldK (he : PE X e ta) (hb : attributeBase e f X.env (eval e X.env) = eval e X.env) (h : X.K = K := by rfl) : PE X (.Attribute e f pos) (tFld K ta f) := h ▸ pe_fld he hb
theorem pe_tupleOfK (hg : Gl X "tuple") (hm : X.mg "tuple" = none) (ha : PE X a ta) (h : X.K = K := by rfl) (na : starEach [a] X.env = (false, eval a X.env) :: starEach [] X.env := by rfl) :
    PE X (.Call (.Name "tuple" p) [a] [] pos) (tThen ta (kTup K)) := h ▸ pe_tupleOf hg hm ha na
theorem op_catAK (h : X.K = K := by rfl) : OpR X (binaryOp .Add) (rCatA K) := h ▸ op_catA
/-- t * k, k from 1 on -/
def rRepP (K : PySem.W.Frag) : R2 := fun x y H Q => ∃ l k xs, x = .ref l ∧ y = .int k ∧ SqT K H l xs ∧ xs ≠ [] ∧ 1 ≤ k ∧ k ≤ 1000 ∧ xs.length ≤ 1000 ∧ (k = 1 → Q (.ref l) H) ∧ (2 ≤ k → ∀ p, H p = none → Q (.ref p) (upd H p (.tup (List.replicate k.toNat xs).flatten)))
theorem op_repPK (h : X.K = K := by rfl) : OpR X (binaryOp .Mult) (rRepP K) := by
  subst h
  intro pins s σ H x y v u Q I rx ry hh
  obtain ⟨l, k, xs, rfl, rfl, hT, ne, h1, h2, hl, q1, q2⟩ := hh
  by_cases e : k = 1
  · exact op_rep01 pins s σ H _ _ v u Q I rx ry ⟨l, k, xs, rfl, rfl, hT, ne, .inr e, fun z => absurd z (by omega), q1⟩
  · exact op_repT pins s σ H _ _ v u Q I rx ry ⟨l, k, xs, rfl, rfl, hT, ne, by omega, h2, hl, q2 (by omega)⟩
def rLenSeq (K : PySem.W.Frag) : List V → Hp → VK → Prop := fun xs H Q => ∃ p ys, xs = [.ref p] ∧ (SqL K H p ys ∨ SqT K H p ys) ∧ Q (.int (ys.length : Nat)) H
theorem call_len_seqK (h : X.K = K := by rfl) : CallR X (.builtin "len") (rLenSeq K) := h ▸ call_len_seq
end
end G3
namespace GL
open PySem PySem.Spec PyProof.Rows L2 PySem.W PySem.Calls

/-! ### a target list with a star: (a, .., *b, .., c) -/
section
variable {prog : Program} {w : World} {A : Around} {E : Value → Shared → Prop} {s : Shared}
/-- a tuple told out to n targets, the one at i starred: the middle becomes a new list behind all there is -/
theorem star_items {a : Addr} {xs : Array Value} {n i : Nat} {Q : List Value → Shared → Prop} (ht : IsTup s.heap a xs) (hh : A.handled = none) (hi : i < n) (hn : n ≤ xs.size + 1) (hz : xs.size ≤ 16384)
    (h : ∀ (h' : Heap) (tk : Nat), (∀ b o, s.heap.get? b = some o → h'.get? b = some o) →
      Q (xs.toList.take i ++ [.ref h'.objs.size] ++ (xs.toList.drop i).drop (xs.size + 1 - n)) { s with heap := h'.push { cls := .type "list", data := .seq ((xs.toList.drop i).take (xs.size + 1 - n)).toArray }, toks := tk }) :
    wpAny (model prog w) A (unpackItems (.ref a) n (some i)) Q E s := by
  have la : a < s.heap.objs.size := by obtain ⟨o, ho, _⟩ := ht; exact Heap.lt_size ho
  have na : a ≠ s.heap.objs.size := Nat.ne_of_lt la
  unfold unpackItems notIterableAtAll
  refine wpAny_bind (wpAny_bind (wpAny_specialOf ht.typeIs slot_tuple_iter.lookup (wpAny_pure ?_)))
  simp only [Bool.false_eq_true, if_false]
  refine wpAny_bind (wpAny_holding (iter_tuple ht (wpAny_bind (wpAny_holding (draw_tuple na i 0 _ _ ⟨_, Heap.get?_push_size _ rfl, rfl, rfl⟩ (ht.push _) (by omega) fun h1 it1 sb1 => ?_)))))
  rw [Nat.zero_add] at it1
  have t1 : IsTup h1 a xs := (ht.push _).extBut sb1.extBut na
  have lI : s.heap.objs.size < h1.objs.size := by obtain ⟨o, ho, _⟩ := it1; exact Heap.lt_size ho
  have la1 : a < h1.objs.size := by obtain ⟨o, ho, _⟩ := t1; exact Heap.lt_size ho
  rw [List.drop_zero]
  have l1 : (xs.toList.take i).length = i := by rw [List.length_take, Array.length_toList]; omega
  rw [if_neg (by omega : ¬ (xs.toList.take i).length < i)]
  refine wpAny_bind (wpAny_holding (kun_collect (s := { s with heap := h1 }) (T := "tuple_iterator") (.inr (.inr (.inr rfl))) (Walks.tuple (A := A.in1) hh s.heap.objs.size a na xs) (fun j u st => st.1.typeIs) (k := i) (by omega) ⟨it1, t1⟩ lI la1 (fun h2 tk k2 => ?_) (by rw [sizeLine_eq]; omega)))
  have l2 : (xs.toList.drop i).length = xs.size - i := by rw [List.length_drop, Array.length_toList]
  have l3 : (xs.toList.drop i).length - (n - 1 - i) = xs.size + 1 - n := by omega
  show wpAny _ _ (if (xs.toList.drop i).length < n - 1 - i then _ else _) _ _ _
  rw [if_neg (by omega)]
  show wpAny _ _ (newList ((xs.toList.drop i).take ((xs.toList.drop i).length - (n - 1 - i))) >>= fun d => pure (xs.toList.take i ++ [d] ++ (xs.toList.drop i).drop ((xs.toList.drop i).length - (n - 1 - i)))) _ _ _
  rw [l3]
  have kp : ∀ b o, s.heap.get? b = some o → h2.get? b = some o := fun b o e => k2 b o (Nat.ne_of_lt (Heap.lt_size e)) (sb1.extBut b o (Nat.ne_of_lt (Heap.lt_size e)) (Heap.get?_push_of_some _ e))
  exact wpAny_bind (wpAny_newList (s := { s with heap := h2, toks := tk }) (wpAny_pure (h h2 tk kp)) (by rw [List.length_take, l2, sizeLine_eq]; omega))
end
section
variable {X : Cx} {es : List Expr} {t : TGs} {m n i k : Nat} {pos : Pos}
/-- (a, .., *b, .., c) = a tuple -/
def gStar (K : PySem.W.Frag) (n i : Nat) (t : TGs) : TG := fun v σ H Q => ∃ a xs, v = .ref a ∧ SqT K H a xs ∧ n ≤ xs.length + 1 ∧ xs.length ≤ 1000 ∧
  ∀ D, H D = none → t (xs.take i ++ [.ref D] ++ (xs.drop i).drop (xs.length + 1 - n)) σ (upd H D (.lst ((xs.drop i).take (xs.length + 1 - n)))) Q
theorem pg_star (hc : X.calm = true) (h : PGs X es t) (hn : (assignEach es X.env).length = n := by rfl) (hst : (assignEach es X.env).findIdx? (·.1) = some i := by rfl) (hi : i < n := by decide) : PG X (.Tuple es k pos) (gStar X.K n i t) := by
  constructor
  intro pins s σ H v u Q I r hw
  obtain ⟨a, xs, rfl, hq, h1, h2, hw⟩ := hw
  cases r
  obtain ⟨its, rv, ht, hz⟩ := I.tuple hq
  have el : its.length = xs.length := rv.length.symm
  rw [assign_Tuple]
  refine wpAny_bind (wpAny_standAt ?_)
  unfold unpack
  rw [hn, hst]
  refine wpAny_bind (wpAny_holding (star_items ht (I.ok.hd hc) hi (by rw [List.size_toArray, el]; exact h1) (by rw [List.size_toArray, el]; omega) fun h' tk kp => ?_))
  have I1 : Inv X pins σ H { s with heap := h', toks := tk } := I.kept kp
  have e3 : its.toArray.toList = its := by simp
  have e4 : its.toArray.size = xs.length := by rw [List.size_toArray, el]
  rw [e3, e4]
  have rd : ∀ j, Vals (xs.drop j) (its.drop j) := fun j => rv.drop j
  have rt : Vals ((xs.drop i).take (xs.length + 1 - n)) ((its.drop i).take (xs.length + 1 - n)) := (rd i).take _
  have I2 : Inv X pins σ (upd H h'.objs.size (.lst ((xs.drop i).take (xs.length + 1 - n)))) ({ s with heap := h'.push { cls := .type "list", data := .seq ((its.drop i).take (xs.length + 1 - n)).toArray }, toks := tk } : Shared) :=
    I1.laid (t' := tk) (fun b o e => Heap.get?_push_of_some _ e) (Nat.le_refl _) ⟨by rw [List.length_take, List.length_drop, sizeLine_eq]; omega, _, 0, rt, Heap.get?_push_size _ rfl⟩
  have r1 : Vals [V.ref h'.objs.size] [Value.ref h'.objs.size] := .cons rfl .nil
  exact h.run pins _ σ _ _ _ Q I2 (((rv.take i).append r1).append ((rd i).drop _)) (hw h'.objs.size (I1.hok.fresh (Nat.le_refl _)))
end

section
variable {X : Cx} {t : TG} {u : TGs} {e : Expr} {es : List Expr} {p : Pos}
theorem pgs_consS (h1 : PG X e t) (h2 : PGs X es u) (hs : (assignEach (.Starred e p :: es) X.env).map (·.2) = assign e X.env :: (assignEach es X.env).map (·.2) := by rfl) : PGs X (.Starred e p :: es) (gCons t u) := by
  constructor
  intro pins s σ H vs us Q I r h
  obtain ⟨v, vr, rfl, h⟩ := h
  cases r with
  | cons r rr =>
    rw [hs]
    exact assignInOrder_cons (thn (h1.run pins s σ H _ _ _ I r h) fun _ s1 ⟨σ1, H1, I1, q1⟩ => h2.run pins s1 σ1 H1 _ _ Q I1 rr q1)
end
/-! ### an own operator: x & y by the class's def -/
section
variable {X : Cx} {CX : CXT} {k : Nat} {f C : Addr} {fd : FuncData} {ps : List Str} {sp : Sp} {E : XK} {op : Operator}
/-- what the class must say of an operator's def -/
structure OpK (K : PySem.W.Frag) (C f : Addr) (d : Str) : Prop where
  sf : PySem.W.selfFirst K C = true
  at_ : PySem.W.findIn K (.ref C) d = some (some (.ref f))
  fn : PySem.W.isFn K (.ref f) = true
/-- both sides instances of the class at C; the answer is an object -/
def rOwn (C : Addr) (sp : Sp) (E : XK) : R2 := fun x y H Q => ∃ a dx fs b dy gs, x = .ref a ∧ y = .ref b ∧ H a = some (.ins C dx fs) ∧ H b = some (.ins C dy gs) ∧ sp [.ref a, .ref b] H (fun v H2 => (∃ r, v = .ref r) ∧ Q v H2) E
theorem op_own {d : Str} (o : OpK X.K C f d) (hd : (PySem.dunder op.info.2 : Str) = d) (F : FnG X.prog X.w X.K X.mg X.base CX k f fd ps sp) (hr : Room k X.A) (hc : Calm X.A) (hb : Binds X.K fd ps []) (hx : Passes CX X E) : OpR X (binaryOp op) (rOwn C sp E) := by
  intro pins s σ H x y v u Q I rx ry h
  obtain ⟨a, dx, fs, b, dy, gs, rfl, rfl, ha, hbb, q⟩ := h
  obtain rfl : v = .ref a := rx
  obtain rfl : u = .ref b := ry
  obtain ⟨mA, OA, _⟩ := ins_get I.hok ha
  obtain ⟨mB, OB, _⟩ := ins_get I.hok hbb
  obtain ⟨odA, IA, _⟩ := OA.look
  obtain ⟨odB, IB, _⟩ := OB.look
  obtain ⟨m, fr⟩ := I.fr
  refine PySem.W.binop_K fr I.ok.mod.kin IA (IB.type) o.sf (hd ▸ o.at_) o.fn ?_
  refine wpAny_mono (runG (us := [.ref a, .ref b]) (vs := [.ref a, .ref b]) F hr hc hb .nil hx I (.cons rfl (.cons rfl .nil)) q) (fun u s1 hu => ?_) fun _ _ z => z
  obtain ⟨v, H1, I1, rv, ⟨r, rfl⟩, q1⟩ := hu
  obtain rfl : u = .ref r := rv
  exact ⟨V.ref r, H1, I1, rfl, q1⟩
end

/-! ### defs with *names, where no guard is under way -/
def FnRG (P : Program) (w : World) (K : PySem.W.Frag) (mg : Str → Option Value) (base : Heap) (CX : CXT) (k : Nat) (f : Addr) (sp : Sp) : Prop :=
  ∀ (A : Around) (outer : List Env) (s : Shared) (H : Hp) (us : List Value) (vs : List V) (Q : VK) (E : XK), Room k A → Calm A → Env0 P w K mg base A outer s H → Vals vs us → sp vs H Q E →
    codeAny (model P w) A (.call (.ref f) ⟨us, []⟩) (CR CX outer P w H s Q E) s
section
variable {P : Program} {w : World} {K : PySem.W.Frag} {mg : Str → Option Value} {base : Heap} {k : Nat} {f : Addr} {name qual pv : Str} {params : Arguments} {body : List Stmt} {scope : Scope} {dV kV doc pm cdv ct oc : Value} {an od : Option Addr}
  {osl : Array (Option Value)} {N ps : List Str} {sp : Sp}
/-- def f(a, .., *v) -/
theorem fn_starG (lk : K.lookup f = some ⟨oc, od, .func (PySem.W.fnOf name qual params body scope dV kV doc pm an cdv ct), osl⟩) (hcd : PySem.W.codeIn K cdv qual = true) (S : FnScope N (ps ++ [pv]) scope)
    (hb : ∀ us rest : List Value, us.length = ps.length → bindArgs (PySem.W.fnOf name qual params body scope dV kV doc pm an cdv ct) ⟨us ++ rest, []⟩ = (newTuple rest >>= fun t => pure (ps.zip us ++ [(pv, t)])))
    (walk : ∀ (cdv : Value) (A : Around) (outer : List Env) (s : Shared) (H : Hp) (vs : List V) (Q : VK) (E : XK), Room k (A.deeper (envOfC qual scope s.heap.objs.size f cdv)) → Calm (A.deeper (envOfC qual scope s.heap.objs.size f cdv)) → sp vs H Q E →
      ∃ t, PSs (cxOf CX0 P w K mg base N qual scope f cdv A outer s H E).nox body t ∧ t { nx := fun _ H' => Q .non H', rt := Q } (start N vs) H) :
    FnRG P w K mg base CX0 (k + 1) f (fun vs H Q E => ∃ ws rest, vs = ws ++ rest ∧ ws.length = ps.length ∧ rest.length ≤ sizeLine ∧ ∀ p, H p = Option.none → sp (ws ++ [V.ref p]) (upd H p (.tup rest)) Q E) := by
  intro A outer s H us vs Q E hr hc e0 r hsp
  obtain ⟨ws, rest, rfl, hl, hz, hq⟩ := hsp
  obtain ⟨u1, u2, rfl, r1, r2⟩ := StX.vals_split r
  have free : H s.heap.objs.size = Option.none := e0.hok.fresh (Nat.le_refl _)
  have m1 : u1.length = ps.length := r1.length.symm.trans hl
  have m2 : u2.length ≤ sizeLine := r2.length ▸ hz
  refine StX.run_bnd lk hcd S hr e0 (G := fun xs H2 => ∃ p, H p = Option.none ∧ xs = ws ++ [V.ref p] ∧ H2 = upd H p (.tup rest)) (fun A' Ex Q' h => ?_) fun s2 H2 xs g hr' => ?_
  · rw [hb u1 u2 m1]
    refine wpAny_bind (wpAny_newTuple (wpAny_pure ?_) m2)
    have new : ObjOk P w (upd H s.heap.objs.size (.tup rest)) (s.heap.push ({ cls := .type "tuple", data := .seq u2.toArray } : Obj)) s.heap.objs.size (.tup rest) := ⟨hz, u2, r2, ⟨_, Heap.get?_push_size _ rfl, rfl, _, rfl⟩⟩
    have rr : Vals (ws ++ [V.ref s.heap.objs.size]) (u1 ++ [Value.ref s.heap.objs.size]) := r1.append (.cons rfl .nil)
    have z := h _ _ _ _ (StX.env0_laid e0 new) (StX.un_laid free) rfl (fun e s' f => f) rr (by rw [List.length_append, List.length_append, hl] <;> rfl) ⟨_, free, rfl, rfl⟩
    rw [List.zip_append m1.symm] at z
    exact z
  · obtain ⟨p, hp, rfl, rfl⟩ := g
    obtain ⟨t, d, q⟩ := walk cdv A outer s2 _ _ Q E hr' (hc.deeper _) (hq p hp)
    exact ⟨t, d.nox, q⟩
end
section
variable {X : Cx} {CX : CXT} {k : Nat} {f C : Addr} {sp : Sp} {E : XK} {m : Str} {pos apos : Pos} {e o : Expr} {es : List Expr} {ta : TE} {t : TA}
theorem FnRG.up {P : Program} {w : World} {K : PySem.W.Frag} {mg : Str → Option Value} {base : Heap} {j : Nat} (F : FnRG P w K mg base CX j f sp) (h : j ≤ k) : FnRG P w K mg base CX k f sp := fun A outer s H us vs Q E r => F A outer s H us vs Q E (r.mono h)
theorem runRG {pins : List (Addr × Obj)} {σ : L2.St} {H : Hp} {s : Shared} {Q : VK} {us : List Value} {vs : List V} (F : FnRG X.prog X.w X.K X.mg X.base CX k f sp) (hr : Room k X.A) (hc : Calm X.A) (hx : Passes CX X E) (I : Inv X pins σ H s) (r : Vals vs us) (h : sp vs H Q E) :
    wpAny (model X.prog X.w) X.A (call (.ref f) us) (EP X pins σ Q) X.xe s := by
  refine wpAny_call (codeAny_mono (F X.A X.stack s H us vs Q E hr hc I.env0 r h) fun r' s' q => ?_)
  have z := out_of hx I r' s' q
  match r', z with
  | .error _, z => exact z
  | .ok (.ret _), z => exact z
/-- o.m(e, ..), m with *names -/
theorem pe_methRG {pl : Sem Bool} (he : PE X o ta) (c : Cls X.K C) (hm : Meth X.K C m f) (F : FnRG X.prog X.w X.K X.mg X.base CX k f sp) (hr : Room k X.A) (hc : Calm X.A) (hx : Passes CX X E)
    (ha : PA X (e :: es) t) (hst : starEach (e :: es) X.env = (false, eval e X.env) :: starEach es X.env := by rfl) (hpl : (backTo pos (starEach es X.env)).any (·.1) = false := by rfl)
    (ht : eval (.Call (.Attribute o m apos) (e :: es) [] pos) X.env = (eval o X.env >>= fun ov => standAt apos.atName >>= fun _ => holding [ov] (getMethod ov m pl) >>= fun fx =>
      callWith pos fx.1 fx.2 (backTo pos (starEach (e :: es) X.env)) (backToKw pos (keywordEach [] X.env))) := by rfl) :
    PE X (.Call (.Attribute o m apos) (e :: es) [] pos) (tMeth C m sp [] E ta t) := by
  constructor
  intro pins s σ H Q I h
  refine PySem.W.methodCall_KW (pl := pl) (thn (he.run pins s σ H _ I h) ?_) ht
  rintro u s1 ⟨_, H1, I1, rx, a, dx, fs, rfl, ea, l, q⟩
  obtain rfl : u = .ref a := rx
  refine getmeth_ok I1 ea c hm l (PySem.W.callWith_K (first := [.ref a]) (h₀ := X.base) I.ok.mod.kin hm.kp (thn (ha.run pos pins s1 σ H1 _ I1 q) ?_) hst hpl)
  rintro us s2 ⟨vs, H2, I2, r, q2⟩
  rw [List.append_nil] at q2
  exact ⟨I2.kIn, runRG (us := .ref a :: us) (vs := .ref a :: vs) F hr hc hx I2 (.cons rfl r) q2⟩
/-- o.m() -/
theorem pe_methRG0 {pl : Sem Bool} (he : PE X o ta) (c : Cls X.K C) (hm : Meth X.K C m f) (F : FnRG X.prog X.w X.K X.mg X.base CX k f sp) (hr : Room k X.A) (hc : Calm X.A) (hx : Passes CX X E)
    (ht : eval (.Call (.Attribute o m apos) [] [] pos) X.env = (eval o X.env >>= fun ov => standAt apos.atName >>= fun _ => holding [ov] (getMethod ov m pl) >>= fun fx =>
      callWith pos fx.1 fx.2 (backTo pos (starEach [] X.env)) (backToKw pos (keywordEach [] X.env))) := by rfl) :
    PE X (.Call (.Attribute o m apos) [] [] pos) (tMeth C m sp [] E ta tNil) := by
  constructor
  intro pins s σ H Q I h
  refine PySem.W.methodCall_KW (pl := pl) (thn (he.run pins s σ H _ I h) ?_) ht
  rintro u s1 ⟨_, H1, I1, rx, a, dx, fs, rfl, ea, l, q⟩
  obtain rfl : u = .ref a := rx
  exact getmeth_ok I1 ea c hm l (PySem.W.callWith_K0 (first := [.ref a]) I1.kIn hm.kp (runRG (us := [.ref a]) (vs := [.ref a]) F hr hc hx I1 (.cons rfl .nil) q))
end
end GL
namespace GL
open PySem PySem.Spec PyProof.Rows L2
/-! ### rules told with the written part itself: a comprehension's element may then use them -/
section
variable {X : Cx} {K : PySem.W.Frag} {a e o : Expr} {es : List Expr} {ta to : TE} {t : TA} {p pos apos cpos : Pos} {f name : Str} {id : String} {r : V → List V → Hp → VK → Prop}
theorem pe_tupleOfK (hg : Gl X "tuple") (hm : X.mg "tuple" = none) (ha : PE X a ta) (h : X.K = K := by rfl) (na : starEach [a] X.env = (false, eval a X.env) :: starEach [] X.env := by rfl) :
    PE X (.Call (.Name "tuple" p) [a] [] pos) (tThen ta (kTup K)) := h ▸ pe_tupleOf hg hm ha na
theorem pe_tupleZK (hg : Gl X "tuple") (hm : X.mg "tuple" = none) (ha : PE X a ta) (h : X.K = K := by rfl) (na : starEach [a] X.env = (false, eval a X.env) :: starEach [] X.env := by rfl) :
    PE X (.Call (.Name "tuple" p) [a] [] pos) (tThen ta (kTupZ K)) := h ▸ pe_tupleZ hg hm ha na
theorem pe_fldK (he : PE X e ta) (hb : attributeBase e f X.env (eval e X.env) = eval e X.env) (h : X.K = K := by rfl) : PE X (.Attribute e f pos) (tFld K ta f) := h ▸ pe_fld he hb
theorem pa_starK (he : PE X e to) (hr : PA X es t) (h : X.K = K := by rfl) (hs : starEach (.Starred e p :: es) X.env = (true, eval e X.env) :: starEach es X.env := by rfl) : PA X (.Starred e p :: es) (StX.tStar K to t) := h ▸ StX.pa_star he hr hs
theorem pi_tupK {tg : Expr} (he : PE X e ta) (h : X.K = K := by rfl) : PI X tg e (iTup K ta) := h ▸ pi_tup he
theorem ix_tupK (h : X.K = K := by rfl) : IxR X (rIxT K) := h ▸ ix_tup
theorem mt_tup_indexK (h : X.K = K := by rfl) : MtR X "tuple.index" (fun x xs H Q => ∃ p, ∃ ys : List Str, ∃ z j, x = .ref p ∧ xs = [.str z] ∧ SqT K H p (ys.map V.str) ∧ ys[j]? = some z ∧ (∀ m, m < j → ys[m]? ≠ some z) ∧ Q (.int (j : Nat)) H) := h ▸ mt_tup_index
theorem pe_bmZK (slot : Slot "tuple" name id) (hty : typeOf (.builtin id) = pure (.type "method_descriptor")) (hm : MtR X id r) (ho : PE X o to) (ha : PA X (e :: es) t) (h : X.K = K := by rfl)
    (hbase : attributeBase o name X.env (eval o X.env) = eval o X.env := by rfl)
    (hfew : ((backTo cpos (starEach (e :: es) X.env)).all (fun x => !x.1) && (backToKw cpos (keywordEach [] X.env)).all (fun x => x.1.isSome)
      && decide ((e :: es).length + ([] : List Keyword).length + (if ([] : List Keyword).isEmpty then 0 else 1) < 30)) = true := by rfl)
    (hline : (apos.endLine == cpos.line) = true := by rfl) (hs : starEach (e :: es) X.env = (false, eval e X.env) :: starEach es X.env := by rfl) (hplain : (backTo cpos (starEach es X.env)).any (·.1) = false := by rfl) :
    PE X (.Call (.Attribute o name apos) (e :: es) [] cpos) (tBMZ K r to t) := h ▸ pe_bmZ slot hty hm ho ha hbase hfew hline hs hplain
end
end GL
namespace GL
open PySem PySem.Spec PyProof.Rows L2 PySem.W PySem.Calls
/-! ### enumerate(a tuple) -/
section
variable {prog : Program} {w : World} {A : Around} {E : Value → Shared → Prop} {s : Shared}
theorem nextOf_tup_item {it t : Addr} {i : Nat} {items : Array Value} {x : Value} {Q : Value → Shared → Prop} (hit : IsTupIter s.heap it t i) (ht : IsTup s.heap t items) (hx : items[i]? = some x)
    (hQ : ∀ h', IsTupIter h' it t (i + 1) → Heap.SameBut it s.heap h' → Q x { s with heap := h' }) : wpAny (model prog w) A (Builtin.SmallTypes.nextOf (.ref it)) Q E s := by
  obtain ⟨o, ho, hc, hd⟩ := id hit
  obtain ⟨ol, hol, _, nl, hdl⟩ := ht
  unfold Builtin.SmallTypes.nextOf
  refine wpAny_bind (wpAny_callSpecial?_slot (name := Str.ofString "__next__") hit.typeIs slot_tupleiter_next (wpAny_call_entry slot_tupleiter_next hit.typeIs entry_tupleiter_next ?_ (args_tupleiter_next _)))
  show wpAny _ _ (field (.ref it) 0 >>= _) _ _ s
  refine wpAny_bind (wpAny_field ho hd (x := .ref t) rfl ?_)
  show wpAny _ _ (if (Value.ref t == Value.none) = true then _ else _) _ _ s
  rw [if_neg (show ¬ ((Value.ref t == Value.none) = true) from Bool.false_ne_true)]
  show wpAny _ _ (field (.ref it) 1 >>= _) _ _ s
  refine wpAny_bind (wpAny_field ho hd (x := .int i 0) rfl ?_)
  show wpAny _ _ (seqItems? (.ref t) >>= _) _ _ s
  refine wpAny_bind (wpAny_seqItems hol hdl ?_)
  simp only [Int.toNat_natCast, hx]
  refine wpAny_bind (wpAny_setField ho hd (by simp) (wpAny_pure ⟨x, rfl, wpAny_pure (hQ _ ⟨_, Heap.get?_update_self _ ho (Obj.isFreed_of_fields (Obj.data_mapFields hd _)), (Obj.cls_mapFields ..).trans hc, ?_⟩ (Heap.SameBut.update ..))⟩))
  rw [Obj.data_mapFields hd]
  simp [rawInt]
theorem nextOf_tup_end {it t : Addr} {i : Nat} {items : Array Value} {Q : Value → Shared → Prop} (hh : A.handled = none) (hit : IsTupIter s.heap it t i) (ht : IsTup s.heap t items) (hx : items[i]? = none)
    (hE : ∀ h' e, Heap.ExtBut it s.heap h' → (∃ o, h'.get? e = some o ∧ o.cls = .type "StopIteration") → E (.ref e) { s with heap := h' }) : wpAny (model prog w) A (Builtin.SmallTypes.nextOf (.ref it)) Q E s := by
  obtain ⟨o, ho, hc, hd⟩ := id hit
  obtain ⟨ol, hol, _, nl, hdl⟩ := ht
  unfold Builtin.SmallTypes.nextOf
  refine wpAny_bind (wpAny_callSpecial?_slot (name := Str.ofString "__next__") hit.typeIs slot_tupleiter_next (wpAny_call_entry slot_tupleiter_next hit.typeIs entry_tupleiter_next ?_ (args_tupleiter_next _)))
  show wpAny _ _ (field (.ref it) 0 >>= _) _ _ s
  refine wpAny_bind (wpAny_field ho hd (x := .ref t) rfl ?_)
  show wpAny _ _ (if (Value.ref t == Value.none) = true then _ else _) _ _ s
  rw [if_neg (show ¬ ((Value.ref t == Value.none) = true) from Bool.false_ne_true)]
  show wpAny _ _ (field (.ref it) 1 >>= _) _ _ s
  refine wpAny_bind (wpAny_field ho hd (x := .int i 0) rfl ?_)
  show wpAny _ _ (seqItems? (.ref t) >>= _) _ _ s
  refine wpAny_bind (wpAny_seqItems hol hdl ?_)
  simp only [Int.toNat_natCast, hx]
  refine wpAny_bind (wpAny_rule (wpAny_bind (wpAny_setField ho hd (by simp) ?_)))
  show wpAny _ _ (newExc (.type "StopIteration") [] >>= _) _ _ _
  refine wpAny_bind ?_
  simp only [newExc, newTuple]
  refine wpAny_bind (wpAny_newObj_type ?_ (by size_fits))
  refine wpAny_bind (m := firstArgMember _ _) (wpAny_of_eq (a := Value.none) (by first | rfl | (simp only [firstArgMember]; rfl)) ?_)
  refine wpAny_newObj_type ?_ (by size_fits)
  simp only [raiseNew]
  refine wpAny_bind (wpAny_handled ?_)
  first | rw [show A.in1.handled = none from hh] | rw [hh]
  refine wpAny_bind (wpAny_pure (wpAny_throw ?_))
  exact hE _ _ (((Heap.SameBut.update ..).extBut.push _).push _) ⟨_, Heap.get?_push_size _ rfl, rfl⟩
theorem draws_tup (hh : A.handled = none) (it t : Addr) (hne : t ≠ it) (items : Array Value) : Draws prog w A it [it, t] items.size (fun i v => items[i]? = some v) (fun i h => IsTupIter h it t i ∧ IsTup h t items) where
  live := fun _ _ st => let ⟨o, ho, _⟩ := st.1; ⟨o, ho⟩
  frame := fun _ _ _ st hk => ⟨let ⟨o, ho, r⟩ := st.1; ⟨o, hk it (by simp) o ho, r⟩, let ⟨o, ho, r⟩ := st.2; ⟨o, hk t (by simp) o ho, r⟩⟩
  item := fun i s Q E hi st hQ => nextOf_tup_item st.1 st.2 (x := items[i]) (by simp [hi]) fun h' hit' hs' => hQ _ h' s.toks (by simp [hi]) ⟨hit', st.2.extBut hs'.extBut hne⟩ hs'
  done := fun s Q E st hE => nextOf_tup_end hh st.1 st.2 (by simp) hE
theorem meets_enum_newT (l : Addr) (items : Array Value) (n : Nat) (dct : Option Addr) (sl : Array (Option Value)) :
    Meets (Builtin.«enumerate.__new__» ⟨[.type "enumerate", .ref l], []⟩) (fun _ R s => s.heap.get? l = some { cls := .type "tuple", dict := dct, data := .seq items n, slots := sl } ∧
      R (.ok (.ret (.ref (s.heap.push { cls := .type "tuple_iterator", data := .fields #[.ref l, .int 0 0] }).objs.size)))
        { s with heap := (s.heap.push { cls := .type "tuple_iterator", data := .fields #[.ref l, .int 0 0] }).push { cls := .type "enumerate", data := .fields #[.none, .bool false, .ref s.heap.objs.size, rawInt 0, .none, .none] } }) :=
  .of_wp fun prog w A R s h => by
    obtain ⟨hp, g, d, tk, os⟩ := s
    obtain ⟨hl, h⟩ := h
    have hsub := sub_enumerate
    have hL : IsTup (Shared.heap ⟨hp, g, d, tk, os⟩) l items := ⟨_, hl, rfl, n, rfl⟩
    wp_walk using wpAny_loadPart' hl
    refine wpAny_stack_any fun st => wpAny_pure ?_
    split
    · rename_i c _ _ _ _ _
      cases (c == Value.type "enumerate")
      · wp_walk using wpAny_loadPart' hl, iter_tuple hL
        exact ⟨_, rfl, h⟩
      · wp_walk using wpAny_loadPart' hl, iter_tuple hL
        exact ⟨_, rfl, h⟩
    · wp_walk using wpAny_loadPart' hl, iter_tuple hL
      exact ⟨_, rfl, h⟩
theorem call_enum_tup {l : Addr} {items : Array Value} {Q : Value → Shared → Prop} (hL : IsTup s.heap l items)
    (h : ∀ h', IsEnum h' (s.heap.objs.size + 1) s.heap.objs.size 0 .none → IsTupIter h' s.heap.objs.size l 0 → (∀ b o, s.heap.get? b = some o → h'.get? b = some o) → Q (.ref (s.heap.objs.size + 1)) { s with heap := h' }) :
    wpAny (model prog w) A (call (.type "enumerate") [.ref l]) Q E s := by
  obtain ⟨⟨c, dct, dt, sl⟩, hl, hc, n, hd⟩ := hL
  replace hc : c = .type "tuple" := hc
  replace hd : dt = .seq items n := hd
  subst hc hd
  refine callType_new F.called_enumerate (by decide) (F.typeCall_enumerate_1 _) (F.newCall_enumerate_1 _) (fun obj => F.args_object_init_2 obj _) F.entry_enumerate_new (meets_enum_newT l items n dct sl) ⟨hl, ?_⟩
  have hz : (s.heap.push { cls := .type "tuple_iterator", data := .fields #[.ref l, .int 0 0] }).objs.size = s.heap.objs.size + 1 := Heap.size_push ..
  show _ ∧ _
  rw [hz]
  have he : IsEnum ((s.heap.push { cls := .type "tuple_iterator", data := .fields #[.ref l, .int 0 0] }).push { cls := .type "enumerate", data := .fields #[.none, .bool false, .ref s.heap.objs.size, rawInt 0, .none, .none] }) (s.heap.objs.size + 1) s.heap.objs.size 0 .none := by
    have := Heap.get?_push_size (s.heap.push { cls := .type "tuple_iterator", data := .fields #[.ref l, .int 0 0] }) (o := { cls := .type "enumerate", data := .fields #[.none, .bool false, .ref s.heap.objs.size, rawInt 0, .none, .none] }) rfl
    rw [hz] at this
    exact this
  exact ⟨⟨_, he, rfl⟩, h _ he ⟨_, Heap.get?_push_of_some _ (Heap.get?_push_size _ rfl), rfl, rfl⟩ fun b o x => Heap.get?_push_of_some _ (Heap.get?_push_of_some _ x)⟩
end
section
variable {prog : Program} {w : World} {A : Around} {E : Value → Shared → Prop} {s : Shared}
theorem enum_end_tup {e it t : Addr} {k i : Nat} {n : Int} {items : Array Value} {old : Value} {Q : Option Value → Shared → Prop} (hh : A.handled = none) (he : IsEnum s.heap e it n old) (hit : IsTupIter s.heap it t i) (ht : IsTup s.heap t items) (hx : items[i]? = none)
    (hQ : ∀ h', Heap.ExtBut it s.heap h' → Q none { s with heap := h' }) : wpAny (model prog w) A (pyNext (.ref e)) Q E s := by
  have hT : s.TypeIs (.ref e) "enumerate" := ⟨_, he, rfl⟩
  unfold pyNext
  refine wpAny_bind (wpAny_attempt (wpAny_callSpecial?_slot (name := Str.ofString "__next__") hT F.slot_enumerate_next (wpAny_call_entry F.slot_enumerate_next hT F.entry_enumerate_next ?_ (F.args_enumerate_next_1 _))))
  show wpAny _ _ (field (.ref e) 2 >>= _) _ _ _
  refine wpAny_bind (wpAny_field he rfl (x := .ref it) rfl (wpAny_bind (nextOf_tup_end (A := A.in1) hh hit ht hx fun h' x he' hx' => ?_)))
  obtain ⟨o, ho, hc⟩ := hx'
  exact wpAny_bind (wpAny_isInstance (T := "StopIteration") (b := true) ⟨o, ho, hc⟩ isSubtype_stop (wpAny_pure (hQ _ he')))
end
def Itet (K : PySem.W.Frag) (a : Addr) : It :=
  ⟨fun i H => ∃ (xs : List V) (x : V), SqT K H a xs ∧ xs[i]? = some x, fun i H v H' => ∃ T x, v = .ref T ∧ H T = none ∧ H' = upd H T (.tup [.int (i : Nat), x]) ∧ ∀ xs, SqT K H a xs → xs[i]? = some x, fun i H => ∃ xs : List V, SqT K H a xs ∧ xs.length ≤ i⟩
theorem turn_enumT {P : Program} {w : World} {K : PySem.W.Frag} {elts : List Expr} {kk : Nat} {tpos : Pos} (a e it : Addr) :
    Turn P w K (.Tuple elts kk tpos) (Itet K a) [e, it] e (fun i h => (∃ old, IsEnum h e it ((i : Nat) : Int) old) ∧ IsTupIter h it a i ∧ e ≠ it ∧ a ≠ it ∧ a ≠ e) where
  mem := by simp
  obj := fun i h st b hb => by
    obtain ⟨⟨old, he⟩, ⟨o, ho, hc, hd⟩, _⟩ := st
    rcases (by simpa using hb : b = e ∨ b = it) with rfl | rfl
    · exact ⟨_, he, fun v q => nomatch q⟩
    · exact ⟨o, ho, fun v q => by rw [hd] at q; cases q⟩
  keep := fun i h h' st k => let ⟨⟨old, he⟩, ⟨o, ho, r⟩, hne⟩ := st; ⟨⟨old, k e (by simp) _ he⟩, ⟨o, k it (by simp) o ho, r⟩, hne⟩
  item := by
    intro X hP hw hK hc i pins s σ H E I hf st hg
    subst hP hw hK
    obtain ⟨⟨old, he⟩, hit, hne, nai, nae⟩ := st
    obtain ⟨xs, x, hq, hx⟩ := hg
    obtain ⟨its, rv, p, hz⟩ := I.tuple hq
    obtain ⟨u, hu, ru⟩ := rv.get hx
    have hel : e < s.heap.objs.size := Heap.lt_size he
    have hil : it < s.heap.objs.size := by obtain ⟨_, q, _⟩ := hit; exact Heap.lt_size q
    have li : i < its.toArray.size := by rw [List.size_toArray]; exact (List.getElem?_eq_some_iff.mp hu).1
    refine wpAny_pyNext_enum_itemD (draws_tup (A := X.A.in1) (I.ok.hd hc) it a nai its.toArray) he ⟨hit, p⟩ li hne (by simp [hne, Ne.symm nae]) fun y h' tk hy ho st' hT hsz hk => ?_
    have ey : y = u := Option.some.inj (hy.symm.trans (by simpa using hu))
    subst ey
    refine ⟨_, rfl, wpAny_letOwnedTupleGo_enum (s := { s with heap := h', toks := tk + 1 }) ho fun h'' he' sb => ?_⟩
    have hT2 : h''.get? s.heap.objs.size = some { cls := .type "tuple", data := .seq #[.int i tk, y] } := (sb.2 _ (Nat.ne_of_gt hel)).trans hT
    have new : ObjOk X.prog X.w (upd H s.heap.objs.size (.tup [.int (i : Nat), x])) h'' s.heap.objs.size (.tup [.int (i : Nat), x]) :=
      ⟨by show 2 ≤ sizeLine; decide, [.int i tk, y], .cons ⟨_, rfl⟩ (.cons ru .nil), ⟨_, hT2, rfl, _, rfl⟩⟩
    have I1 : Inv X pins σ (upd H s.heap.objs.size (.tup [.int (i : Nat), x])) { s with heap := h'', toks := tk + 1 } :=
      I.turnedNew (ch := [e, it]) (fun b ob hb q => (sb.2 b (fun z => hb (by simp [z]))).trans (hk b ob (fun z => hb (by simp [z])) (fun z => hb (by simp [z])) q)) hf (Nat.le_refl _) new
    refine ⟨.ref s.heap.objs.size, _, I1, rfl, ⟨_, x, rfl, I.hok.fresh (Nat.le_refl _), rfl, fun ys hy => ?_⟩, ⟨⟨y, ?_⟩, ?_, hne, nai, nae⟩, fun b hb => ?_⟩
    · obtain ⟨its2, rv2, p2, _⟩ := I.tuple hy
      have e2 : its2 = its := by
        obtain ⟨o1, g1, _, n1, d1⟩ := p
        obtain ⟨o2, g2, _, n2, d2⟩ := p2
        rw [g1] at g2
        cases g2
        rw [d1] at d2
        injection d2 with d3 _
        exact (List.toArray_inj d3).symm
      rw [e2] at rv2
      rw [rv2.inj rv]
      exact hx
    · have e1 : ((i + 1 : Nat) : Int) = (i : Int) + 1 := by omega
      rw [e1]; exact he'
    · obtain ⟨o, ho', r⟩ := st'.1
      exact ⟨o, (sb.2 it (Ne.symm hne)).trans ho', r⟩
    · have hb' : b < s.heap.objs.size := by
        rcases (by simpa using hb : b = e ∨ b = it) with rfl | rfl
        · exact hel
        · exact hil
      rw [upd_ne (Nat.ne_of_lt hb')]
      exact (hf b hb).1
  done := by
    intro X hP hw hK hc i pins s σ H E I hf st hg
    subst hP hw hK
    obtain ⟨⟨old, he⟩, hit, hne, nai, nae⟩ := st
    obtain ⟨xs, hq, hx⟩ := hg
    obtain ⟨its, rv, p, hz⟩ := I.tuple hq
    obtain ⟨f0, f1, f2, f3, f4, f5⟩ := hf it (by simp)
    have hl := rv.length
    exact enum_end_tup (k := 0) (I.ok.hd hc) he hit p (by simp; omega) fun h' eb => ⟨rfl, I.turned (t' := s.toks) (fun b o hb q => eb b o hb q) f0 f1 f3 f4 f5⟩
  self := fun A i s Q E st h => let ⟨⟨_, he⟩, _⟩ := st; wpAny_pyIter_enum he h
def iEnumT (K : PySem.W.Frag) (ta : TA) : TI := fun σ H R => ta σ H fun vs H1 => ∃ a xs, vs = [.ref a] ∧ SqT K H1 a xs ∧ R (Itet K a) H1
theorem pi_enumT {X : Cx} {e : Expr} {ta : TA} {p pos tpos : Pos} {elts : List Expr} {kk : Nat} (hg : Gl X "enumerate") (hm : X.mg "enumerate" = none) (ha : PA X [e] ta) (hs : starEach [e] X.env = [(false, eval e X.env)] := by rfl) :
    PI X (.Tuple elts kk tpos) (.Call (.Name "enumerate" p) [e] [] pos) (iEnumT X.K ta) := by
  constructor
  intro pins s σ H R I h
  refine Call_ (ld_blt I hg hm boot_enumerate (PyProof.Rows.callWith_type1 (thn (ha.run pos pins s σ H _ I h) fun us s1 hv => ?_) hs rfl))
  obtain ⟨vs, H1, I1, r1, a, xs, rfl, hq, q⟩ := hv
  cases r1 with
  | cons r rr =>
    cases rr
    cases r
    obtain ⟨its, rv, p', hz⟩ := I1.tuple hq
    have la : a < s1.heap.objs.size := by obtain ⟨o, g, _⟩ := p'; exact Heap.lt_size g
    refine call_enum_tup p' fun h' he hit hk => wpAny_pyIter_enum he ?_
    have I2 : Inv X pins σ H1 { s1 with heap := h' } := I1.kept (t' := s1.toks) hk
    refine ⟨s1.heap.objs.size + 1, [s1.heap.objs.size + 1, s1.heap.objs.size], _, _, H1, rfl, I2, turn_enumT a (s1.heap.objs.size + 1) s1.heap.objs.size, ⟨⟨.none, he⟩, hit, Nat.succ_ne_self _, Nat.ne_of_lt la, Nat.ne_of_lt (Nat.lt_succ_of_lt la)⟩, fun b hb => ?_, q⟩
    have hle : s1.heap.objs.size ≤ b := by
      rcases (by simpa using hb : b = s1.heap.objs.size + 1 ∨ b = s1.heap.objs.size) with rfl | rfl
      · exact Nat.le_add_right _ _
      · exact Nat.le_refl _
    exact I1.fpOk hle (I1.hok.fresh hle)
theorem walk_enumT {K : PySem.W.Frag} {a : Addr} {xs : List V} : Walk (Itet K a) xs.length (fun H => SqT K H a xs) (YPair (fun i => some (.int (i : Nat))) (fun i => xs[i]?)) := by
  refine ⟨fun i _ hi q => ⟨xs, xs[i], q, by simp [hi]⟩, fun _ q => ⟨xs, q, Nat.le_refl _⟩, fun i H v H' _ q y => ?_⟩
  obtain ⟨T, x, h1, h2, h3, h4⟩ := y
  exact ⟨T, .int (i : Nat), x, h1, h2, h3, rfl, h4 xs q⟩
end GL
/-! set(xs) of a list of ints, any of them twice -/
namespace L2
open PySem PySem.Spec PyProof.Rows
/-- the set that has just been made -/
abbrev bare (w : World) : Obj := { cls := .type "set", dict := none, data := .set #[] 0 (.fresh 0 0 (!w.params.followText "set-order")) }
section
variable {P : Program} {w : World} {A : Around} {E : Value → Shared → Prop} {s : Shared}
set_option maxHeartbeats 3200000 in
theorem set_of_list {l : Addr} {vs : Array Value} (ns : List Int) {Q : Value → Shared → Prop} (nh : A.handled = none)
    (isL : s.heap.IsList l vs) (are : IntsAre vs.toList ns) (few : ns.length + 1 < scanBound)
    (q : ∀ (h' : Heap) (tk c : Nat), SetR w h' s.heap.objs.size (fun j => decide (j ∈ ns)) c → c ≤ ns.length →
      (∀ b o, s.heap.get? b = some o → h'.get? b = some o) → Q (.ref s.heap.objs.size) { s with heap := h', toks := tk }) :
    wpAny (model P w) A (call (.type "set") [.ref l]) Q E s := by
  have same : vs.size = ns.length := by
    have z := IntsAre.length are
    rw [Array.length_toList] at z
    exact z
  obtain ⟨c, tl, m0⟩ := PySem.F.called_set.mro
  have m1 := PySem.F.called_set.made
  have m2 := PySem.F.called_set.sub
  refine wpAny_call (codeAny_of_tree ?_)
  show wpAny _ _ (callAny (.type "set") _) _ _ _
  refine wpAny_pure ⟨Code.quiet_builtin _ (by decide +kernel),
    codeAny_builtin PySem.F.entry_type_call ?_⟩
  rw [Around.under_plain (weight_type_call_type "set" [.ref l] [])
    rfl]
  have m3 := PySem.F.called_set.notType
  have m4 := PySem.F.called_set.canCreate
  have m5 := PySem.F.typeCall_set_1 (.ref l)
  repeat (any_goals (first | assumption | wp_step))
  refine codeAny_mono (code_set_led1 (.ref l) (E := E)
    (Q₁ := fun ob t => ob = .ref s.heap.objs.size ∧ t = { s with heap := s.heap.push (bare w) }) ⟨rfl, rfl⟩) fun r t hr => ?_
  cases r with
  | error e => exact hr
  | ok fl =>
    cases fl with
    | ret ob =>
      obtain ⟨rfl, rfl⟩ := hr
      have atS : (s.heap.push (bare w)).get? s.heap.objs.size = some (bare w) := Heap.get?_push_size _ rfl
      have tyS : Shared.TypeIs { s with heap := s.heap.push (bare w) } (.ref s.heap.objs.size) "set" := ⟨_, atS, rfl⟩
      have i1 := PySem.F.called_set.init.lookup
      have i2 := PySem.F.called_set.init.bind (.ref s.heap.objs.size)
      repeat (any_goals (first | assumption | wp_step))
      refine codeAny_mono (codeAny_call_builtin (R := wants (fun r t => r = .none ∧ ∃ h' tk c, t = { s with heap := h', toks := tk } ∧
          SetR w h' s.heap.objs.size (fun j => decide (j ∈ ns)) c ∧ c ≤ ns.length ∧ (∀ b o, s.heap.get? b = some o → h'.get? b = some o)) E)
        PySem.F.called_set.init.plain PySem.F.entry_set_init (check_set_init_1 tyS ?_)) fun r2 t2 hr2 => ?_
      · obtain ⟨ol, e0, e1, nl, e2⟩ := isL
        obtain ⟨oc, od, dat, osl⟩ := ol
        simp only at e1 e2
        subst e1
        subst e2
        have e3 : (s.heap.push (bare w)).get? l = some { cls := .type "list", dict := od, data := .seq vs nl, slots := osl } := Heap.get?_push_of_some _ e0
        have b1 := PySem.F.sub_list_set
        have b2 := PySem.F.sub_list_frozenset
        have b3 : (Value.type "list" == Value.type "dict") = false := by decide
        have isL1 : (s.heap.push (bare w)).IsList l vs := ⟨_, e3, rfl, nl, rfl⟩
        unfold Builtin.«set.__init__» noKeywords
        unfold Builtin.Frozenset.updateFrom
        generalize hI : pyIter = PI
        wp_walk
        subst hI
        refine wpAny_pyIter_list isL1 ?_
        refine wpAny_bind (wpAny_runValue ?_)
        have ltS : l < s.heap.objs.size := Heap.lt_size e0
        have nh3 : A.in1.in1.in1.handled = none := by
          simp [nh]
        have nI : l ≠ (s.heap.push (bare w)).objs.size := by
          rw [Heap.size_push]
          exact Nat.ne_of_lt (Nat.lt_succ_of_lt ltS)
        have offS : s.heap.objs.size ∉ [(s.heap.push (bare w)).objs.size, l] := by
          rw [Heap.size_push]
          intro z
          rcases List.mem_cons.mp z with z | z
          · exact absurd z (Nat.ne_of_lt (Nat.lt_succ_self _))
          · exact absurd (List.mem_singleton.mp z) (Nat.ne_of_gt ltS)
        have val : ∀ (i : Nat) (v : Value), vs[i]? = some v → ∃ k t, ns[i]? = some k ∧ v = .int k t := fun i v hv => by
          have hi : i < ns.length := by
            rw [← same]
            exact (Array.getElem?_eq_some_iff.mp hv).1
          obtain ⟨t, e⟩ := PyProof.Rows.IntsAre.int_at are i v (by rw [Array.getElem?_toList]; exact hv)
          refine ⟨ns[i], t, List.getElem?_eq_getElem hi, ?_⟩
          rw [e, List.getD_eq_getElem?_getD, List.getElem?_eq_getElem hi] <;> rfl
        refine set_update_ints ((Walks.list nh3 _ l nI vs).toS) s.heap.objs.size offS ns same few val (vs.size - 0) 0 _ (by omega) (Nat.zero_le _)
          ⟨⟨_, Heap.get?_push_size _ rfl, rfl, rfl⟩, (isL1.push _)⟩ ?g0 ?gR
        case g0 =>
          exact ⟨0, Nat.le_refl 0, setR_new_at (Heap.get?_push_of_some _ atS)⟩
        case gR =>
          intro t' c' mv hc' hS'
          obtain ⟨h', g2, d', tk', os'⟩ := t'
          have z1 : g2 = s.gens := mv.gens
          have z2 : d' = s.drawn := mv.drawn
          have z3 : os' = s.os := mv.os
          subst z1
          subst z2
          subst z3
          show wpAny _ _ _ _ _ _
          refine wpAny_pure ?_
          show wpAny _ _ (ret Value.none) _ _ _
          rw [same] at hc'
          refine wpAny_pure ⟨rfl, h', tk', c', rfl, hS', hc', fun b o e => ?_⟩
          have lb : b < s.heap.objs.size := Heap.lt_size e
          have n2 : b ≠ (s.heap.push (bare w)).objs.size := by
            rw [Heap.size_push]
            exact Nat.ne_of_lt (Nat.lt_succ_of_lt lb)
          refine mv.heap b o (fun z => ?_) (Heap.get?_push_of_some _ (Heap.get?_push_of_some _ e))
          rcases List.mem_cons.mp z with z | z
          · exact absurd z (Nat.ne_of_lt lb)
          · exact absurd (List.mem_singleton.mp z) n2
      · cases r2 with
        | error e => exact hr2
        | ok fl2 =>
          cases fl2 with
          | ret r =>
            obtain ⟨rfl, h', tk, c', rfl, hS', hc', hk'⟩ := hr2
            repeat (any_goals (first | assumption | wp_step))
            exact q _ _ _ hS' hc' hk'
          | _ => exact hr2.elim
    | _ => exact hr.elim
end
section
variable {X : Cx}
def rSetI (K : PySem.W.Frag) (w : World) : List V → Hp → VK → Prop := fun xs H Q => ∃ (l : Addr) (ns : List Int), xs = [.ref l] ∧ SqL K H l (ns.map V.int) ∧ ns.length ≤ 1000 ∧
  ∀ (p : Addr) (c : Nat), H p = none → c ≤ ns.length → Q (.ref p) (upd H p (SetO w p (fun j => decide (j ∈ ns)) c))
theorem cr_setI (hc : X.calm = true) : CallR X (.type "set") (rSetI X.K X.w) := by
  intro pins s σ H xs us Q I r h
  obtain ⟨l, ns, rfl, hs, hl, q⟩ := h
  obtain ⟨its, rv, pl, _⟩ := I.list hs
  rw [Vals.ref1 r]
  refine set_of_list ns (I.ok.hd hc) pl.isList (show IntsAre its.toArray.toList ns from ints_of_vals rv) (by unfold scanBound; omega) fun h' tk c hS hcn hk => ?_
  exact ⟨.ref _, upd H s.heap.objs.size (SetO X.w s.heap.objs.size (fun j => decide (j ∈ ns)) c), I.laid (t' := tk) (fun b u e => hk b u e) (Nat.le_refl _) (setO_new hS), rfl, q _ c (I.hok.fresh (Nat.le_refl _)) hcn⟩
end
end L2
namespace GL
open PySem PySem.Spec PyProof.Rows L2
section
variable {X : Cx} {K : PySem.W.Frag} {o e : Expr} {es : List Expr} {to ta : TE} {t : TA} {name : Str} {apos cpos : Pos} {Ty id : String} {r : V → List V → Hp → VK → Prop}
theorem pe_bmK (pa : PlainAttrs Ty) (slot : Slot Ty name id) (hty : typeOf (.builtin id) = pure (.type "method_descriptor")) (hm : MtR X id r) (ho : PE X o to) (ha : PA X (e :: es) t) (h : X.K = K := by rfl)
    (hbase : attributeBase o name X.env (eval o X.env) = eval o X.env := by rfl)
    (hfew : ((backTo cpos (starEach (e :: es) X.env)).all (fun x => !x.1) && (backToKw cpos (keywordEach [] X.env)).all (fun x => x.1.isSome)
      && decide ((e :: es).length + ([] : List Keyword).length + (if ([] : List Keyword).isEmpty then 0 else 1) < 30)) = true := by rfl)
    (hline : (apos.endLine == cpos.line) = true := by rfl) (hs : starEach (e :: es) X.env = (false, eval e X.env) :: starEach es X.env := by rfl) (hplain : (backTo cpos (starEach es X.env)).any (·.1) = false := by rfl) :
    PE X (.Call (.Attribute o name apos) (e :: es) [] cpos) (tBM K Ty r to t) := h ▸ pe_bm pa slot hty hm ho ha hbase hfew hline hs hplain
theorem mt_indexK (h : X.K = K := by rfl) : MtR X "list.index" (rIndex K) := h ▸ mt_index
theorem pi_listK {tg : Expr} (he : PE X e ta) (h : X.K = K := by rfl) : PI X tg e (iList K ta) := h ▸ pi_list he
end
end GL
namespace GL
open PySem PySem.Spec PyProof.Rows L2
/-! ### list.count, flat items -/
section
variable {X : Cx}
theorem count_of {y : V} : ∀ {ys : List V} {us : List Value}, Vals ys us → ys.all flatV = true → us.countP (eqU y) = ys.countP fun z => eqV z y
  | _, _, .nil, _ => rfl
  | _, _, .cons (a := z) (b := u) r rr, f => by
    rw [List.all_cons, Bool.and_eq_true] at f
    have ih := count_of (y := y) rr f.2
    rw [List.countP_cons, List.countP_cons, ih, eqU_of r f.1]
def rCntF (K : PySem.W.Frag) : V → List V → Hp → VK → Prop := fun x xs H Q => ∃ (a : Addr) (ys : List V) (y : V), x = V.ref a ∧ xs = [y] ∧ SqL K H a ys ∧ flatV y = true ∧ ys.all flatV = true ∧ Q (.int ((ys.countP fun z => eqV z y : Nat) : Int)) H
theorem mt_countF : MtR X "list.count" (rCntF X.K) := by
  intro pins s σ H x xs v us Q I rx rxs h
  obtain ⟨a, ys, y, rfl, rfl, hs, fy, fys, q⟩ := h
  cases rx
  cases rxs with
  | cons ry rt =>
    rename_i uy ut
    cases rt
    obtain ⟨its, rv, ⟨⟨cls, dd, data, sl⟩, n, ho, hc, hdn, hd⟩, hlen⟩ := I.list hs
    simp only at hc hd
    subst hc hd
    refine call_meets PySem.F.slot_list_count ⟨_, ho, rfl⟩ PySem.F.entry_list_count (PySem.F.args_list_count_2 _ _)
      (SeqAt.list_countAt a its.toArray n dd sl uy (eqU y)) ⟨ho, fun u' hu' => mem_eqAt ry fy rv fys u' (by simpa using hu'), ?_⟩
    have ec : its.toArray.toList.countP (eqU y) = ys.countP fun z => eqV z y := count_of rv fys
    refine ⟨.int ((ys.countP fun z => eqV z y : Nat) : Int), H, I.tok _, ⟨s.toks, ?_⟩, q⟩
    show Value.int ((its.toArray.toList.countP (eqU y) : Nat) : Int) s.toks = _
    rw [ec]
end
end GL
namespace NK04
open PySem PySem.Spec PyProof.Rows L2 GL
def topS (i : Nat) : Stmt := PySem.Challenge.pw_whateverboxes_k04_kernels.main.body.getD i (.Pass ⟨0, 0, 0, 0⟩)
/-! the built-ins that the text uses are still the built-ins -/
structure Bl (mg : Str → Option Value) : Prop where
  int : mg "int" = none
  len : mg "len" = none
  range : mg "range" = none
  tuple : mg "tuple" = none
  list : mg "list" = none
  abs : mg "abs" = none
  any : mg "any" = none
  zip : mg "zip" = none
  enumerate : mg "enumerate" = none
  repr : mg "repr" = none
  max : mg "max" = none
  min : mg "min" = none
  bool : mg "bool" = none
  isinstance : mg "isinstance" = none
  sum : mg "sum" = none
end NK04
namespace NK04
open PySem PySem.Spec PyProof.Rows L2 RZ GL GT
def wd : List (List Int) → Nat
  | [] => 0
  | l :: _ => l.length
def spWidth (K : PySem.W.Frag) : Sp := fun vs H Q _ => ∃ (a : Addr) (xs : List V) (T : List (List Int)), vs = [.ref a] ∧ SqT K H a xs ∧ Rw K H xs T ∧ Q (.int (wd T : Nat)) H
def spLess (K : PySem.W.Frag) : Sp := fun vs H Q _ => ∃ (a b : Addr) (ns ms : List Int) (t : Int) (c d : Nat), vs = [.ref a, .ref b, .int t] ∧ SqT K H a (ns.map V.int) ∧ SqT K H b (ms.map V.int) ∧ ns.length = ms.length ∧ ns.length ≤ 1000 ∧ t.natAbs ≤ 2 ^ c ∧ Bd (2 ^ d) ms ∧ c + d + 2 ≤ 134217728 ∧
  ∀ p H', Same H H' → H' p = some (.tup ((lessI ns ms t).map V.int)) → Q (.ref p) H'
section
variable {P : Program} {w : World} {K : PySem.W.Frag} {mg : Str → Option Value} {base : Heap}
abbrev s_width : Stmt := topS 4
theorem sc_width : FnScope ["table"] ["table"] (defScope s_width) := ⟨rfl, rfl, rfl, by decide +kernel, rfl, by decide +kernel, by decide +kernel⟩
theorem ok_width {f : Addr} {fd : FuncData} (F : Fun K "_width" "_width" s_width f fd) (gl : mg "_width" = some (.ref f)) (T : Bl mg) : DefG P w K mg base 1 "_width" ["table"] (spWidth K) := by
  refine def_mk F gl (F.binds fun _ _ _ _ _ _ us hl => match us, hl with | [_], _ => rfl) (okG F sc_width (fun vs H Q E h => ?_) fun cdv A outer s H vs Q E hr hc h => ?_)
  · obtain ⟨a, xs, T, rfl, _⟩ := h
    rfl
  · obtain ⟨a, xs, Tb, rfl, hA, hR, q⟩ := h
    have nd := sc_width.nd
    refine ⟨_, (pss_one (ps_ret (pe_ifExp (pt_truth (pv 0) (fun _ => rfl)) (pe_callB call_len_seq (by rfl) T.len boot_len (pa_cons (pe_ix ix_tup (pv 0) pe_int (fun _ _ => rfl)) pa_nil)) pe_int))), ?_⟩
    refine ⟨_, rfl, _, .inr (.inl ⟨xs, hA, rfl⟩), ?_⟩
    cases hR with
    | nil => exact q
    | cons h r =>
      refine ⟨_, rfl, a, _, 0, _, rfl, rfl, hA, at0, _, _, rfl, .inr h, ?_⟩
      rw [List.length_map]
      exact q
abbrev s_less : Stmt := topS 5
theorem sc_less : FnScope ["row", "other", "times", "one", "two"] ["row", "other", "times"] (defScope s_less) := ⟨rfl, rfl, rfl, by decide +kernel, rfl, by decide +kernel, by decide +kernel⟩
theorem ok_less {f : Addr} {fd : FuncData} (F : Fun K "_less" "_less" s_less f fd) (gl : mg "_less" = some (.ref f)) (T : Bl mg) : DefG P w K mg base 1 "_less" ["row", "other", "times"] (spLess K) := by
  refine def_mk F gl (F.binds fun _ _ _ _ _ _ us hl => match us, hl with | [_, _, _], _ => rfl) (okG F sc_less (fun vs H Q E h => ?_) fun cdv A outer s H vs Q E hr hc h => ?_)
  · obtain ⟨a, b, ns, ms, t, c, d, rfl, _⟩ := h
    rfl
  · obtain ⟨a, b, ns, ms, t, c, d, rfl, hA, hB, el, hl, ht, hd, cd, q⟩ := h
    have nd := sc_less.nd
    refine ⟨_, (pss_one (ps_ret (pe_tupleOf (by rfl) T.tuple (pe_lc (own := [("one", 3), ("two", 4)]) (g := (gTup K 2 (gCons (gName 3) (gCons (gName 4) gNil)))) (tt := tYes) rfl nd (pi_zipA (by rfl) T.zip (pa_cons (pv 0) (pa_cons (pv 1) pa_nil))) (blkOk_by (own := [("one", 3), ("two", 4)]) (N := ["row", "other", "times", "one", "two"]) (sc := defScope s_less) (by decide +kernel)) (fun _ _ _ _ _ => (pg_tup rfl (pgs_cons (pg_name (i := 3) nd rfl (by first | exact Or.inl rfl | exact Or.inr rfl)) (pgs_cons (pg_name (i := 4) nd rfl (by first | exact Or.inl rfl | exact Or.inr rfl)) pgs_nil)))) (fun _ _ _ _ _ => pts_nil) (fun _ _ _ _ _ => (pe_op op_sub (pv 3) (pe_op op_mulX (pv 2) (pv 4)))))))), ?_⟩
    refine ⟨_, rfl, _, rfl, a, b, _, _, rfl, .inr ⟨hA, hB, fun D nD => ?_⟩⟩
    refine lc_it (walk_zipT (K := K) (a := a) (b := b) (xs := ns.map V.int) (ys := ms.map V.int) (n := ns.length) (by rw [List.length_map, List.length_map]; omega))
      (fun i H2 => Same H H2 ∧ H2 D = some (.lst (((lessI ns ms t).take i).map V.int))) ⟨Same.new nD, upd_same⟩ (fun i H2 _ h => ⟨Same.tup h.1 hA, Same.tup h.1 hB⟩) ?_ ?_
    · rintro i x H2 H3 hi ⟨s2, hD⟩ ⟨tt, u, v, rfl, nt, rfl, f1, f2⟩
      have hi2 : i < ms.length := by omega
      have e1 : u = .int (vec ns i) := Option.some.inj (f1.symm.trans (mapV hi))
      have e2 : v = .int (vec ms i) := Option.some.inj (f2.symm.trans (mapV hi2))
      subst e1 e2
      have nDt : D ≠ tt := ne_of_none hD nt
      refine ⟨tt, _, rfl, tofT upd_same, rfl, _, _, rfl, _, _, rfl, rfl, rfl, ?_⟩
      refine ⟨_, rfl, _, rfl, _, rfl, t, _, rfl, rfl, mulX_ok ht (hd i) cd, _, _, rfl, rfl, _, (by rw [upd_ne nDt]; exact hD), ?_, ?_, ?_⟩
      · rw [List.length_map, List.length_take]; exact smallt (by omega)
      · intro p o hp
        rw [upd_ne (ne_of_none hp nD), upd_ne (ne_of_none (s2 _ _ hp) nt)]
        exact s2 _ _ hp
      · rw [upd_same, List.take_add_one, lessI_at (at_vec hi) (at_vec hi2), List.map_append]
        rfl
    · rintro H2 ⟨s2, hD⟩
      rw [List.take_of_length_le (by rw [lessI_len el]; omega)] at hD
      exact .inl ⟨D, _, rfl, tofL hD, fun p np => q p _ (s2.trans (Same.new np)) upd_same⟩
end
end NK04
namespace NK04
open PySem PySem.Spec PyProof.Rows L2 RZ GL GT
def spGathered (K : PySem.W.Frag) : Sp := fun vs H Q _ => ∃ (a : Addr) (xs : List V) (T : List (List Int)) (c w b : Nat), vs = [.ref a, .int c, .int w] ∧ SqL K H a xs ∧ Rw K H xs T ∧ c < w ∧ w ≤ 900 ∧ T.length ≤ 90000 ∧ (∀ t ∈ T, t.length = w) ∧ (∀ t ∈ T, Bd (2 ^ b) t) ∧ b < 8999 ∧ (b + 2) * (T.length + 3) ≤ 100000000 ∧
  ∀ p l r lead ys rest H', Same H H' → H' p = some (.tup [.ref l, .ref r]) → SqT K H' l (lead.map V.int) → H' r = some (.lst ys) → Rw K H' ys rest → GE w c b T lead rest → Q (.ref p) H'
section
variable {P : Program} {w : World} {K : PySem.W.Frag} {mg : Str → Option Value} {base : Heap}
abbrev s_gathered : Stmt := topS 6
theorem sc_gathered : FnScope ["rows", "column", "width", "lead", "rest", "row", "low", "entry"] ["rows", "column", "width"] (defScope s_gathered) := ⟨rfl, rfl, rfl, by decide +kernel, rfl, by decide +kernel, by decide +kernel⟩
theorem ok_gathered {f : Addr} {fd : FuncData} (F : Fun K "_gathered" "_gathered" s_gathered f fd) (gl : mg "_gathered" = some (.ref f)) (T : Bl mg) (D_less : DefG P w K mg base 1 "_less" ["row", "other", "times"] (spLess K)) : DefG P w K mg base 2 "_gathered" ["rows", "column", "width"] (spGathered K) := by
  refine def_mk F gl (F.binds fun _ _ _ _ _ _ us hl => match us, hl with | [_, _, _], _ => rfl) (okG F sc_gathered (fun vs H Q E h => ?_) fun cdv A outer s H vs Q E hr hc h => ?_)
  · obtain ⟨a, xs, T, c, w, b, rfl, _⟩ := h
    rfl
  · obtain ⟨a, xs, Tb, c, wd, b, rfl, hA, hR, cw, w9, tl, hw, hb, b9, cap, q⟩ := h
    have nd := sc_gathered.nd
    refine ⟨_, (C8.pss_cut (ps_set (i := 3) nd rfl (by first | exact Or.inl rfl | exact Or.inr rfl) (pe_op (G3.op_repPK (K := K)) (pe_tup (pa_cons pe_int pa_nil)) (pv 2)))
      (pss_cons (ps_set (i := 4) nd rfl (by first | exact Or.inl rfl | exact Or.inr rfl) (pe_lst pa_nil))
      (pss_cons (ps_for PassesOwn.never rfl (pi_list (pv 0)) (pg_name (i := 5) nd rfl (by first | exact Or.inl rfl | exact Or.inr rfl))
        (pss_cons (ps_set (i := 6) nd rfl (by first | exact Or.inl rfl | exact Or.inr rfl) (pv 5))
        (pss_cons (ps_while PassesOwn.never (pt_truth (pe_ix ix_tup (pv 6) (pv 1) (fun _ _ => rfl)) (fun _ => rfl))
          (pss_one (ps_par (i := 3) (j := 6) rfl nd rfl rfl (by decide) rfl rfl (pa_cons (pv 6) (pa_cons (pe_def D_less (hr.mono (by decide)) hc (by rfl) (pa_cons (pv 3) (pa_cons (pv 6) (pa_cons (pe_op op_fdivX (pe_ix ix_tup (pv 3) (pv 1) (fun _ _ => rfl)) (pe_ix ix_tup (pv 6) (pv 1) (fun _ _ => rfl))) pa_nil)))) pa_nil)) rfl)))
        (pss_one (ps_expr (pe_bm PySem.F.plainAttrs_list PySem.F.slot_list_append PySem.F.type_list_append mt_append (pv 4) (pa_cons (pv 6) pa_nil)))))))
      (C8.pss_cut (ps_if (pt_cmpR op_lt (pe_ix ix_tup (pv 3) (pv 1) (fun _ _ => rfl)) pe_int (nomark _))
        (pss_one (ps_set (i := 3) nd rfl (by first | exact Or.inl rfl | exact Or.inr rfl) (pe_tupleOf (by rfl) T.tuple (pe_lc (own := [("entry", 7)]) (g := (gName 7)) (tt := tYes) rfl nd (pi_tup (pv 3)) (blkOk_by (own := [("entry", 7)]) (N := ["rows", "column", "width", "lead", "rest", "row", "low", "entry"]) (sc := defScope s_gathered) (by decide +kernel)) (fun _ _ _ _ _ => (pg_name (i := 7) nd rfl (by first | exact Or.inl rfl | exact Or.inr rfl))) (fun _ _ _ _ _ => pts_nil) (fun _ _ _ _ _ => (pe_un un_neg (pv 7)))))))
        pss_nil)
      (pss_one (ps_ret (pe_tup (pa_cons (pv 3) (pa_cons (pe_lc (own := [("row", 5)]) (g := (gName 5)) rfl nd (pi_list (pv 4)) (blkOk_by (own := [("row", 5)]) (N := ["rows", "column", "width", "lead", "rest", "row", "low", "entry"]) (sc := defScope s_gathered) (by decide +kernel)) (fun _ _ _ _ _ => (pg_name (i := 5) nd rfl (by first | exact Or.inl rfl | exact Or.inr rfl))) (fun _ _ _ _ _ => (pts_one (pt_val (pe_callB (cr_anyT (K := K) rfl) (by rfl) T.any boot_any (pa_cons (pv 5) pa_nil))))) (fun _ _ _ _ _ => (pv 5))) pa_nil))))))))), ?_⟩
    have w1 : 1 ≤ wd := by omega
    -- lead = (0,) * width
    refine ⟨fun σ H1 => ∃ p0 lead0, σ = [some (.ref a), some (.int c), some (.int wd), some (.ref p0), none, none, none, none] ∧ Same H H1 ∧ SqT K H1 p0 (lead0.map V.int) ∧ lead0.length = wd ∧ ∀ j, vec lead0 j = 0, ?_, ?_⟩
    · refine ⟨(show 1 ≤ sizeLine from small (by decide)), fun t0 nt0 => ⟨_, rfl, t0, (wd : Nat), [.int 0], rfl, rfl, tofT upd_same, (fun z => nomatch z), by omega, by omega, (show 1 ≤ 1000 by decide), fun k1 => ?_, fun k2 p np => ?_⟩⟩
      · refine ⟨t0, [0], rfl, Same.new nt0, tofT upd_same, by rw [show wd = 1 by omega]; rfl, fun j => ?_⟩
        match j with
        | 0 => rfl
        | j + 1 => rfl
      · have e0 : (List.replicate (wd : Int).toNat [V.int 0]).flatten = (List.replicate wd (0 : Int)).map V.int := by
          rw [Int.toNat_natCast, List.flatten_replicate_singleton, List.map_replicate]
        refine ⟨p, List.replicate wd 0, rfl, (Same.new nt0).trans (Same.new np), tofT (by rw [upd_same, e0]), List.length_replicate, fun j => ?_⟩
        unfold vec
        rw [List.getD_eq_getElem?_getD, List.getElem?_replicate]
        split <;> rfl
    rintro σ1 H1 ⟨p0, lead0, rfl, s1, hp0, ll0, lz0⟩
    -- rest = []
    refine ⟨(show 0 ≤ sizeLine from Nat.zero_le _), fun D nD => ?_⟩
    have nDH : H D = none := s1.free nD
    have sD : Same H (upd H1 D (.lst [])) := s1.trans (Same.new nD)
    have hA' : ∀ H2, Same H H2 → SqL K H2 a xs := fun H2 s2 => by
      rcases hA with (z | ⟨o, z⟩) | z
      · exact .inl (.inl (s2 _ _ z))
      · exact .inl (.inr ⟨o, s2 _ _ z⟩)
      · exact .inr z
    refine ⟨_, rfl, a, rfl, ⟨_, hA' _ sD⟩, ?_⟩
    refine for_list (K := K) (a := a) (xs := xs) (fun i σ H2 => ∃ p lead rest ys v5 v6 v7, σ = [some (.ref a), some (.int c), some (.int wd), some (.ref p), some (.ref D), v5, v6, v7] ∧ Same H H2 ∧ SqT K H2 p (lead.map V.int) ∧ H2 D = some (.lst ys) ∧ Rw K H2 ys rest ∧ GI wd c b Tb i lead rest)
      ⟨p0, lead0, [], [], none, none, none, rfl, sD, Same.tup (Same.new nD) hp0, upd_same, .nil, GI.nil ll0 lz0⟩ (fun i σ H2 _ ⟨_, _, _, _, _, _, _, _, s2, _⟩ => hA' H2 s2) ?_ ?_
    · rintro i x σ H2 hi ⟨p, lead, rest, ys, v5, v6, v7, rfl, s2, hp, hD, hys, G⟩
      obtain ⟨pr, R0, rfl, hTi, hpr⟩ := hR.get hi
      have hpr2 := Same.tup s2 hpr
      have mT := List.mem_of_getElem? hTi
      obtain ⟨K1, hK, W0⟩ := G.start hTi (hw _ mT) (hb _ mT)
      refine ⟨_, rfl, ?_⟩
      refine ⟨fun m σ H3 => ∃ p1 p2 l1 l2 v7, σ = [some (.ref a), some (.int c), some (.int wd), some (.ref p1), some (.ref D), some (.ref pr), some (.ref p2), v7] ∧ Same H2 H3 ∧ SqT K H3 p1 (l1.map V.int) ∧ SqT K H3 p2 (l2.map V.int) ∧ WI wd c b (En b (zc c (Tb.take (i + 1)))) K1 lead R0 l1 l2 ∧ m = (vec l2 c).natAbs,
        ⟨_, p, pr, lead, R0, v7, rfl, Same.refl _, hp, hpr2, W0, rfl⟩, ?_⟩
      rintro m σ H3 ⟨p1, p2, l1, l2, u7, rfl, s3, h1, h2, W, rfl⟩
      have at2 := atV (l := l2) (j := c) (by rw [W.l2]; exact cw)
      have at1 := atV (l := l1) (j := c) (by rw [W.l1]; exact cw)
      refine ⟨_, rfl, _, rfl, p2, _, c, _, rfl, rfl, h2, at2, _, rfl, ite2 (fun e => ?_) (fun e => ?_)⟩
      · have hn : vec l2 c ≠ 0 := by simpa using e
        obtain ⟨qb, lt, W'⟩ := W.step hK hn
        obtain ⟨x, y, bx, by', xX, yX, _⟩ := W.bd
        have hE : En b (zc c (Tb.take (i + 1))) ≤ 2 ^ (b + (b + 2) * (Tb.length + 1)) := by
            have z1 := zc_le (c := c) (S := Tb.take (i + 1))
            rw [List.length_take] at z1
            exact Nat.pow_le_pow_right (by decide) (Nat.add_le_add_left (Nat.mul_le_mul_left _ (by omega)) _)
        refine ⟨_, fun σ' H' q' => q', ?_⟩
        refine ⟨_, rfl, _, rfl, _, rfl, _, rfl, _, rfl, p1, _, c, _, rfl, rfl, h1, at1, _, rfl, _, rfl, p2, _, c, _, rfl, rfl, h2, at2, _, _, rfl, rfl, divX hn W.b2 b9, p1, p2, l1, l2, _, b + 1, b + (b + 2) * (Tb.length + 1), rfl, h1, h2, by rw [W.l1, W.l2], by rw [W.l1]; omega, qb, by'.mono (Nat.le_trans yX hE), ?_, fun pn H4 s4 hpn => ?_⟩
        · have e3 : (b + 2) * (Tb.length + 3) = (b + 2) * (Tb.length + 1) + 2 * (b + 2) := by rw [Nat.mul_add, Nat.mul_add]; omega
          omega
        · exact ⟨_, _, rfl, _, lt, p2, pn, l2, _, u7, rfl, s3.trans s4, Same.tup s4 h2, tofT hpn, W', rfl⟩
      · have hz : vec l2 c = 0 := by simpa using e
        have hD3 := s3 _ _ hD
        refine ⟨_, rfl, ty_l (tofL hD3), _, rfl, D, _, _, rfl, rfl, hD3, ?_, ?_⟩
        · rw [hys.len, G.ln]
          have := (List.getElem?_eq_some_iff.mp hTi).1
          exact smallt (by omega)
        · exact ⟨p1, l1, rest ++ [l2], ys ++ [.ref p2], _, _, _, rfl, smut (s2.trans s3) nDH, sqt_upd h1 hD3, upd_same, ((hys.same s3).app (.one h2)).upd hD3, G.next hTi W hz⟩
    · rintro σ H2 ⟨p, lead, rest, ys, v5, v6, v7, rfl, s2, hp, hD, hys, G⟩
      rw [hR.len] at G
      refine ⟨fun σ H3 => ∃ p3 lead3 v5 v6 v7, σ = [some (.ref a), some (.int c), some (.int wd), some (.ref p3), some (.ref D), v5, v6, v7] ∧ Same H2 H3 ∧ SqT K H3 p3 (lead3.map V.int) ∧ lead3 = if vec lead c < 0 then negI lead else lead, ?_, ?_⟩
      · refine ⟨_, rfl, _, rfl, p, _, c, _, rfl, rfl, hp, atV (by rw [G.l1]; exact cw), _, _, rfl, rfl, _, rfl, ite2 (fun e => ?_) (fun e => ?_)⟩
        · have e1 : vec lead c < 0 := by simpa using e
          rw [if_pos e1]
          refine ⟨_, rfl, p, rfl, ⟨_, hp⟩, fun Z nZ => ?_⟩
          refine lc_tup (K := K) (a := p) (xs := lead.map V.int) (fun i H4 => Same H2 H4 ∧ H4 Z = some (.lst (((negI lead).take i).map V.int))) ⟨Same.new nZ, upd_same⟩ (fun i H4 _ z => Same.tup z.1 hp) ?_ ?_
          · rintro i x H4 hi ⟨s4, hZ⟩
            have li : i < lead.length := by
              have := (List.getElem?_eq_some_iff.mp hi).1
              rwa [List.length_map] at this
            obtain rfl : x = .int (vec lead i) := Option.some.inj (hi.symm.trans (mapV li))
            refine ⟨rfl, _, rfl, _, rfl, _, hZ, ?_, smut s4 nZ, ?_⟩
            · rw [List.length_map, List.length_take]; exact smallt (by have := G.l1; omega)
            · rw [upd_same, List.take_add_one, show (negI lead)[i]? = some (-(vec lead i)) by unfold negI; rw [List.getElem?_map, at_vec li]; rfl, List.map_append]
              rfl
          · rintro H4 ⟨s4, hZ⟩
            rw [List.take_of_length_le (by unfold negI; simp)] at hZ
            exact .inl ⟨Z, _, rfl, tofL hZ, fun p3 np3 => ⟨p3, negI lead, _, _, _, rfl, s4.trans (Same.new np3), tofT upd_same, rfl⟩⟩
        · have e1 : ¬ vec lead c < 0 := by simpa using e
          rw [if_neg e1]
          exact ⟨p, lead, _, _, _, rfl, Same.refl _, hp, rfl⟩
      rintro σ3 H3 ⟨p3, lead3, u5, u6, u7, rfl, s3, h3, e3⟩
      have hD3 := s3 _ _ hD
      have hys3 := hys.same s3
      refine ⟨_, rfl, _, rfl, D, rfl, ⟨_, tofL hD3⟩, fun Z nZ => ?_⟩
      have GE' := G.done e3
      refine lc_list (K := K) (a := D) (xs := ys) (fun i H4 => Same H3 H4 ∧ ∃ zs, H4 Z = some (.lst zs) ∧ Rw K H4 zs ((rest.take i).filter nzI)) ⟨Same.new nZ, [], upd_same, .nil⟩ (fun i H4 _ z => tofL (z.1 _ _ hD3)) ?_ ?_
      · rintro i x H4 hi ⟨s4, zs, hZ, hz⟩
        obtain ⟨px, lx, rfl, hTi, hpx⟩ := hys3.get hi
        have tk : rest.take (i + 1) = rest.take i ++ [lx] := by rw [List.take_add_one, hTi]; rfl
        refine ⟨rfl, _, rfl, px, lx, rfl, Same.tup s4 hpx, _, rfl, ite2 (fun e => ?_) (fun e => ?_)⟩
        · refine ⟨_, rfl, zs, hZ, ?_, smut s4 nZ, _, upd_same, ?_⟩
          · rw [hz.len]
            refine smallt (Nat.lt_of_le_of_lt (List.length_filter_le _ _) ?_)
            rw [List.length_take, G.ln]
            omega
          · rw [tk, List.filter_append, List.filter_cons_of_pos (show nzI lx = true from e)]
            exact (hz.app (.one (Same.tup s4 hpx))).upd hZ
        · refine ⟨s4, zs, hZ, ?_⟩
          rw [tk, List.filter_append, List.filter_cons_of_neg (show ¬ nzI lx = true from e), List.filter_nil, List.append_nil]
          exact hz
      · rintro H4 ⟨s4, zs, hZ, hz⟩
        rw [hys.len, List.take_length] at hz
        refine ⟨(show 2 ≤ sizeLine from small (by decide)), fun t nt => ?_⟩
        have sn : Same H4 (upd H4 t (.tup [.ref p3, .ref Z])) := Same.new nt
        exact q t p3 Z lead3 zs (rest.filter nzI) _ ((s2.trans s3).trans (s4.trans sn)) upd_same (Same.tup (s4.trans sn) h3) (sn _ _ hZ) (hz.same sn) GE'
end
end NK04
namespace NK04
open PySem PySem.Spec PyProof.Rows L2 RZ GL GT
def spHermite (K : PySem.W.Frag) : Sp := fun vs H Q _ => ∃ (a : Addr) (xs : List V) (T : List (List Int)) (b : Nat), vs = [.ref a] ∧ SqT K H a xs ∧ Rw K H xs T ∧ wd T ≤ 900 ∧ T.length ≤ 90000 ∧ (∀ t ∈ T, t.length = wd T) ∧ (∀ t ∈ T, Bd (2 ^ b) t) ∧ Cap b T.length ∧
  ∀ p zs L H', Same H H' → H' p = some (.tup zs) → Rw K H' zs (rows L) → HF (wd T) b T L → Q (.ref p) H'
section
variable {P : Program} {w : World} {K : PySem.W.Frag} {mg : Str → Option Value} {base : Heap}
abbrev s_hermite : Stmt := topS 1
theorem sc_hermite : FnScope ["table", "width", "rows", "done", "column", "lead", "row"] ["table"] (defScope s_hermite) := ⟨rfl, rfl, rfl, by decide +kernel, rfl, by decide +kernel, by decide +kernel⟩
theorem fn_hermite {f : Addr} {fd : FuncData} (F : Fun K "hermite" "hermite" s_hermite f fd) (T : Bl mg) (D_width : DefG P w K mg base 1 "_width" ["table"] (spWidth K)) (D_less : DefG P w K mg base 1 "_less" ["row", "other", "times"] (spLess K))
    (D_gathered : DefG P w K mg base 2 "_gathered" ["rows", "column", "width"] (spGathered K)) : FnG P w K mg base CX0 3 f fd ["table"] (spHermite K) := by
  refine okG F sc_hermite (fun vs H Q E h => ?_) fun cdv A outer s H vs Q E hr hc h => ?_
  · obtain ⟨a, xs, T, b, rfl, _⟩ := h
    rfl
  · obtain ⟨a, xs, Tb, b, rfl, hA, hR, w9, tl, hw, hb, cap, q⟩ := h
    have nd := sc_hermite.nd
    refine ⟨_, (pss_cons (ps_set (i := 1) nd rfl (by first | exact Or.inl rfl | exact Or.inr rfl) (pe_def D_width (hr.mono (by decide)) hc (by rfl) (pa_cons (pv 0) pa_nil)))
      (pss_cons (ps_set (i := 2) nd rfl (by first | exact Or.inl rfl | exact Or.inr rfl) (pe_callTy call_list_of (by rfl) T.list boot_list (pa_cons (pv 0) pa_nil)))
      (pss_cons (ps_set (i := 3) nd rfl (by first | exact Or.inl rfl | exact Or.inr rfl) (pe_lst pa_nil))
      (pss_cons (ps_for PassesOwn.never rfl (pi_range1 (by rfl) T.range (pa_cons (pv 1) pa_nil)) (pg_name (i := 4) nd rfl (by first | exact Or.inl rfl | exact Or.inr rfl))
        (pss_cons (ps_asg (pe_def D_gathered (hr.mono (by decide)) hc (by rfl) (pa_cons (pv 2) (pa_cons (pv 4) (pa_cons (pv 1) pa_nil)))) (pg_tup rfl (pgs_cons (pg_name (i := 5) nd rfl (by first | exact Or.inl rfl | exact Or.inr rfl)) (pgs_cons (pg_name (i := 2) nd rfl (by first | exact Or.inl rfl | exact Or.inr rfl)) pgs_nil))))
        (pss_one (ps_if (pt_truth (pe_ix ix_tup (pv 5) (pv 4) (fun _ _ => rfl)) (fun _ => rfl))
          (pss_one (ps_set (i := 3) nd rfl (by first | exact Or.inl rfl | exact Or.inr rfl) (pe_op op_cat (pe_lc (own := [("row", 6)]) (g := (gName 6)) (tt := tYes) rfl nd (pi_list (pv 3)) (blkOk_by (own := [("row", 6)]) (N := ["table", "width", "rows", "done", "column", "lead", "row"]) (sc := defScope s_hermite) (by decide +kernel)) (fun _ _ _ _ _ => (pg_name (i := 6) nd rfl (by first | exact Or.inl rfl | exact Or.inr rfl))) (fun _ _ _ _ _ => pts_nil) (fun _ _ _ _ _ => (pe_def D_less (hr.mono (by decide)) hc (by rfl) (pa_cons (pv 6) (pa_cons (pv 5) (pa_cons (pe_op op_fdivX (pe_ix (G3.ix_tupK (K := K)) (pv 6) (pv 4) (fun _ _ => rfl)) (pe_ix (G3.ix_tupK (K := K)) (pv 5) (pv 4) (fun _ _ => rfl))) pa_nil)))))) (pe_lst (pa_cons (pv 5) pa_nil)))))
          pss_nil))))
      (pss_one (ps_ret (pe_tupleOf (by rfl) T.tuple (pv 3)))))))), ?_⟩
    obtain ⟨wt, ew⟩ : ∃ wt, wt = wd Tb := ⟨_, rfl⟩
    rw [← ew] at w9 hw q
    refine ⟨_, rfl, a, xs, Tb, rfl, hA, hR, ?_⟩
    rw [← ew]
    refine ⟨_, rfl, a, xs, rfl, .inr hA, fun z0 nz0 => ?_⟩
    refine ⟨Nat.zero_le _, fun d0 nd0 => ?_⟩
    have S1 : Same H (upd (upd H z0 (.lst xs)) d0 (.lst [])) := (Same.new nz0).trans (Same.new nd0)
    have e0 : upd (upd H z0 (.lst xs)) d0 (.lst []) z0 = some (.lst xs) := by rw [upd_ne (ne_of_none upd_same nd0)]; exact upd_same
    refine ⟨_, rfl, (wt : Nat), rfl, by omega, by omega, ?_⟩
    rw [Int.toNat_natCast]
    refine for_range (fun c σ H2 => ∃ rp dp rs ds R L v4 v5 v6, σ = [some (.ref a), some (.int (wt : Nat)), some (.ref rp), some (.ref dp), v4, v5, v6] ∧ Same H H2 ∧ SqL K H2 rp rs ∧ Rw K H2 rs R ∧ H2 dp = some (.lst ds) ∧ Rw K H2 ds (rows L) ∧ HI wt c b Tb L R)
      ⟨z0, d0, xs, [], Tb, [], none, none, none, rfl, S1, tofL e0, hR.same S1, upd_same, .nil, HI.start hw hb⟩ ?_ ?_
    · rintro c σ H2 hc2 ⟨rp, dp, rs, ds, R, L, v4, v5, v6, rfl, s2, hrp, hrs, hdp, hds, I⟩
      have kk := I.k
      have lk : L.length ≤ Tb.length := by omega
      obtain ⟨c1, c2, c3⟩ := cap L.length (by omega)
      refine ⟨_, rfl, _, rfl, _, rfl, rp, rs, R, c, wt, bK b Tb.length L.length, ?_, hrp, hrs, hc2, w9, by omega, I.lr, I.b1, c1, ?_, ?_⟩
      · rw [Int.zero_add]; rfl
      · exact Nat.le_trans (Nat.mul_le_mul_left _ (by omega)) c2
      intro p l r lead ys rest H3 s3 hp hl hr3 hys G
      refine ⟨p, _, rfl, tofT hp, rfl, _, _, rfl, _, _, rfl, rfl, ?_⟩
      have hds3 := hds.same s3
      have hdp3 := s3 _ _ hdp
      refine ⟨_, rfl, _, rfl, l, _, (c : Nat), _, rfl, ?_, hl, atV (by rw [G.l1]; exact hc2), _, rfl, ite2 (fun e => ?_) (fun e => ?_)⟩
      · rw [Int.zero_add]
      · have hn : vec lead c ≠ 0 := by simpa using e
        have I' := I.lead G hn
        have lp : 0 < vec lead c := by have := G.pos; omega
        refine ⟨_, rfl, dp, rfl, ⟨_, tofL hdp3⟩, fun Z nZ => ?_⟩
        refine lc_list (K := K) (a := dp) (xs := ds) (fun i H4 => Same H3 H4 ∧ ∃ zs, H4 Z = some (.lst zs) ∧ Rw K H4 zs (rows ((L.take i).map (redI lead c)))) ⟨Same.new nZ, [], upd_same, .nil⟩ (fun i H4 _ z => tofL (z.1 _ _ hdp3)) ?_ ?_
        · rintro i x H4 hi ⟨s4, zs, hZ, hz⟩
          obtain ⟨px, lx, rfl, hTi, hpx⟩ := hds3.get hi
          obtain ⟨y, hy, rfl⟩ : ∃ y, L[i]? = some y ∧ y.1 = lx := by
            unfold rows at hTi
            rw [List.getElem?_map] at hTi
            obtain ⟨y, h1, h2⟩ := Option.map_eq_some_iff.mp hTi
            exact ⟨y, h1, h2⟩
          have my := List.mem_of_getElem? hy
          have ly := I.hs.ll y my
          have hpx4 := Same.tup s4 hpx
          have hl4 := Same.tup s4 hl
          obtain ⟨c1', c2', c3'⟩ := cap (L.length + 1) (by have := G.ln1 hn; omega)
          have q1 : ((vec y.1 c).fdiv (vec lead c)).natAbs ≤ 2 ^ dK b Tb.length L.length := by
            refine Nat.le_trans ?_ (I.b2 y my c)
            rw [Int.fdiv_eq_ediv_of_nonneg _ (by omega)]
            exact Int.natAbs_ediv_le_natAbs _ _
          have bb : En (bK b Tb.length L.length) R.length ≤ 2 ^ bK b Tb.length (L.length + 1) := Nat.pow_le_pow_right (by decide) (Nat.add_le_add_left (Nat.mul_le_mul_left _ (by omega)) _)
          have ec : (0 : Int) + (c : Int) = (c : Int) := Int.zero_add _
          refine ⟨rfl, _, rfl, _, rfl, _, rfl, _, rfl, px, _, _, _, rfl, rfl, hpx4, by rw [ec]; exact atV (by rw [ly]; exact hc2), _, rfl, _, rfl, l, _, _, _, rfl, rfl, hl4, by rw [ec]; exact atV (by rw [G.l1]; exact hc2), _, _, rfl, rfl, divX hn G.b0 c1, px, l, y.1, lead, _, dK b Tb.length L.length, bK b Tb.length (L.length + 1), rfl, hpx4, hl4, by rw [ly, G.l1], by rw [ly]; omega, q1, G.b1.mono bb, ?_, fun pn H5 s5 hpn => ?_⟩
          · have : bK b Tb.length (L.length + 1) + 2 ≤ (bK b Tb.length (L.length + 1) + 2) * (Tb.length + 3) := Nat.le_mul_of_pos_right _ (by omega)
            omega
          · have hZ5 := s5 _ _ hZ
            refine ⟨zs, hZ5, ?_, smut (s4.trans s5) nZ, _, upd_same, ?_⟩
            · rw [hz.len]
              unfold rows
              rw [List.length_map, List.length_map, List.length_take]
              exact smallt (by omega)
            · have tk : L.take (i + 1) = L.take i ++ [y] := by rw [List.take_add_one, hy]; rfl
              rw [tk]
              unfold rows
              rw [List.map_append, List.map_append]
              exact ((hz.same s5).app (.one (tofT hpn))).upd hZ5
        · rintro H4 ⟨s4, zs, hZ, hz⟩
          have le : ds.length = L.length := by rw [hds.len]; unfold rows; rw [List.length_map]
          rw [le, List.take_length] at hz
          refine ⟨_, rfl, (show 1 ≤ sizeLine from small (by decide)), fun y ny => ?_⟩
          have s5 : Same H4 (upd H4 y (.lst [.ref l])) := Same.new ny
          refine ⟨Z, y, zs, [.ref l], rfl, rfl, s5 _ _ hZ, upd_same, ?_, fun pn np => ?_⟩
          · rw [hz.len]
            unfold rows
            rw [List.length_map, List.length_map]
            exact small (by show L.length + 1 ≤ _; omega)
          · have s6 := s5.trans (Same.new (o := .lst (zs ++ [V.ref l])) np)
            refine ⟨r, pn, ys, _, rest, _, _, _, _, rfl, s2.trans (s3.trans (s4.trans s6)), tofL (s6 _ _ (s4 _ _ hr3)), (hys.same s4).same s6, upd_same, ?_, I'⟩
            unfold rows
            rw [List.map_append]
            exact (hz.same s6).app (.one (Same.tup s6 (Same.tup s4 hl)))
      · have hz : vec lead c = 0 := by simpa using e
        exact ⟨r, dp, ys, ds, rest, L, _, _, _, rfl, s2.trans s3, tofL hr3, hys, hdp3, hds3, I.skip G hz⟩
    · rintro σ H2 ⟨rp, dp, rs, ds, R, L, v4, v5, v6, rfl, s2, hrp, hrs, hdp, hds, I⟩
      refine ⟨_, rfl, .inl ⟨dp, _, rfl, tofL hdp, fun p np => ?_⟩⟩
      have sn : Same H2 (upd H2 p (.tup ds)) := Same.new np
      exact q p ds L _ (s2.trans sn) upd_same (hds.same sn) I.done
theorem ok_hermite {f : Addr} {fd : FuncData} (F : Fun K "hermite" "hermite" s_hermite f fd) (gl : mg "hermite" = some (.ref f)) (T : Bl mg) (D_width : DefG P w K mg base 1 "_width" ["table"] (spWidth K)) (D_less : DefG P w K mg base 1 "_less" ["row", "other", "times"] (spLess K))
    (D_gathered : DefG P w K mg base 2 "_gathered" ["rows", "column", "width"] (spGathered K)) : DefG P w K mg base 3 "hermite" ["table"] (spHermite K) :=
  def_mk F gl (F.binds fun _ _ _ _ _ _ us hl => match us, hl with | [_], _ => rfl) (fn_hermite F T D_width D_less D_gathered)
end
end NK04
namespace GT
open PySem PySem.Spec PyProof.Rows L2 RZ GL
/-- t * k, k from 0 on -/
def rRepA (K : PySem.W.Frag) : R2 := fun x y H Q => ∃ l k xs, x = .ref l ∧ y = .int k ∧ SqT K H l xs ∧ xs ≠ [] ∧ 0 ≤ k ∧ k ≤ 1000 ∧ xs.length ≤ 1000 ∧ ∀ p H', Same H H' → SqT K H' p (List.replicate k.toNat xs).flatten → Q (.ref p) H'
theorem op_repAK {X : Cx} {K : PySem.W.Frag} (h : X.K = K := by rfl) : OpR X (binaryOp .Mult) (rRepA K) := by
  subst h
  intro pins s σ H x y v u Q I rx ry hh
  obtain ⟨l, k, xs, rfl, rfl, hT, ne, h1, h2, hl, q⟩ := hh
  by_cases e : k = 0 ∨ k = 1
  · refine GL.op_rep01 pins s σ H _ _ v u Q I rx ry ⟨l, k, xs, rfl, rfl, hT, ne, e, fun z p o np no => ?_, fun z => ?_⟩
    · subst z
      exact q p _ (Same.new np) (.inl (.inr ⟨o, upd_same⟩))
    · subst z
      exact q l H (Same.refl H) (by simpa using hT)
  · exact op_repT pins s σ H _ _ v u Q I rx ry ⟨l, k, xs, rfl, rfl, hT, ne, by omega, h2, hl, fun p np => q p _ (Same.new np) (tofT upd_same)⟩
theorem sl_tupAK {X : Cx} {K : PySem.W.Frag} (h : X.K = K := by rfl) : SlR X (rSlA K) := h ▸ sl_tupA
theorem any_take {w c m : Nat} {L : Hl} (h : HS w c L) {x : List Int × Nat} (hx : x ∈ L) : ((x.1.take m).any fun n => n != 0) = !decide (m ≤ x.2) := by
  obtain ⟨h1, h2, h3⟩ := h.lp x hx
  by_cases e : m ≤ x.2
  · rw [decide_eq_true e]
    show _ = false
    rw [List.any_eq_false]
    intro n hn
    obtain ⟨j, hj, rfl⟩ := List.getElem_of_mem hn
    rw [List.length_take] at hj
    have := h3 j (by omega)
    rw [vec_at (by rw [List.getElem?_eq_getElem (show j < x.1.length by omega)])] at this
    rw [List.getElem_take, this]
    decide
  · rw [decide_eq_false e]
    show _ = true
    rw [List.any_eq_true]
    have xl : x.2 < x.1.length := Nat.lt_of_not_le fun q => by
      rw [vec_out q] at h2; omega
    refine ⟨vec x.1 x.2, ?_, ?_⟩
    · refine List.mem_of_getElem? (i := x.2) ?_
      rw [List.getElem?_take, if_pos (by omega)]
      exact at_vec xl
    · have : vec x.1 x.2 ≠ 0 := by omega
      simpa using this
theorem filt_parts {m : Nat} {A B : Hl} (hA : ∀ x ∈ A, x.2 < m) (hB : ∀ x ∈ B, m ≤ x.2) : (A ++ B).filter (fun x => decide (m ≤ x.2)) = B := by
  rw [List.filter_append, List.filter_eq_nil_iff.mpr fun x hx => by have := hA x hx; simpa using this, List.nil_append, List.filter_eq_self.mpr fun x hx => decide_eq_true (hB x hx)]
end GT
namespace NK04
open PySem PySem.Spec PyProof.Rows L2 RZ GL GT
def spUnits (K : PySem.W.Frag) : Sp := fun vs H Q _ => ∃ w : Nat, vs = [.int w] ∧ w ≤ 900 ∧ ∀ p xs H', Same H H' → H' p = some (.lst xs) → Rw K H' xs ((List.range w).map (urI w)) → Q (.ref p) H'
def spKernel (K : PySem.W.Frag) : Sp := fun vs H Q _ => ∃ (a : Addr) (xs : List V) (T : List (List Int)) (w b : Nat), vs = [.ref a, .int w] ∧ SqT K H a xs ∧ Rw K H xs T ∧ (∀ t ∈ T, t.length = w) ∧ T.length ≤ 90 ∧ 1 ≤ w ∧ w ≤ 90 ∧ (∀ t ∈ T, Bd (2 ^ b) t) ∧ Cap b w ∧
  ∀ p zs N H', Same H H' → H' p = some (.tup zs) → Rw K H' zs (rows N) → KF w (bN b w) T N → Q (.ref p) H'
theorem rep0 (k : Nat) : (List.replicate k [V.int 0]).flatten = (List.replicate k (0 : Int)).map V.int := by rw [List.flatten_replicate_singleton, List.map_replicate]
section
variable {P : Program} {w : World} {K : PySem.W.Frag} {mg : Str → Option Value} {base : Heap}
abbrev s_units : Stmt := topS 3
theorem sc_units : FnScope ["width", "k"] ["width"] (defScope s_units) := ⟨rfl, rfl, rfl, by decide +kernel, rfl, by decide +kernel, by decide +kernel⟩
theorem ok_units {f : Addr} {fd : FuncData} (F : Fun K "units" "units" s_units f fd) (gl : mg "units" = some (.ref f)) (T : Bl mg) : DefG P w K mg base 1 "units" ["width"] (spUnits K) := by
  refine def_mk F gl (F.binds fun _ _ _ _ _ _ us hl => match us, hl with | [_], _ => rfl) (okG F sc_units (fun vs H Q E h => ?_) fun cdv A outer s H vs Q E hr hc h => ?_)
  · obtain ⟨wt, rfl, _⟩ := h
    rfl
  · obtain ⟨wt, rfl, w9, q⟩ := h
    have nd := sc_units.nd
    refine ⟨_, (pss_one (ps_ret (pe_lc (own := [("k", 1)]) (g := (gName 1)) (tt := tYes) rfl nd (pi_range1 (by rfl) T.range (pa_cons (pv 0) pa_nil)) (blkOk_by (own := [("k", 1)]) (N := ["width", "k"]) (sc := defScope s_units) (by decide +kernel)) (fun _ _ _ _ _ => (pg_name (i := 1) nd rfl (by first | exact Or.inl rfl | exact Or.inr rfl))) (fun _ _ _ _ _ => pts_nil) (fun _ _ _ _ _ => (pe_op (G3.op_catAK (K := K)) (pe_op (G3.op_catAK (K := K)) (pe_op (op_repAK (K := K)) (pe_tup (pa_cons pe_int pa_nil)) (pv 1)) (pe_tup (pa_cons pe_int pa_nil))) (pe_op (op_repAK (K := K)) (pe_tup (pa_cons pe_int pa_nil)) (pe_op op_sub (pe_op op_sub (pv 0) (pv 1)) pe_int))))))), ?_⟩
    refine ⟨_, rfl, (wt : Nat), rfl, by omega, by omega, fun Z nZ => ?_⟩
    rw [Int.toNat_natCast]
    refine lc_range (fun i H2 => Same H H2 ∧ ∃ zs, H2 Z = some (.lst zs) ∧ Rw K H2 zs ((List.range i).map (urI wt))) ⟨Same.new nZ, [], upd_same, .nil⟩ ?_ ?_
    · rintro i H2 hi ⟨s2, zs, hZ, hz⟩
      refine ⟨rfl, (show 1 ≤ sizeLine from small (by decide)), fun o1 no1 => ⟨_, rfl, o1, 0 + (i : Int), [.int 0], rfl, rfl, tofT upd_same, (fun z => nomatch z), by omega, by omega, (show 1 ≤ 1000 by decide), fun p1 H3 s3 h3 => ?_⟩⟩
      refine ⟨(show 1 ≤ sizeLine from small (by decide)), fun o2 no2 => ?_⟩
      have s4 : Same H3 (upd H3 o2 (.tup [.int 1])) := Same.new no2
      rw [Int.zero_add, Int.toNat_natCast, rep0] at h3
      refine catA_of (Same.tup s4 h3) (tofT upd_same) (by rw [List.length_map, List.length_replicate]; show i + 1 ≤ _; omega) fun p2 H5 s5 h5 => ?_
      refine ⟨(show 1 ≤ sizeLine from small (by decide)), fun o3 no3 => ⟨_, rfl, _, rfl, _, _, rfl, rfl, _, _, rfl, rfl, o3, _, [.int 0], rfl, rfl, tofT upd_same, (fun z => nomatch z), by omega, by omega, (show 1 ≤ 1000 by decide), fun p3 H6 s6 h6 => ?_⟩⟩
      rw [show ((wt : Int) - (0 + (i : Int)) - 1).toNat = wt - i - 1 by omega, rep0] at h6
      have s56 : Same H5 H6 := (Same.new no3).trans s6
      refine catA_of (Same.tup s56 h5) h6 (by simp; omega) fun p4 H7 s7 h7 => ?_
      have S : Same H2 H7 := (Same.new no1).trans (s3.trans (s4.trans (s5.trans (s56.trans s7))))
      have hZ7 := S _ _ hZ
      refine ⟨zs, hZ7, ?_, smut (s2.trans S) nZ, _, upd_same, ?_⟩
      · rw [hz.len, List.length_map, List.length_range]; exact smallt (by omega)
      · rw [List.range_succ, List.map_append]
        refine ((hz.same S).app (.one (p := p4) (l := urI wt i) ?_)).upd hZ7
        have e : (urI wt i).map V.int = ((List.replicate i (0 : Int)).map V.int ++ [V.int 1]) ++ (List.replicate (wt - i - 1) (0 : Int)).map V.int := by
          unfold urI; rw [List.map_append, List.map_append]; rfl
        rw [e]; exact h7
    · rintro H2 ⟨s2, zs, hZ, hz⟩
      exact q Z zs H2 s2 hZ hz
abbrev s_kernel : Stmt := topS 2
theorem sc_kernel : FnScope ["table", "width", "count", "marked", "one", "k", "unit", "row"] ["table", "width"] (defScope s_kernel) := ⟨rfl, rfl, rfl, by decide +kernel, rfl, by decide +kernel, by decide +kernel⟩
theorem fn_kernel {f : Addr} {fd : FuncData} (F : Fun K "kernel" "kernel" s_kernel f fd) (T : Bl mg) (D_units : DefG P w K mg base 1 "units" ["width"] (spUnits K)) (D_hermite : DefG P w K mg base 3 "hermite" ["table"] (spHermite K)) : FnG P w K mg base CX0 4 f fd ["table", "width"] (spKernel K) := by
  refine okG F sc_kernel (fun vs H Q E h => ?_) fun cdv A outer s H vs Q E hr hc h => ?_
  · obtain ⟨a, xs, T, wt, b, rfl, _⟩ := h
    rfl
  · obtain ⟨a, xs, Tb, wt, b, rfl, hA, hR, hw, t90, w1, w9, hb, cap, q⟩ := h
    have nd := sc_kernel.nd
    refine ⟨_, (pss_cons (ps_set (i := 2) nd rfl (by first | exact Or.inl rfl | exact Or.inr rfl) (pe_callB call_len_seq (by rfl) T.len boot_len (pa_cons (pv 0) pa_nil)))
      (pss_cons (ps_setLc (i := 3) (own := [("k", 5), ("unit", 6)]) (g := (gTup K 2 (gCons (gName 5) (gCons (gName 6) gNil)))) (tt := tYes) rfl nd rfl rfl (sw_true rfl rfl rfl (by decide +kernel)) (pi_enum (by rfl) T.enumerate (pa_cons (pe_def D_units (hr.mono (by decide)) hc (by rfl) (pa_cons (pv 1) pa_nil)) pa_nil)) (blkOk_by (own := [("k", 5), ("unit", 6)]) (N := ["table", "width", "count", "marked", "one", "k", "unit", "row"]) (sc := defScope s_kernel) (by decide +kernel)) (fun _ _ _ _ _ => (pg_tup rfl (pgs_cons (pg_name (i := 5) nd rfl (by first | exact Or.inl rfl | exact Or.inr rfl)) (pgs_cons (pg_name (i := 6) nd rfl (by first | exact Or.inl rfl | exact Or.inr rfl)) pgs_nil)))) (fun _ _ _ _ _ => pts_nil) (fun _ _ _ _ _ => (pe_op (G3.op_catAK (K := K)) (G3.pe_tupleOfK (K := K) (by rfl) T.tuple (pe_lc (own := [("one", 4)]) (g := (gName 4)) (tt := tYes) rfl nd (pi_tupK (K := K) (pv 0)) (blkOk_by (own := [("one", 4)]) (by with_unfolding_all rfl)) (fun _ _ _ _ _ => (pg_name (i := 4) nd rfl (by first | exact Or.inl rfl | exact Or.inr rfl))) (fun _ _ _ _ _ => pts_nil) (fun _ _ _ _ _ => (pe_ix (G3.ix_tupK (K := K)) (pv 4) (pv 5) (fun _ _ => rfl))))) (pv 6))))
      (pss_one (ps_ret (pe_tupleOf (by rfl) T.tuple (pe_lc (own := [("row", 7)]) (g := (gName 7)) rfl nd (pi_tup (pe_def D_hermite (hr.mono (by decide)) hc (by rfl) (pa_cons (pe_tupleOf (by rfl) T.tuple (pv 3)) pa_nil))) (blkOk_by (own := [("row", 7)]) (N := ["table", "width", "count", "marked", "one", "k", "unit", "row"]) (sc := defScope s_kernel) (by decide +kernel)) (fun _ _ _ _ _ => (pg_name (i := 7) nd rfl (by first | exact Or.inl rfl | exact Or.inr rfl))) (fun _ _ _ _ _ => (pts_one (pt_not (pt_val (pe_callB (cr_anyT (K := K) rfl) (by rfl) T.any boot_any (pa_cons (pe_slice (sl_tupAK (K := K)) (pv 7) po_none (po_some (pv 2))) pa_nil)))))) (fun _ _ _ _ _ => (pe_slice (sl_tupAK (K := K)) (pv 7) (po_some (pv 2)) po_none)))))))), ?_⟩
    refine ⟨_, rfl, a, _, rfl, .inr hA, ?_⟩
    rw [hR.len]
    refine ⟨_, rfl, wt, rfl, by omega, fun pu us H1 s1 hpu hus => ⟨pu, _, rfl, tofL hpu, fun Z nZ => ?_⟩⟩
    have ul : us.length = wt := by rw [hus.len, List.length_map, List.length_range]
    refine lc_it (walk_enum (K := K) (a := pu) (xs := us)) (fun i H2 => Same H1 H2 ∧ ∃ zs, H2 Z = some (.lst zs) ∧ Rw K H2 zs ((List.range i).map (mkI Tb wt))) ⟨Same.new nZ, [], upd_same, .nil⟩ (fun i H2 _ h => sql_same h.1 (tofL hpu)) ?_ ?_
    · rintro i x H2 H3 hi ⟨s2, zs, hZ, hz⟩ ⟨tt, u, v, rfl, nt, rfl, f1, f2⟩
      rw [ul] at hi
      obtain rfl : (V.int (i : Nat)) = u := Option.some.inj f1
      obtain ⟨pk, lk, rfl, hlk, hpk⟩ := hus.get f2
      obtain rfl : urI wt i = lk := Option.some.inj (by rw [← hlk, List.getElem?_map, List.getElem?_range hi]; rfl)
      have s3 : Same H1 (upd H2 tt (.tup [.int (i : Nat), .ref pk])) := s2.trans (Same.new nt)
      have hZ3 : upd H2 tt (.tup [.int (i : Nat), .ref pk]) Z = some (.lst zs) := by rw [upd_ne (ne_of_none hZ nt)]; exact hZ
      refine ⟨tt, _, rfl, tofT upd_same, rfl, _, _, rfl, _, _, rfl, rfl, rfl, ?_⟩
      have hz3 := hz.same (Same.new (o := .tup [.int (i : Nat), .ref pk]) nt)
      revert s3 hZ3 hz3
      generalize upd H2 tt (.tup [.int (i : Nat), .ref pk]) = H3
      intro s3 hZ3 hz3
      have hA3 := Same.tup (s1.trans s3) hA
      have hR3 := hR.same (s1.trans s3)
      refine ⟨_, rfl, a, rfl, ⟨_, hA3⟩, fun Y nY => ?_⟩
      refine lc_tup (K := K) (a := a) (xs := xs) (fun j H4 => Same H3 H4 ∧ H4 Y = some (.lst (((Tb.take j).map fun t => vec t i).map V.int))) ⟨Same.new nY, upd_same⟩ (fun j H4 _ z => Same.tup z.1 hA3) ?_ ?_
      · rintro j x H4 hj ⟨s4, hY⟩
        obtain ⟨px, l, rfl, hTj, hpx⟩ := hR3.get hj
        have ll := hw l (List.mem_of_getElem? hTj)
        have jl := (List.getElem?_eq_some_iff.mp hTj).1
        refine ⟨rfl, _, rfl, _, rfl, px, _, _, .int (vec l i), rfl, rfl, Same.tup s4 hpx, atV (by omega), _, hY, by rw [List.length_map, List.length_map, List.length_take]; exact smallt (by omega), smut s4 nY, ?_⟩
        rw [upd_same, List.take_add_one, hTj, List.map_append, List.map_append]; rfl
      · rintro H4 ⟨s4, hY⟩
        rw [hR.len, List.take_length] at hY
        refine .inl ⟨Y, _, rfl, tofL hY, fun pc npc => ?_⟩
        have s5 : Same H3 (upd H4 pc (.tup ((Tb.map fun t => vec t i).map V.int))) := s4.trans (Same.new npc)
        refine ⟨_, rfl, catA_of (tofT upd_same) (Same.tup (s3.trans s5) hpk) (by rw [List.length_map, List.length_map, List.length_map, urI_len hi]; omega) fun pm H6 s6 hpm => ?_⟩
        have S := s5.trans s6
        have hZ6 := S _ _ hZ3
        refine ⟨zs, hZ6, by rw [hz.len, List.length_map, List.length_range]; exact smallt (by omega), smut (s3.trans S) nZ, _, upd_same, ?_⟩
        rw [List.range_succ, List.map_append]
        refine ((hz3.same S).app (.one (p := pm) (l := mkI Tb wt i) ?_)).upd hZ6
        unfold mkI
        rw [List.map_append]; exact hpm
    · rintro H2 ⟨s2, zs, hZ, hz⟩
      rw [ul] at hz
      refine ⟨_, rfl, .inl ⟨Z, _, rfl, tofL hZ, fun pm npm => ?_⟩⟩
      have s3 : Same H1 (upd H2 pm (.tup zs)) := s2.trans (Same.new npm)
      have ml : (MkT Tb wt).length = wt := by unfold MkT; rw [List.length_map, List.length_range]
      have mw : ∀ t ∈ MkT Tb wt, t.length = Tb.length + wt := fun t ht => by
        obtain ⟨k, hk, rfl⟩ := List.mem_map.mp ht
        exact mkI_len (List.mem_range.mp hk)
      have ewd : wd (MkT Tb wt) = Tb.length + wt := by
        have h0 : 0 < (MkT Tb wt).length := by omega
        match e : MkT Tb wt, h0 with
        | t :: M, _ => exact mw t (by rw [e]; exact List.mem_cons_self)
      have b2 : ∀ t ∈ MkT Tb wt, Bd (2 ^ b) t := fun t ht j => by
        obtain ⟨k, hk, rfl⟩ := List.mem_map.mp ht
        by_cases h : j < Tb.length
        · rw [vec_mk_lo h]; exact hb _ (row_mem h) _
        · rw [show j = Tb.length + (j - Tb.length) by omega, vec_mk_hi]
          unfold LA.un
          split
          · exact Nat.one_le_two_pow
          · exact Nat.zero_le _
      refine ⟨pm, zs, MkT Tb wt, b, rfl, tofT upd_same, hz.same (Same.new npm), by rw [ewd]; omega, by rw [ml]; omega, by rw [ewd]; exact mw, b2, by rw [ml]; exact cap, fun ph hx L H5 s5 hph hhx hf => ?_⟩
      rw [ewd] at hf
      refine ⟨ph, rfl, ⟨_, tofT hph⟩, fun Y nY => ?_⟩
      obtain ⟨A, B, eL, hA2, hB2⟩ := hs_parts Tb.length hf.hs
      have kf := kernel_of w1 w9 b2 hw hf eL hA2 hB2
      have Lc : L.length ≤ 90 := by have := hf.len; omega
      refine lc_tup (K := K) (a := ph) (xs := hx) (fun i H6 => Same H5 H6 ∧ ∃ ys, H6 Y = some (.lst ys) ∧ Rw K H6 ys (rows (((L.take i).filter fun x => decide (Tb.length ≤ x.2)).map (dropK Tb.length)))) ⟨Same.new nY, [], upd_same, .nil⟩ (fun i H6 _ z => tofT (z.1 _ _ hph)) ?_ ?_
      · rintro i x0 H6 hi ⟨s6, ys, hY, hy⟩
        obtain ⟨px, lx, rfl, hTi, hpx⟩ := hhx.get hi
        obtain ⟨x, hx2, rfl⟩ : ∃ x, L[i]? = some x ∧ x.1 = lx := by
          unfold rows at hTi
          rw [List.getElem?_map] at hTi
          obtain ⟨y, h1, h2⟩ := Option.map_eq_some_iff.mp hTi
          exact ⟨y, h1, h2⟩
        have mx := List.mem_of_getElem? hx2
        have il := (List.getElem?_eq_some_iff.mp hx2).1
        have xl := hf.hs.ll x mx
        have hpx6 := Same.tup s6 hpx
        have tk : (L.take (i + 1)).filter (fun x => decide (Tb.length ≤ x.2)) = (L.take i).filter (fun x => decide (Tb.length ≤ x.2)) ++ (if Tb.length ≤ x.2 then [x] else []) := by
          rw [List.take_add_one, hx2, List.filter_append]
          congr 1
          by_cases e : Tb.length ≤ x.2
          · rw [if_pos e]; simp [e]
          · rw [if_neg e]; simp [e]
        refine ⟨rfl, _, rfl, _, rfl, (Tb.length : Nat), rfl, slA_of hpx6 fun p7 H7 s7 h7 => ?_⟩
        rw [cutV_take _ (by rw [List.length_map]; omega), ← List.map_take] at h7
        refine ⟨p7, _, rfl, h7, ?_⟩
        rw [any_take hf.hs mx]
        have hpx7 := Same.tup s7 hpx6
        have L1 := s6.trans s7
        refine ⟨_, rfl, ite2 (fun e => ?_) (fun e => ?_)⟩
        · have e : Tb.length ≤ x.2 := by simpa using e
          refine ⟨_, rfl, _, rfl, (Tb.length : Nat), rfl, ?_⟩
          simp only [L2.tNoPart]
          refine slA_of hpx7 fun p8 H8 s8 h8 => ?_
          rw [cutV_drop _ (by rw [List.length_map]; omega), ← List.map_drop] at h8
          have s68 := s7.trans s8
          have hY8 := s68 _ _ hY
          have yl : ys.length ≤ 90 := by
            rw [hy.len]
            unfold rows
            rw [List.length_map, List.length_map]
            refine Nat.le_trans (List.length_filter_le _ _) ?_
            rw [List.length_take]; omega
          refine ⟨ys, hY8, smallt (by omega), smut (s6.trans s68) nY, _, upd_same, ?_⟩
          rw [tk, if_pos e, List.map_append]
          unfold rows
          rw [List.map_append]
          exact ((hy.same s68).app (.one h8)).upd hY8
        · have e : ¬ Tb.length ≤ x.2 := by simpa using e
          refine ⟨s6.trans s7, ys, s7 _ _ hY, ?_⟩
          rw [tk, if_neg e, List.append_nil]
          exact hy.same s7
      · rintro H6 ⟨s6, ys, hY, hy⟩
        have ll : hx.length = L.length := by rw [hhx.len]; exact List.length_map ..
        rw [ll, List.take_length, eL, filt_parts hA2 hB2] at hy
        refine .inl ⟨Y, _, rfl, tofL hY, fun p np => ?_⟩
        have s7 := s1.trans (s3.trans (s5.trans (s6.trans (Same.new (o := .tup ys) np))))
        exact q p ys _ _ s7 upd_same (hy.same (Same.new np)) kf
end
end NK04
namespace NK04
open PySem PySem.Spec PyProof.Rows L2 RZ GL GT
section
variable {P : Program} {w : World} {K : PySem.W.Frag} {mg : Str → Option Value} {base : Heap}
abbrev s_draw : Stmt := topS 9
theorem sc_draw : FnScope ["_law_deck_here", "_law_many", "_law_cell", "_law_mixed"] ["_law_deck_here", "_law_many"] (defScope s_draw) := ⟨rfl, rfl, rfl, by decide +kernel, rfl, by decide +kernel, by decide +kernel⟩
theorem ok_draw {f : Addr} {fd : FuncData} (F : Fun K "_law_draw" "_law_draw" s_draw f fd) (gl : mg "_law_draw" = some (.ref f)) (T : Bl mg) : DefG P w K mg base 1 "_law_draw" ["_law_deck_here", "_law_many"] spDraw := by
  refine def_mk F gl (F.binds fun _ _ _ _ _ _ us hl => match us, hl with | [_, _], _ => rfl) (okG F sc_draw (fun vs H Q E h => ?_) fun cdv A outer s H vs Q E hr hc h => ?_)
  · obtain ⟨d, g, n, rfl, _⟩ := h
    rfl
  · obtain ⟨d, g, n, rfl, D, n0, nB, q⟩ := h
    have nd := sc_draw.nd
    have hu := hu_of hr
    have hu64 := hr.units
    obtain ⟨m, L, hd, hg, hL, m0, mB⟩ := id D.ex
    have dg := D.ne
    refine ⟨_, (pss_cons (ps_if (pt_cmpR (op_neD hu64) (pe_dget hu (pv 0) pe_str (fun _ _ => rfl)) (pe_lst pa_nil) (nomark _))
        (pss_cons (ps_set (i := 2) nd rfl (by first | exact Or.inl rfl | exact Or.inr rfl) (pe_callTy call_int1 (by rfl) T.int boot_int (pa_cons (pe_bm0 PySem.F.plainAttrs_list PySem.F.slot_list_pop PySem.F.type_list_pop mt_pop (pe_dget hu (pv 0) pe_str (fun _ _ => rfl))) pa_nil)))
        (pss_cons (ps_if (pt_cmpR op_ge (pv 2) (pv 1) (nomark _))
          (pss_one (ps_expr (pe_bm PySem.F.plainAttrs_list PySem.F.slot_list_append PySem.F.type_list_append mt_append (pe_dget hu (pv 0) pe_str (fun _ _ => rfl)) (pa_cons (pe_op op_fdivW (pv 2) (pv 1)) pa_nil))))
          pss_nil)
        (pss_one (ps_ret (pe_op op_mod (pv 2) (pv 1))))))
        pss_nil)
      (pss_cons (ps_set (i := 3) nd rfl (by first | exact Or.inl rfl | exact Or.inr rfl) (pe_op op_mod (pe_callTy call_int1 (by rfl) T.int boot_int (pa_cons (pe_op op_add (pe_op op_mul (pe_callTy call_int1 (by rfl) T.int boot_int (pa_cons (pe_dget hu (pv 0) pe_str (fun _ _ => rfl)) pa_nil)) pe_int) pe_int) pa_nil)) pe_int))
      (pss_cons (ps_dput hu (pv 0) pe_str (pv 3) rfl)
      (pss_cons (ps_set (i := 3) nd rfl (by first | exact Or.inl rfl | exact Or.inr rfl) (pe_op op_mod (pe_callTy call_int1 (by rfl) T.int boot_int (pa_cons (pe_op op_add (pe_op op_mul (pv 3) (pv 3)) (pe_op op_mul pe_int (pv 3))) pa_nil)) pe_int))
      (pss_one (ps_ret (pe_op op_mod (pe_op op_fdivW (pv 3) pe_int) (pv 1)))))))), ?_⟩
    -- deck["great"] != []
    refine ⟨_, rfl, d, _, rfl, deck_great g m ▸ DGet.k (k := Sum.inr "great") hd, Nat.zero_le _, fun o no => ?_⟩
    have god : o ≠ g := (ne_of_none hg no).symm
    have dod : o ≠ d := (ne_of_none hd no).symm
    have sm : Same H (upd H o (.lst [])) := Same.new no
    refine ⟨_, _, .lst (tofL (sm _ _ hg)) (dpa_ints L), .lst (tofL upd_same) .nil, shaped_ints L, shaped_ints [], _, rfl, ?_⟩
    rw [eqv_ints_nil]
    refine ite2 (fun e => ?_) (fun e => ?_)
    · -- cell = int(deck["great"].pop())
      have hne : L ≠ [] := fun z => by rw [z] at e; exact absurd e (by decide)
      obtain ⟨L0, c, rfl⟩ := snoc_of hne
      rw [List.length_append, List.length_singleton] at hL
      have g1 := sm _ _ hg
      refine ⟨_, rfl, d, _, rfl, deck_great g m ▸ DGet.k (k := Sum.inr "great") (sm _ _ hd), ty_l (tofL g1), g, _, _, rfl, rfl, g1, pop_at L0 c, .inl ⟨c, rfl, ?_⟩⟩
      rw [pop_left]
      refine ⟨_, rfl, _, rfl, c, n, rfl, rfl, _, rfl, ?_⟩
      have h1 : upd (upd H o (.lst [])) g (.lst (L0.map V.int)) d = some (.dK (deckD g m)) := by rw [upd_ne dg]; exact sm _ _ hd
      have kp : ∀ x : HO, Mv d g H (upd (upd H o (.lst [])) g x) := fun x => ⟨fun b u hb _ n2 => by rw [upd_ne n2]; exact sm _ _ hb⟩
      refine ite2 (fun _ => ?_) (fun _ => ?_)
      · refine ⟨_, rfl, d, _, rfl, deck_great g m ▸ DGet.k (k := Sum.inr "great") h1, ty_l (tofL upd_same), _, rfl, _, rfl, c, n, rfl, rfl, wide_div (b := 250) n0 (by omega) (by decide) (by decide), g, _, _, rfl, rfl, upd_same, ?_, ?_⟩
        · rw [List.length_map]; exact smallt (by omega)
        · refine ⟨_, rfl, _, rfl, c, n, rfl, rfl, n0, ?_⟩
          rw [upd_upd]
          refine q _ _ (Int.emod_nonneg _ (by omega)) (Int.emod_lt_of_pos _ n0) ⟨m, L0 ++ [c / n], by rw [upd_ne dg]; exact sm _ _ hd, ?_, ?_, m0, mB⟩ (kp _)
          · rw [upd_same, List.map_append, List.map_singleton]
          · rw [List.length_append, List.length_singleton]; exact hL
      · refine ⟨_, rfl, _, rfl, c, n, rfl, rfl, n0, ?_⟩
        exact q _ _ (Int.emod_nonneg _ (by omega)) (Int.emod_lt_of_pos _ n0) ⟨m, L0, h1, upd_same, by omega, m0, mB⟩ (kp _)
    · -- mixed = ..
      refine ⟨_, rfl, d, _, rfl, deck_mixed g m ▸ DGet.k (k := Sum.inr "mixed") (sm _ _ hd), .inl ⟨m, rfl, m, 69621, rfl, rfl, mul_small m0 (by omega), _, 61, rfl, rfl, .inl ⟨_, rfl, _, 2147483587, rfl, rfl, (show (0 : Int) < 2147483587 by decide), ?_⟩⟩⟩
      have a0 : 0 ≤ (m * 69621 + 61) % 2147483587 := Int.emod_nonneg _ (by decide)
      have a1 : (m * 69621 + 61) % 2147483587 < 2147483587 := Int.emod_lt_of_pos _ (by decide)
      refine ⟨_, rfl, _, rfl, d, _, rfl, DPut.k (k := Sum.inr "mixed") (sm _ _ hd) (by show 2 < sizeLine; exact smallt (by omega)), ?_⟩
      rw [deck_put]
      refine ⟨_, rfl, _, rfl, _, _, rfl, rfl, mul_small a0 (by omega), _, rfl, 39373, _, rfl, rfl, mul_small (by decide) (by decide), _, _, rfl, rfl, .inl ⟨_, rfl, _, 2147483579, rfl, rfl, (show (0 : Int) < 2147483579 by decide), ?_⟩⟩
      refine ⟨_, rfl, _, 64, rfl, rfl, wide_div (b := 8) (by decide) (by decide) (by decide) (by decide), _, rfl, _, n, rfl, rfl, n0, ?_⟩
      exact q _ _ (Int.emod_nonneg _ (by omega)) (Int.emod_lt_of_pos _ n0) ⟨_, L, upd_same, by rw [upd_ne dg.symm]; exact sm _ _ hg, hL, a0, a1⟩ ⟨fun b u hb n1 _ => by rw [upd_ne n1]; exact sm _ _ hb⟩
abbrev s_deck : Stmt := topS 8
theorem sc_deck : FnScope ["_law_script", "_law_mixed", "_law_cell"] ["_law_script"] (defScope s_deck) := ⟨rfl, rfl, rfl, by decide +kernel, rfl, by decide +kernel, by decide +kernel⟩
theorem ok_deck {f : Addr} {fd : FuncData} (F : Fun K "_law_deck" "_law_deck" s_deck f fd) (gl : mg "_law_deck" = some (.ref f)) (T : Bl mg) : DefG P w K mg base 1 "_law_deck" ["_law_script"] (spDeck K) := by
  refine def_mk F gl (F.binds fun _ _ _ _ _ _ us hl => match us, hl with | [_], _ => rfl) (okG F sc_deck (fun vs H Q E h => ?_) fun cdv A outer s H vs Q E hr hc h => ?_)
  · obtain ⟨a, ns, rfl, _⟩ := h
    rfl
  · obtain ⟨a, ns, rfl, hS, hlen, q⟩ := h
    have nd := sc_deck.nd
    refine ⟨_, (pss_cons (ps_set (i := 1) nd rfl (by first | exact Or.inl rfl | exact Or.inr rfl) pe_int)
      (pss_cons (ps_for PassesOwn.never rfl (pi_list (pe_slice sl_list (pv 0) po_none (po_some pe_int))) (pg_name (i := 2) nd rfl (by first | exact Or.inl rfl | exact Or.inr rfl))
        (pss_one (ps_set (i := 1) nd rfl (by first | exact Or.inl rfl | exact Or.inr rfl) (pe_op op_mod (pe_callTy call_int1 (by rfl) T.int boot_int (pa_cons (pe_op op_add (pe_op op_add (pe_op op_mul (pv 1) pe_int) (pe_op op_mod (pe_callTy call_int1 (by rfl) T.int boot_int (pa_cons (pv 2) pa_nil)) pe_int)) pe_int) pa_nil)) pe_int))))
      (pss_one (ps_ret (pe_disp (pps_cons pe_str (pe_revL (pe_lc (own := [("_law_cell", 2)]) (g := (gName 2)) rfl nd (pi_list (pe_slice sl_list (pv 0) po_none (po_some pe_int))) (blkOk_by (own := [("_law_cell", 2)]) (N := ["_law_script", "_law_mixed", "_law_cell"]) (sc := defScope s_deck) (by decide +kernel)) (fun _ _ _ _ _ => (pg_name (i := 2) nd rfl (by first | exact Or.inl rfl | exact Or.inr rfl))) (fun _ _ _ _ _ => (pts_one (pt_cmpR op_ge (pv 2) (pe_op op_pow pe_int pe_int) (nomark _)))) (fun _ _ _ _ _ => (pv 2)))) (pps_cons pe_str (pv 1) pps_nil)) rfl rfl (by decide) (by decide)))))), ?_⟩
    -- for cell in script[:63]
    refine ⟨_, rfl, 63, rfl, a, _, rfl, hS, fun c nc => ?_⟩
    obtain ⟨ms, em, lm⟩ := cut_ints ns none (some 63)
    rw [em]
    have s1 : Same H (upd H c (.lst (ms.map V.int))) := Same.new nc
    refine ⟨c, rfl, ⟨_, tofL upd_same⟩, for_list (K := K) (a := c) (xs := ms.map V.int) (fun i σ H2 => ∃ (m : Int) (v : Option V), σ = [some (.ref a), some (.int m), v] ∧ H2 = upd H c (.lst (ms.map V.int)) ∧ 0 ≤ m ∧ m < 2147483587)
      ⟨_, none, rfl, rfl, by decide, by decide⟩ (fun i σ H2 _ ⟨_, _, _, e, _⟩ => by rw [e]; exact tofL upd_same) ?_ ?_⟩
    · rintro i y σ H2 hi ⟨m, v, rfl, rfl, m0, m1⟩
      obtain ⟨x, rfl, _⟩ := ints_at hi
      have b0 := Int.emod_nonneg x (show (2147483629 : Int) ≠ 0 by decide)
      refine ⟨_, rfl, m, 48271, rfl, rfl, mul_small m0 (by omega), _, rfl, .inl ⟨x, rfl, x, 2147483629, rfl, rfl, (show (0 : Int) < 2147483629 by decide), _, _, rfl, rfl, _, _, rfl, rfl, .inl ⟨_, rfl, _, 2147483587, rfl, rfl, (show (0 : Int) < 2147483587 by decide), _, _, rfl, rfl, Int.emod_nonneg _ (by decide), Int.emod_lt_of_pos _ (by decide)⟩⟩⟩
    · rintro σ H2 ⟨m, v, rfl, rfl, m0, m1⟩
      intro p np
      have npc : c ≠ p := ne_of_none upd_same np
      have s2 : Same H (upd (upd H c (.lst (ms.map V.int))) p (.dK [])) := s1.trans (Same.new np)
      refine ⟨_, rfl, 63, rfl, a, _, rfl, s2.seq hS, fun c2 nc2 => ?_⟩
      rw [em]
      have s3 := s2.trans (Same.new (o := .lst (ms.map V.int)) nc2)
      have ncp : p ≠ c2 := ne_of_none upd_same nc2
      refine ⟨c2, rfl, ⟨_, tofL upd_same⟩, fun D nD => ?_⟩
      have ncD : c2 ≠ D := ne_of_none upd_same nD
      have npD : p ≠ D := ne_of_none (by rw [upd_ne ncp]; exact upd_same) nD
      refine lc_list (K := K) (a := c2) (xs := ms.map V.int) (fun i H2 => ∃ L : List Int, Same H H2 ∧ H2 D = some (.lst (L.map V.int)) ∧ H2 c2 = some (.lst (ms.map V.int)) ∧ H2 p = some (.dK []) ∧ L.length ≤ i)
        ⟨[], s3.trans (Same.new nD), upd_same, by rw [upd_ne ncD]; exact upd_same, by rw [upd_ne npD, upd_ne ncp]; exact upd_same, Nat.le_refl _⟩
        (fun i H2 _ ⟨_, _, _, e, _⟩ => tofL e) ?_ ?_
      · rintro i y H2 hi ⟨L, sm, hD, hc2, hp, hL⟩
        obtain ⟨x, rfl, hil⟩ := ints_at hi
        refine ⟨rfl, _, rfl, 10, 18, rfl, rfl, ⟨by decide, by decide, by decide⟩, _, _, rfl, rfl, _, rfl, ?_⟩
        refine ite2 (fun _ => ?_) (fun _ => ?_)
        · refine ⟨_, rfl, _, hD, by rw [List.length_map]; exact smallt (by omega), L ++ [x], ?_, ?_, ?_, ?_, ?_⟩
          · intro b u hb
            rw [upd_ne (ne_of_none hb (s3.free nD))]
            exact sm _ _ hb
          · rw [upd_same, List.map_append]; rfl
          · rw [upd_ne ncD]; exact hc2
          · rw [upd_ne npD]; exact hp
          · rw [List.length_append]; exact Nat.succ_le_succ hL
        · exact ⟨L, sm, hD, hc2, hp, by omega⟩
      · rintro H2 ⟨L, sm, hD, hc2, hp, hL⟩
        refine ⟨D, _, rfl, tofL hD, fun g ng => ⟨_, rfl, ?_, deckD g m, rfl, (show 2 ≤ 15 by decide), ?_⟩⟩
        · rw [upd_ne (ne_of_none hp ng)]; exact hp
        · rw [deck_merge]
          have npg : p ≠ g := ne_of_none hp ng
          refine q p g _ (fun b u hb => ?_) (s1.free np) (sm.free ng) ⟨m, L.reverse, upd_same, ?_, ?_, m0, m1⟩
          · rw [upd_ne (ne_of_none hb (s1.free np)), upd_ne (ne_of_none hb (sm.free ng))]
            exact sm _ _ hb
          · rw [upd_ne npg.symm, upd_same, List.map_reverse]
          · rw [List.length_reverse]
            rw [List.length_map] at hL
            omega
abbrev s_pick : Stmt := topS 10
theorem sc_pick : FnScope ["_law_deck_here", "_law_some"] ["_law_deck_here", "_law_some"] (defScope s_pick) := ⟨rfl, rfl, rfl, by decide +kernel, rfl, by decide +kernel, by decide +kernel⟩
theorem ok_pickL {f : Addr} {fd : FuncData} (F : Fun K "_law_pick" "_law_pick" s_pick f fd) (gl : mg "_law_pick" = some (.ref f)) (T : Bl mg) (D_draw : DefG P w K mg base 1 "_law_draw" ["_law_deck_here", "_law_many"] spDraw) :
    DefG P w K mg base 2 "_law_pick" ["_law_deck_here", "_law_some"] spPickL := by
  refine def_mk F gl (F.binds fun _ _ _ _ _ _ us hl => match us, hl with | [_, _], _ => rfl) (okG F sc_pick (fun vs H Q E h => ?_) fun cdv A outer s H vs Q E hr hc h => ?_)
  · obtain ⟨d, g, a, xs, rfl, _⟩ := h
    rfl
  · obtain ⟨d, g, a, xs, rfl, D, ha, nag, hne, hl, q⟩ := h
    have nd := sc_pick.nd
    refine ⟨_, (pss_one (ps_ret (pe_ix ix_list (pv 1) (pe_def D_draw (hr.mono (by decide)) hc (by rfl) (pa_cons (pv 0) (pa_cons (pe_callB call_len_seq (by rfl) T.len boot_len (pa_cons (pv 1) pa_nil)) pa_nil))) (fun _ _ => rfl)))), ?_⟩
    have nad : a ≠ d ∧ a ≠ g := ⟨by obtain ⟨m, L, h1, _⟩ := D.ex; exact (ne_of h1 ha (fun z => nomatch z)).symm, nag⟩
    have h0 : 0 < xs.length := List.length_pos_iff.mpr hne
    refine ⟨_, rfl, _, rfl, _, rfl, a, xs, rfl, .inl (tofL ha), d, g, _, rfl, D, by omega, by omega, fun r H' r0 r1 D' M => ?_⟩
    obtain ⟨x, hx, e⟩ := at_in (xs := xs) r0 r1
    exact ⟨a, xs, r, x, rfl, rfl, tofL (M.at ha nad), e, q x H' hx D' M⟩
end
end NK04
namespace NK04
open PySem PySem.Spec PyProof.Rows L2 RZ GL GT
/-- determinants, of fewer than n columns -/
def spMinor (K : PySem.W.Frag) (n : Nat) : Sp := fun vs H Q _ => ∃ (a b : Addr) (xs : List V) (T : List (List Int)) (cs : List Nat), vs = [.ref a, .ref b] ∧ SqL K H a xs ∧ Rw K H xs T ∧ SqL K H b (nL cs) ∧ T.length = cs.length ∧ cs.length < n ∧ cs.length ≤ 100 ∧ (∀ t ∈ T, ∀ c ∈ cs, c < t.length) ∧ (∃ b, (∀ t ∈ T, Bd (2 ^ b) t) ∧ b ≤ 1000000) ∧
  ∀ H', Same H H' → Q (.int (LA.D (T.map vec) cs)) H'
def LpAt (a : LA.Ve) (k : Nat) (cs : List Nat) (g : List Nat → Int) : Int := (-1 : Int) ^ k * LA.Lp a (cs.drop k) (fun l => g (cs.take k ++ l))
theorem LpAt_step (a : LA.Ve) {k : Nat} {cs : List Nat} (h : k < cs.length) (g : List Nat → Int) : LpAt a k cs g = (-1 : Int) ^ k * a cs[k] * g (cs.take k ++ cs.drop (k + 1)) + LpAt a (k + 1) cs g := by
  unfold LpAt
  rw [List.drop_eq_getElem_cons h]
  show (-1 : Int) ^ k * (a cs[k] * g (cs.take k ++ cs.drop (k + 1)) - LA.Lp a (cs.drop (k + 1)) (fun l => g (cs.take k ++ cs[k] :: l))) = _
  have e : (fun l => g (cs.take k ++ cs[k] :: l)) = fun l => g (cs.take (k + 1) ++ l) := funext fun l => by
    rw [List.take_add_one, List.getElem?_eq_getElem h, List.append_assoc]
    rfl
  rw [e, Int.mul_sub, ← Int.mul_assoc, Int.pow_succ, Int.mul_neg, Int.mul_one, Int.neg_mul]
  rfl
theorem one_pow (k : Nat) : (-1 : Int) ^ k = 1 ∨ (-1 : Int) ^ k = -1 := by
  induction k with
  | zero => exact .inl rfl
  | succ k ih =>
    rw [Int.pow_succ]
    rcases ih with h | h <;> rw [h]
    · exact .inr rfl
    · exact .inl rfl
section
variable {P : Program} {w : World} {K : PySem.W.Frag} {mg : Str → Option Value} {base : Heap}
abbrev s_minor : Stmt := topS 11
theorem sc_minor : FnScope ["_law_some", "_law_columns", "_law_found", "_law_sign", "_law_k", "_law_column"] ["_law_some", "_law_columns"] (defScope s_minor) := ⟨rfl, rfl, rfl, by decide +kernel, rfl, by decide +kernel, by decide +kernel⟩
theorem no_minor {f : Addr} {fd : FuncData} (F : Fun K "_law_minor" "_law_minor" s_minor f fd) (gl : mg "_law_minor" = some (.ref f)) : DefG P w K mg base 1 "_law_minor" ["_law_some", "_law_columns"] (spMinor K 0) := by
  refine def_mk F gl (F.binds fun _ _ _ _ _ _ us hl => match us, hl with | [_, _], _ => rfl) (okG F sc_minor (fun vs H Q E h => ?_) fun cdv A outer s H vs Q E hr hc h => ?_)
  · obtain ⟨a, b, xs, T, cs, rfl, _⟩ := h
    rfl
  · obtain ⟨a, b, xs, T, cs, rfl, _, _, _, _, z, _⟩ := h
    exact absurd z (Nat.not_lt_zero _)
theorem ok_minor {f : Addr} {fd : FuncData} (F : Fun K "_law_minor" "_law_minor" s_minor f fd) (gl : mg "_law_minor" = some (.ref f)) (T : Bl mg) {k n : Nat} (D_minor : DefG P w K mg base k "_law_minor" ["_law_some", "_law_columns"] (spMinor K n)) :
    DefG P w K mg base (k + 1) "_law_minor" ["_law_some", "_law_columns"] (spMinor K (n + 1)) := by
  refine def_mk F gl (F.binds fun _ _ _ _ _ _ us hl => match us, hl with | [_, _], _ => rfl) (okG F sc_minor (fun vs H Q E h => ?_) fun cdv A outer s H vs Q E hr hc h => ?_)
  · obtain ⟨a, b, xs, T, cs, rfl, _⟩ := h
    rfl
  · obtain ⟨a, b, xs, Tb, cs, rfl, hA, hR, hB, el, cn, c100, ht, ⟨bb, hb, bB⟩, q⟩ := h
    have nd := sc_minor.nd
    have hu64 := hr.units
    refine ⟨_, (pss_cons (ps_if (pt_cmpR (op_eqD hu64) (pv 1) (pe_lst pa_nil) (nomark _))
        (pss_one (ps_ret pe_int))
        pss_nil)
      (pss_cons (ps_asg (pe_tup (pa_cons pe_int (pa_cons pe_int pa_nil))) (pg_tup rfl (pgs_cons (pg_name (i := 2) nd rfl (by first | exact Or.inl rfl | exact Or.inr rfl)) (pgs_cons (pg_name (i := 3) nd rfl (by first | exact Or.inl rfl | exact Or.inr rfl)) pgs_nil))))
      (pss_cons (ps_for PassesOwn.never rfl (pi_enum (by rfl) T.enumerate (pa_cons (pv 1) pa_nil)) (pg_tup rfl (pgs_cons (pg_name (i := 4) nd rfl (by first | exact Or.inl rfl | exact Or.inr rfl)) (pgs_cons (pg_name (i := 5) nd rfl (by first | exact Or.inl rfl | exact Or.inr rfl)) pgs_nil)))
        (pss_cons (ps_set (i := 2) nd rfl (by first | exact Or.inl rfl | exact Or.inr rfl) (pe_op op_add (pv 2) (pe_op op_mulX (pe_op op_mulX (pv 3) (pe_ix ix_tup (pe_ix ix_list (pv 0) pe_int (fun _ _ => rfl)) (pv 5) (fun _ _ => rfl))) (pe_def D_minor hr hc (by rfl) (pa_cons (pe_slice sl_list (pv 0) (po_some pe_int) po_none) (pa_cons (pe_op op_cat (pe_slice sl_list (pv 1) po_none (po_some (pv 4))) (pe_slice sl_list (pv 1) (po_some (pe_op op_add (pv 4) pe_int)) po_none)) pa_nil))))))
        (pss_one (ps_set (i := 3) nd rfl (by first | exact Or.inl rfl | exact Or.inr rfl) (pe_op op_sub pe_int (pv 3))))))
      (pss_one (ps_ret (pv 2)))))), ?_⟩
    refine ⟨_, rfl, Nat.zero_le _, fun o no => ?_⟩
    have s1 : Same H (upd H o (.lst [])) := Same.new no
    refine ⟨_, _, .lst (sql_same s1 hB) (dpa_ints _), .lst (tofL upd_same) .nil, shaped_ints _, shaped_ints [], _, rfl, ?_⟩
    rw [eqv_ints_nil]
    refine ite2 (fun e => ?_) (fun e => ?_)
    · have e0 : cs = [] := by simpa using e
      subst e0
      have e1 : Tb = [] := List.eq_nil_of_length_eq_zero el
      subst e1
      exact q _ s1
    · have e0 : cs ≠ [] := by simpa using e
      obtain ⟨t0, Tr, rfl⟩ : ∃ t0 Tr, Tb = t0 :: Tr := by
        match Tb, el with
        | t0 :: Tr, _ => exact ⟨t0, Tr, rfl⟩
        | [], el => exact absurd (List.eq_nil_of_length_eq_zero el.symm) e0
      cases hR with
      | cons h0 hR' =>
      rename_i p0 xs'
      refine ⟨(show 2 ≤ sizeLine from small (by decide)), fun t1 nt1 => ⟨t1, _, rfl, tofT upd_same, rfl, _, _, rfl, _, _, rfl, rfl, ?_⟩⟩
      have s1 := s1.trans (Same.new (o := .tup [.int 0, .int 1]) nt1)
      refine ⟨_, rfl, b, _, rfl, sql_same s1 hB, ?_⟩
      refine for_it (walk_enum (K := K) (a := b) (xs := nL cs)) (fun i σ H2 => ∃ v4 v5 f, σ = [some (.ref a), some (.ref b), some (.int f), some (.int ((-1 : Int) ^ i)), v4, v5] ∧ Same H H2 ∧ f + LpAt (vec t0) i cs (LA.D (Tr.map vec)) = LA.D ((t0 :: Tr).map vec) cs)
        ⟨none, none, 0, rfl, s1, ?_⟩ (fun i σ H2 _ ⟨_, _, _, _, s2, _⟩ => sql_same s2 hB) ?_ ?_
      · unfold LpAt
        rw [List.drop_zero, List.take_zero]
        show 0 + 1 * LA.Lp (vec t0) cs (fun l => LA.D (Tr.map vec) ([] ++ l)) = LA.Lp (vec t0) cs (LA.D (Tr.map vec))
        simp
      · rintro i x σ H2 H3 hi ⟨v4, v5, fo, rfl, s2, inv⟩ ⟨tt, u, v, rfl, nt, rfl, f1, f2⟩
        rw [nL_len] at hi
        obtain rfl : (V.int (i : Nat)) = u := Option.some.inj f1
        obtain rfl : v = .int (cs[i] : Nat) := Option.some.inj (f2.symm.trans (nL_at hi))
        have s3 : Same H (upd H2 tt (.tup [.int (i : Nat), .int (cs[i] : Nat)])) := s2.trans (Same.new nt)
        have hc0 : cs[i] < t0.length := ht t0 List.mem_cons_self _ (List.getElem_mem hi)
        have b0 := hb t0 List.mem_cons_self cs[i]
        refine ⟨tt, _, rfl, tofT upd_same, rfl, _, _, rfl, _, _, rfl, rfl, ?_⟩
        refine ⟨_, rfl, _, rfl, _, rfl, a, _, _, .ref p0, rfl, rfl, sql_same s3 hA, at0, _, rfl, p0, _, _, _, rfl, rfl, Same.tup s3 h0, atV hc0, _, _, rfl, rfl, ?_, _, rfl, 1, rfl, a, _, rfl, sql_same s3 hA, fun y ny => ?_⟩
        · refine mulX_ok (a := 0) (b := bb) ?_ b0 (by omega)
          rcases one_pow i with e | e <;> rw [e] <;> decide
        have s4 := s3.trans (Same.new (o := .lst (cutV (.ref p0 :: xs') (some 1) none)) ny)
        have ci : (1 : Int) = ((1 : Nat) : Int) := rfl
        refine ⟨_, rfl, _, rfl, (i : Nat), rfl, b, _, rfl, sql_same s4 hB, fun z nz => ?_⟩
        have s5 := s4.trans (Same.new (o := .lst (cutV (nL cs) none (some (i : Nat)))) nz)
        have y5 := Same.new (o := .lst (cutV (nL cs) none (some (i : Nat)))) nz
        refine ⟨_, rfl, ⟨_, rfl, _, _, rfl, rfl, ((i + 1 : Nat) : Int), rfl, b, _, rfl, sql_same s5 hB, fun z2 nz2 => ?_⟩⟩
        have y6 := y5.trans (Same.new (o := .lst (cutV (nL cs) (some ((i + 1 : Nat) : Int)) none)) nz2)
        have s6 := s5.trans (Same.new (o := .lst (cutV (nL cs) (some ((i + 1 : Nat) : Int)) none)) nz2)
        have hz : ∀ u : HO, upd (upd (upd (upd H2 tt (.tup [.int (i : Nat), .int (cs[i] : Nat)])) y (.lst (cutV (.ref p0 :: xs') (some 1) none))) z (.lst (cutV (nL cs) none (some (i : Nat))))) z2 u z = some (.lst (cutV (nL cs) none (some (i : Nat)))) := fun u => by rw [upd_ne (ne_of_none upd_same nz2)]; exact upd_same
        have hl1 : (cutV (nL cs) none (some ((i : Nat) : Int))).length + (cutV (nL cs) (some ((i + 1 : Nat) : Int)) none).length ≤ 1000 := by
          have l1 := cutV_length (nL cs) none (some ((i : Nat) : Int))
          have l2 := cutV_length (nL cs) (some ((i + 1 : Nat) : Int)) none
          rw [nL_len] at l1 l2
          omega
        refine ⟨z, z2, _, _, rfl, rfl, hz _, upd_same, small (by omega), fun pc npc => ?_⟩
        have y7 := y6.trans (Same.new (o := .lst (cutV (nL cs) none (some ((i : Nat) : Int)) ++ cutV (nL cs) (some ((i + 1 : Nat) : Int)) none)) npc)
        have s7 := s6.trans (Same.new (o := .lst (cutV (nL cs) none (some ((i : Nat) : Int)) ++ cutV (nL cs) (some ((i + 1 : Nat) : Int)) none)) npc)
        have ecut : cutV (nL cs) none (some ((i : Nat) : Int)) ++ cutV (nL cs) (some ((i + 1 : Nat) : Int)) none = nL (cs.take i ++ cs.drop (i + 1)) := by
          rw [cutV_take _ (by rw [nL_len]; omega), cutV_drop _ (by rw [nL_len]; omega), nL_take, nL_drop, nL_app]
        have ecutx : cutV (V.ref p0 :: xs') (some 1) none = xs' := by
          rw [ci, cutV_drop _ (by simp)]; rfl
        have sub : ∀ c ∈ cs.take i ++ cs.drop (i + 1), c ∈ cs := fun c hc => by
          rcases List.mem_append.mp hc with hc | hc
          · exact List.mem_of_mem_take hc
          · exact List.mem_of_mem_drop hc
        have ln : (cs.take i ++ cs.drop (i + 1)).length + 1 = cs.length := by rw [List.length_append, List.length_take, List.length_drop]; omega
        rw [List.length_cons] at el
        refine ⟨y, pc, xs', Tr, cs.take i ++ cs.drop (i + 1), rfl, ?_, hR'.same s7, ?_, by omega, by omega, by omega, fun t mt c mc => ht t (List.mem_cons_of_mem _ mt) c (sub c mc), ⟨bb, fun t mt => hb t (List.mem_cons_of_mem _ mt), bB⟩, fun H8 s8 => ?_⟩
        · have hy := y7 _ _ upd_same
          refine tofL ?_
          rw [hy, ecutx]
        · rw [← ecut]; exact tofL upd_same
        · refine ⟨_, _, rfl, rfl, ?_, _, _, rfl, rfl, ?_⟩
          · refine mulX_ok (a := bb) (b := (bb + 7) * Tr.length) ?_ (D_size Tr _ (fun t mt => hb t (List.mem_cons_of_mem _ mt)) (by omega)) ?_
            · rw [Int.natAbs_mul]
              have : ((-1 : Int) ^ i).natAbs = 1 := by rcases one_pow i with e | e <;> rw [e] <;> rfl
              rw [this, Nat.one_mul]; exact b0
            · have : (bb + 7) * Tr.length ≤ 1000007 * 100 := Nat.mul_le_mul (by omega) (by omega)
              omega
          · have e : (-1 : Int) ^ (i + 1) = 0 - (-1 : Int) ^ i := by rw [Int.pow_succ]; omega
            refine ⟨_, rfl, _, _, rfl, rfl, some (.int (i : Nat)), some (.int (cs[i] : Nat)), fo + (-1 : Int) ^ i * vec t0 cs[i] * LA.D (Tr.map vec) (cs.take i ++ cs.drop (i + 1)), ?_, s7.trans s8, ?_⟩
            · rw [e]; rfl
            · rw [← inv, LpAt_step _ hi]
              omega
      · rintro σ H2 ⟨v4, v5, f, rfl, s2, inv⟩
        refine ⟨_, rfl, ?_⟩
        have : f = LA.D ((t0 :: Tr).map vec) cs := by
          rw [← inv, nL_len]
          unfold LpAt
          rw [List.drop_length]
          show f = f + _ * 0
          omega
        rw [this]
        exact q H2 s2
end
end NK04
namespace NK04
open PySem PySem.Spec PyProof.Rows L2 RZ GL GT
def spChoices : Sp := fun vs H Q _ => ∃ (n k : Nat), vs = [.int n, .int k] ∧ n ≤ 1000 ∧ k ≤ 1000 ∧ (∀ j, j ≤ k → (chs n j).length ≤ 50000) ∧
  ∀ p xs H', Same H H' → nw H H' p = some (.lst xs) → Ls (nw H H') xs (chs n k) → Q (.ref p) H'
section
variable {P : Program} {w : World} {K : PySem.W.Frag} {mg : Str → Option Value} {base : Heap}
abbrev s_choices : Stmt := topS 12
theorem sc_choices : FnScope ["_law_many", "_law_size", "_law_found", "_law_k", "_law_longer", "_law_some", "_law_first", "_law_at"] ["_law_many", "_law_size"] (defScope s_choices) := ⟨rfl, rfl, rfl, by decide +kernel, rfl, by decide +kernel, by decide +kernel⟩
theorem ok_choices {f : Addr} {fd : FuncData} (F : Fun K "_law_choices" "_law_choices" s_choices f fd) (gl : mg "_law_choices" = some (.ref f)) (T : Bl mg) : DefG P w K mg base 1 "_law_choices" ["_law_many", "_law_size"] spChoices := by
  refine def_mk F gl (F.binds fun _ _ _ _ _ _ us hl => match us, hl with | [_, _], _ => rfl) (okG F sc_choices (fun vs H Q E h => ?_) fun cdv A outer s H vs Q E hr hc h => ?_)
  · obtain ⟨n, k, rfl, _⟩ := h
    rfl
  · obtain ⟨n, k, rfl, n1, k1, hz, q⟩ := h
    have nd := sc_choices.nd
    have hu64 := hr.units
    refine ⟨_, (pss_cons (ps_set (i := 2) nd rfl (by first | exact Or.inl rfl | exact Or.inr rfl) (pe_lst (pa_cons (pe_lst pa_nil) pa_nil)))
      (pss_cons (ps_for PassesOwn.never rfl (pi_range1 (by rfl) T.range (pa_cons (pv 1) pa_nil)) (pg_name (i := 3) nd rfl (by first | exact Or.inl rfl | exact Or.inr rfl))
        (pss_cons (ps_set (i := 4) nd rfl (by first | exact Or.inl rfl | exact Or.inr rfl) (pe_lst pa_nil))
        (pss_cons (ps_for PassesOwn.never rfl (pi_list (pv 2)) (pg_name (i := 5) nd rfl (by first | exact Or.inl rfl | exact Or.inr rfl))
          (C8.pss_cut (ps_set (i := 6) nd rfl (by first | exact Or.inl rfl | exact Or.inr rfl) (pe_ifExp (pt_cmpR (op_neD hu64) (pv 5) (pe_lst pa_nil) (nomark _)) (pe_op op_add (pe_ix ix_list (pv 5) (pe_un un_neg pe_int) (fun _ _ => rfl)) pe_int) pe_int))
          (pss_one (ps_expr (pe_bm PySem.F.plainAttrs_list PySem.F.slot_list_extend PySem.F.type_list_extend mt_extend (pv 4) (pa_cons (pe_lc (own := [("_law_at", 7)]) (g := (gName 7)) (tt := tYes) rfl nd (pi_range2 (by rfl) T.range (pa_cons (pv 6) (pa_cons (pv 0) pa_nil))) (blkOk_by (own := [("_law_at", 7)]) (N := ["_law_many", "_law_size", "_law_found", "_law_k", "_law_longer", "_law_some", "_law_first", "_law_at"]) (sc := defScope s_choices) (by decide +kernel)) (fun _ _ _ _ _ => (pg_name (i := 7) nd rfl (by first | exact Or.inl rfl | exact Or.inr rfl))) (fun _ _ _ _ _ => pts_nil) (fun _ _ _ _ _ => (pe_op op_cat (pv 5) (pe_lst (pa_cons (pv 7) pa_nil))))) pa_nil))))))
        (pss_one (ps_set (i := 2) nd rfl (by first | exact Or.inl rfl | exact Or.inr rfl) (pv 4))))))
      (pss_one (ps_ret (pv 2))))), ?_⟩
    refine ⟨Nat.zero_le _, fun e0 ne0 => ⟨(show 1 ≤ sizeLine from small (by decide)), fun f0 nf0 => ?_⟩⟩
    have sf := Same.new (o := .lst [.ref e0]) nf0
    have S0 : Same H (upd (upd H e0 (.lst [])) f0 (.lst [.ref e0])) := (Same.new ne0).trans sf
    refine ⟨_, rfl, (k : Nat), rfl, by omega, by omega, ?_⟩
    rw [Int.toNat_natCast]
    refine for_range (fun j σ H2 => ∃ F xs v3 v4 v5 v6 v7, σ = [some (.int (n : Nat)), some (.int (k : Nat)), some (.ref F), v3, v4, v5, v6, v7] ∧ Same H H2 ∧ nw H H2 F = some (.lst xs) ∧ Ls (nw H H2) xs (chs n j))
      ⟨f0, _, none, none, none, none, none, rfl, S0, by rw [nw_at ((Same.new (o := .lst []) ne0).free nf0)]; exact upd_same, .cons (s := []) (by rw [nw_at ne0]; exact sf _ _ upd_same) .nil⟩ ?_ ?_
    · rintro j σ H2 hj ⟨F, xs, v3, v4, v5, v6, v7, rfl, s2, hF0, hxs⟩
      have hF := (nw_of hF0).1
      have z1 := hz j (by omega)
      have z2 := hz (j + 1) hj
      refine ⟨Nat.zero_le _, fun L nL0 => ?_⟩
      have sL : Same H2 (upd H2 L (.lst [])) := Same.new nL0
      refine ⟨_, rfl, F, rfl, ⟨xs, tofL (sL _ _ hF)⟩, ?_⟩
      refine for_list (K := K) (a := F) (xs := xs) (fun i σ H3 => ∃ ys u5 u6 u7, σ = [some (.int (n : Nat)), some (.int (k : Nat)), some (.ref F), some (.int (0 + (j : Int))), some (.ref L), u5, u6, u7] ∧ Same H2 H3 ∧ H3 L = some (.lst ys) ∧ Ls (nw H (er L H3)) ys (((chs n j).take i).flatMap (ext_ n)))
        ⟨[], _, _, _, rfl, sL, upd_same, .nil⟩ (fun i σ H3 _ ⟨_, _, _, _, _, s3, _⟩ => tofL (s3 _ _ hF)) ?_ ?_
      · rintro i x σ H3 hi ⟨ys, u5, u6, u7, rfl, s3, hL, hys⟩
        obtain ⟨p, c, rfl, hc, hp0⟩ := hxs.get hi
        have hp := (nw_of hp0).1
        have hp3 := s3 _ _ hp
        obtain ⟨cl, cp, cb⟩ := mem_chs.mp (List.mem_of_getElem? hc)
        have fb : fst_ c ≤ n := by
          rcases Classical.em (c = []) with rfl | h
          · exact Nat.zero_le _
          · obtain ⟨c1, z, rfl⟩ := snocA h
            rw [fst_snoc]
            exact cb z (List.mem_append_right _ List.mem_cons_self)
        refine ⟨fun σ H4 => σ = [some (.int (n : Nat)), some (.int (k : Nat)), some (.ref F), some (.int (0 + (j : Int))), some (.ref L), some (.ref p), some (.int (fst_ c : Nat)), u7] ∧ Same H3 H4, ?_, ?_⟩
        · refine ⟨_, rfl, Nat.zero_le _, fun o no => ?_⟩
          have s4 : Same H3 (upd H3 o (.lst [])) := Same.new no
          refine ⟨_, _, .lst (tofL (s4 _ _ hp3)) (dpa_ints _), .lst (tofL upd_same) .nil, shaped_ints _, shaped_ints [], _, rfl, ?_⟩
          rw [eqv_ints_nil]
          refine ite2 (fun e => ?_) (fun e => ?_)
          · have h0 : c ≠ [] := by simpa using e
            obtain ⟨c1, z, rfl⟩ := snocA h0
            refine ⟨_, rfl, 1, rfl, p, _, -1, .int (z : Nat), rfl, rfl, tofL (s4 _ _ hp3), ?_, _, _, rfl, rfl, ?_, s4⟩
            · rw [nL_app]; exact atI_last _ _
            · rw [fst_snoc]; rfl
          · have h0 : c = [] := by simpa using e
            subst h0
            exact ⟨rfl, s4⟩
        · rintro σ4 H4 ⟨rfl, s4⟩
          have hL4 := s4 _ _ hL
          have hp4 := s4 _ _ hp3
          refine ⟨_, rfl, ty_l (tofL hL4), _, rfl, _, rfl, (fst_ c : Nat), (n : Nat), rfl, ⟨by omega, by omega, by omega, by omega⟩, fun Z nZ => ?_⟩
          have en : (((n : Nat) : Int) - ((fst_ c : Nat) : Int)).toNat = n - fst_ c := by omega
          rw [en]
          refine lc_range (fun m H5 => ∃ zs, Same H4 H5 ∧ H5 Z = some (.lst zs) ∧ Ls (nw H (er L (er Z H5))) zs ((ext_ n c).take m)) ⟨[], Same.new nZ, upd_same, .nil⟩ ?_ ?_
          · rintro m H5 hm ⟨zs, s5, hZ, hzs⟩
            refine ⟨rfl, _, rfl, _, rfl, (show 1 ≤ sizeLine from small (by decide)), fun o no => ?_⟩
            have s6 := Same.new (o := .lst [.int ((fst_ c : Nat) + (m : Int))]) no
            refine ⟨p, o, _, _, rfl, rfl, s6 _ _ (s5 _ _ hp4), upd_same, by rw [nL_len, cl]; exact small (by show j + 1 ≤ _; omega), fun r nr => ?_⟩
            have s7 := s6.trans (Same.new (o := .lst (nL c ++ [.int ((fst_ c : Nat) + (m : Int))])) nr)
            have hZ7 := s7 _ _ hZ
            have em : (ext_ n c)[m]? = some (c ++ [fst_ c + m]) := by
              unfold ext_
              rw [List.getElem?_map, List.getElem?_range hm]; rfl
            have hzl : zs.length ≤ n := by
              rw [hzs.len, List.length_take]
              unfold ext_
              rw [List.length_map, List.length_range]
              omega
            have nZr : r ≠ Z := (ne_of_none (s6 _ _ hZ) nr).symm
            have nLr : r ≠ L := (ne_of_none (s6 _ _ (s5 _ _ hL4)) nr).symm
            refine ⟨zs, hZ7, smallt (by omega), _, smut (s5.trans s7) nZ, upd_same, ?_⟩
            rw [List.take_add_one, em, er_upd]
            refine (hzs.same (nw_same (er_same (er_same s7)))).app (.cons (s := c ++ [fst_ c + m]) ?_ .nil)
            rw [nw_at ((s2.trans (s3.trans (s4.trans s5))).free (s6.free nr)), er_at nLr, er_at nZr, nL_app]
            exact upd_same
          · rintro H5 ⟨zs, s5, hZ, hzs⟩
            have el : (ext_ n c).length = n - fst_ c := by unfold ext_; rw [List.length_map, List.length_range]
            rw [List.take_of_length_le (by omega)] at hzs
            have hL5 := s5 _ _ hL4
            have tk : ((chs n j).take (i + 1)).flatMap (ext_ n) = ((chs n j).take i).flatMap (ext_ n) ++ ext_ n c := by
              rw [List.take_add_one, hc, List.flatMap_append]
              simp
            have le : (((chs n j).take (i + 1)).flatMap (ext_ n)).length ≤ 50000 := Nat.le_trans (flat_take _ _ _) z2
            rw [tk, List.length_append] at le
            refine ⟨L, Z, _, _, rfl, rfl, hL5, hZ, ?_, ?_⟩
            · rw [hys.len, hzs.len]; exact small (by omega)
            · refine ⟨ys ++ zs, _, _, _, rfl, smut (s3.trans (s4.trans s5)) nL0, upd_same, ?_⟩
              rw [tk, er_upd]
              refine (hys.same (nw_same (er_same (s4.trans s5)))).app (hzs.to fun _ _ z => ?_)
              obtain ⟨z1, z2⟩ := nw_of z
              rw [nw_at z2]; exact er_swap z1
      · rintro σ H3 ⟨ys, u5, u6, u7, rfl, s3, hL, hys⟩
        rw [hxs.len, List.take_length] at hys
        refine ⟨_, rfl, L, ys, _, _, _, _, _, rfl, s2.trans s3, by rw [nw_at (s2.free nL0)]; exact hL, hys.to fun _ _ z => ?_⟩
        obtain ⟨z1, z2⟩ := nw_of z
        rw [nw_at z2]; exact er_of z1
    · rintro σ H2 ⟨F, xs, v3, v4, v5, v6, v7, rfl, s2, hF, hxs⟩
      exact ⟨_, rfl, q F xs H2 s2 hF hxs⟩
end
end NK04
namespace NK04
open PySem PySem.Spec PyProof.Rows L2 RZ GL GT
def spMinors (K : PySem.W.Frag) (n : Nat) : Sp := fun vs H Q _ => ∃ (a : Addr) (xs : List V) (T : List (List Int)) (lg k : Nat), vs = [.ref a, .int lg, .int k] ∧ SqT K H a xs ∧ Rw K H xs T ∧ T.length ≤ 90 ∧ lg ≤ 90 ∧ k < n ∧ k ≤ 90 ∧ (∀ t ∈ T, t.length = lg) ∧ (∃ b, (∀ t ∈ T, Bd (2 ^ b) t) ∧ b ≤ 1000000) ∧
  (∀ j, j ≤ k → (chs T.length j).length ≤ 50000) ∧ (∀ j, j ≤ k → (chs lg j).length ≤ 50000) ∧ (minorsOf T lg k).length ≤ 50000 ∧
  ∀ p H', Same H H' → H' p = some (.lst ((minorsOf T lg k).map V.int)) → Q (.ref p) H'
section
variable {P : Program} {w : World} {K : PySem.W.Frag} {mg : Str → Option Value} {base : Heap}
abbrev s_minors : Stmt := topS 13
theorem sc_minors : FnScope ["_law_some", "_law_long", "_law_size", "_law_found", "_law_chosen", "_law_columns", "_law_at"] ["_law_some", "_law_long", "_law_size"] (defScope s_minors) := ⟨rfl, rfl, rfl, by decide +kernel, rfl, by decide +kernel, by decide +kernel⟩
theorem ok_minors {f : Addr} {fd : FuncData} (F : Fun K "_law_minors" "_law_minors" s_minors f fd) (gl : mg "_law_minors" = some (.ref f)) (T : Bl mg) {n : Nat} (D_choices : DefG P w K mg base 1 "_law_choices" ["_law_many", "_law_size"] spChoices)
    (D_minor : DefG P w K mg base 10 "_law_minor" ["_law_some", "_law_columns"] (spMinor K n)) : DefG P w K mg base 11 "_law_minors" ["_law_some", "_law_long", "_law_size"] (spMinors K n) := by
  refine def_mk F gl (F.binds fun _ _ _ _ _ _ us hl => match us, hl with | [_, _, _], _ => rfl) (okG F sc_minors (fun vs H Q E h => ?_) fun cdv A outer s H vs Q E hr hc h => ?_)
  · obtain ⟨a, xs, T, lg, k, rfl, _⟩ := h
    rfl
  · obtain ⟨a, xs, Tb, lg, k, rfl, hA, hR, t90, l90, kn, k90, ht, ⟨bb, hb, bB⟩, z1, z2, z3, q⟩ := h
    have nd := sc_minors.nd
    refine ⟨_, (pss_cons (ps_set (i := 3) nd rfl (by first | exact Or.inl rfl | exact Or.inr rfl) (pe_lst pa_nil))
      (pss_cons (ps_for PassesOwn.never rfl (pi_list (pe_def D_choices (hr.mono (by decide)) hc (by rfl) (pa_cons (pe_callB call_len_seq (by rfl) T.len boot_len (pa_cons (pv 0) pa_nil)) (pa_cons (pv 2) pa_nil)))) (pg_name (i := 4) nd rfl (by first | exact Or.inl rfl | exact Or.inr rfl))
        (pss_one (ps_for PassesOwn.never rfl (pi_list (pe_def D_choices (hr.mono (by decide)) hc (by rfl) (pa_cons (pv 1) (pa_cons (pv 2) pa_nil)))) (pg_name (i := 5) nd rfl (by first | exact Or.inl rfl | exact Or.inr rfl))
          (pss_one (ps_expr (pe_bm PySem.F.plainAttrs_list PySem.F.slot_list_append PySem.F.type_list_append mt_append (pv 3) (pa_cons (pe_def D_minor (hr.mono (by decide)) hc (by rfl) (pa_cons (pe_lc (own := [("_law_at", 6)]) (g := (gName 6)) (tt := tYes) rfl nd (pi_list (pv 4)) (blkOk_by (own := [("_law_at", 6)]) (N := ["_law_some", "_law_long", "_law_size", "_law_found", "_law_chosen", "_law_columns", "_law_at"]) (sc := defScope s_minors) (by decide +kernel)) (fun _ _ _ _ _ => (pg_name (i := 6) nd rfl (by first | exact Or.inl rfl | exact Or.inr rfl))) (fun _ _ _ _ _ => pts_nil) (fun _ _ _ _ _ => (pe_ix (G3.ix_tupK (K := K)) (pv 0) (pv 6) (fun _ _ => rfl)))) (pa_cons (pv 5) pa_nil))) pa_nil)))))))
      (pss_one (ps_ret (pv 3))))), ?_⟩
    refine ⟨Nat.zero_le _, fun L nL0 => ?_⟩
    have s1 : Same H (upd H L (.lst [])) := Same.new nL0
    refine ⟨_, rfl, a, _, rfl, .inr (Same.tup s1 hA), _, rfl, Tb.length, k, by rw [hR.len]; rfl, by omega, by omega, z1, fun pR xR H2 s2 hpR0 hxR0 => ⟨pR, rfl, ⟨_, tofL (nw_of hpR0).1⟩, ?_⟩⟩
    obtain ⟨hpR, npR⟩ := nw_of hpR0
    have npL : pR ≠ L := fun z => by rw [z] at npR; rw [upd_same] at npR; cases npR
    have hxR : Ls (er L H2) xR (chs Tb.length k) := hxR0.to fun p l z => by
      obtain ⟨z1, z2⟩ := nw_of z
      rw [er_at (fun e => by rw [e, upd_same] at z2; cases z2)]
      exact z1
    have hL2 := s2 _ _ upd_same
    have up : ∀ {H3 : Hp}, Same (er L H2) (er L H3) → SqL K H3 pR xR := fun s3 => tofL (er_of (s3 _ _ (by rw [er_at npL]; exact hpR)))
    refine for_list (K := K) (a := pR) (xs := xR) (fun i σ H3 => ∃ v4 v5 v6, σ = [some (.ref a), some (.int (lg : Nat)), some (.int (k : Nat)), some (.ref L), v4, v5, v6] ∧ (∃ ws : List Int, ws = ((chs Tb.length k).take i).flatMap (detsOf Tb lg k) ∧ H3 L = some (.lst (ws.map V.int))) ∧ Same (er L H2) (er L H3) ∧ Same H H3)
      ⟨none, none, none, rfl, ⟨[], rfl, hL2⟩, Same.refl _, s1.trans s2⟩ (fun i σ H3 _ ⟨_, _, _, _, _, s3, _⟩ => up s3) ?_ ?_
    · rintro i x σ H3 hi ⟨v4, v5, v6, rfl, ⟨ws, ews, hL3⟩, s3, sH⟩
      obtain ⟨p, r, rfl, hr0, hp⟩ := hxR.get hi
      obtain ⟨rl, rp, rb⟩ := mem_chs.mp (List.mem_of_getElem? hr0)
      refine ⟨_, rfl, _, rfl, lg, k, rfl, by omega, by omega, z2, fun pC xC H4 s4 hpC0 hxC0 => ⟨pC, rfl, ⟨_, tofL (nw_of hpC0).1⟩, ?_⟩⟩
      obtain ⟨hpC, npC⟩ := nw_of hpC0
      have npCL : pC ≠ L := fun z => by rw [z, hL3] at npC; cases npC
      have hxC : Ls (er L H4) xC (chs lg k) := hxC0.to fun p l z => by
        obtain ⟨z1, z2⟩ := nw_of z
        rw [er_at (fun e => by rw [e, hL3] at z2; cases z2)]
        exact z1
      have hL4 := s4 _ _ hL3
      have upC : ∀ {H5 : Hp}, Same (er L H4) (er L H5) → SqL K H5 pC xC := fun s5 => tofL (er_of (s5 _ _ (by rw [er_at npCL]; exact hpC)))
      refine for_list (K := K) (a := pC) (xs := xC) (fun m σ H5 => ∃ v5 v6, σ = [some (.ref a), some (.int (lg : Nat)), some (.int (k : Nat)), some (.ref L), some (.ref p), v5, v6] ∧ (∃ us : List Int, us = ws ++ (detsOf Tb lg k r).take m ∧ H5 L = some (.lst (us.map V.int))) ∧ Same (er L H4) (er L H5) ∧ Same H H5)
        ⟨_, _, rfl, ⟨ws, by rw [List.take_zero, List.append_nil], hL4⟩, Same.refl _, sH.trans s4⟩ (fun i σ H5 _ ⟨_, _, _, _, s5, _⟩ => upC s5) ?_ ?_
      · rintro m y σ H5 hm ⟨v5, v6, rfl, ⟨us, eus, hL5⟩, s5, sH5⟩
        obtain ⟨pc, cs, rfl, hcs0, hpc⟩ := hxC.get hm
        obtain ⟨cl, cp, cb⟩ := mem_chs.mp (List.mem_of_getElem? hcs0)
        have hp5 : H5 p = some (.lst (nL r)) := er_of (s5 _ _ (er_same s4 _ _ (s3 _ _ hp)))
        have hpc5 : H5 pc = some (.lst (nL cs)) := er_of (s5 _ _ hpc)
        refine ⟨_, rfl, ty_l (tofL hL5), _, rfl, p, rfl, ⟨_, tofL hp5⟩, fun Z nZ => ?_⟩
        refine lc_list (K := K) (a := p) (xs := nL r) (fun j H6 => Same H5 H6 ∧ ∃ zs, H6 Z = some (.lst zs) ∧ Rw K H6 zs (pickR Tb (r.take j))) ⟨Same.new nZ, [], upd_same, .nil⟩ (fun j H6 _ z => tofL (z.1 _ _ hp5)) ?_ ?_
        · rintro j z H6 hj ⟨s6, zs, hZ, hzs⟩
          have jr : j < r.length := by
            have := (List.getElem?_eq_some_iff.mp hj).1
            rwa [nL_len] at this
          obtain rfl : z = .int (r[j] : Nat) := Option.some.inj (hj.symm.trans (nL_at jr))
          have rj := rb r[j] (List.getElem_mem jr)
          obtain ⟨pt, ht1, ht2⟩ := hR.getT (List.getElem?_eq_getElem rj)
          refine ⟨rfl, _, rfl, _, rfl, a, _, _, .ref pt, rfl, rfl, Same.tup (sH5.trans s6) hA, atI_nat ht1, zs, hZ, ?_, smut s6 nZ, _, upd_same, ?_⟩
          · rw [hzs.len]; unfold pickR; rw [List.length_map, List.length_take]; exact smallt (by omega)
          · have tk : pickR Tb (r.take (j + 1)) = pickR Tb (r.take j) ++ [Tb[r[j]]] := by
              unfold pickR
              rw [List.take_add_one, List.getElem?_eq_getElem jr, List.map_append]
              show _ = _ ++ _
              congr 1
              show [Tb.getD r[j] []] = _
              rw [List.getD_eq_getElem?_getD, List.getElem?_eq_getElem rj]; rfl
            rw [tk]
            exact (hzs.app (.one (Same.tup (sH5.trans s6) ht2))).upd hZ
        · rintro H6 ⟨s6, zs, hZ, hzs⟩
          rw [nL_len, List.take_length] at hzs
          have inT : ∀ t ∈ pickR Tb r, t ∈ Tb := fun t ht' => by
            obtain ⟨i0, hi0, rfl⟩ := List.mem_map.mp ht'
            have := rb i0 hi0
            rw [List.getD_eq_getElem?_getD, List.getElem?_eq_getElem this]
            exact List.getElem_mem this
          have pl : (pickR Tb r).length = cs.length := by unfold pickR; rw [List.length_map, rl, cl]
          refine ⟨_, rfl, Z, pc, zs, pickR Tb r, cs, rfl, tofL hZ, hzs, tofL (s6 _ _ hpc5), pl, by omega, by omega, fun t mt c mc => by rw [ht t (inT t mt)]; exact cb c mc, ⟨bb, fun t mt => hb t (inT t mt), bB⟩, fun H7 s7 => ?_⟩
          have s67 := s6.trans s7
          have hL7 := s67 _ _ hL5
          have eD : (detsOf Tb lg k r)[m]? = some (LA.D ((pickR Tb r).map vec) cs) := by unfold detsOf; rw [List.getElem?_map, hcs0]; rfl
          refine ⟨L, _, _, rfl, rfl, hL7, ?_, ?_⟩
          · rw [List.length_map, eus, List.length_append, List.length_take]
            have l1 : (detsOf Tb lg k r).length = (chs lg k).length := by unfold detsOf; rw [List.length_map]
            have := z2 k (Nat.le_refl _)
            have l3 : ws.length ≤ 50000 := by rw [ews]; exact Nat.le_trans (flat_take _ _ _) z3
            have : ws.length + min m (detsOf Tb lg k r).length < 100001 := by omega
            exact Nat.lt_of_lt_of_le this (by decide)
          · refine ⟨_, _, rfl, ⟨us ++ [LA.D ((pickR Tb r).map vec) cs], ?_, ?_⟩, ?_, ?_⟩
            · rw [eus, List.take_add_one, eD, List.append_assoc]; rfl
            · rw [upd_same, List.map_append]; rfl
            · rw [er_upd]; exact s5.trans (er_same s67)
            · intro b u hb'
              have nb : b ≠ L := fun z => by rw [z, nL0] at hb'; cases hb'
              rw [upd_ne nb]
              exact (sH5.trans s67) _ _ hb'
      · rintro σ H5 ⟨v5, v6, rfl, ⟨us, eus, hL5⟩, s5, sH5⟩
        refine ⟨_, _, _, rfl, ⟨us, ?_, hL5⟩, s3.trans ((er_same s4).trans s5), sH5⟩
        have l1 : xC.length = (detsOf Tb lg k r).length := by rw [hxC.len]; unfold detsOf; rw [List.length_map]
        rw [eus, l1, List.take_length, List.take_add_one, hr0, List.flatMap_append, ews]
        simp
    · rintro σ H3 ⟨v4, v5, v6, rfl, ⟨ws, ews, hL3⟩, s3, sH⟩
      rw [hxR.len, List.take_length] at ews
      subst ews
      exact ⟨_, rfl, q L H3 sH hL3⟩
end
end NK04
namespace NK04
open PySem PySem.Spec PyProof.Rows L2 RZ GL GT
/-- where a row begins -/
structure IsLead (l : List Int) (m : Nat) : Prop where
  le : m ≤ l.length
  z : ∀ j, j < m → vec l j = 0
  nz : m < l.length → vec l m ≠ 0
def spLead (K : PySem.W.Frag) : Sp := fun vs H Q _ => ∃ (a : Addr) (l : List Int), vs = [.ref a] ∧ SqT K H a (l.map V.int) ∧ l.length ≤ 900 ∧ ∀ m H', Same H H' → IsLead l m → Q (.int (m : Nat)) H'
def spLeft (K : PySem.W.Frag) : Sp := fun vs H Q _ => ∃ (a t : Addr) (l : List Int) (xs : List V) (L : Hl) (w a0 b : Nat), vs = [.ref a, .ref t] ∧ (SqL K H a (l.map V.int) ∨ SqT K H a (l.map V.int)) ∧ SqT K H t xs ∧ Rw K H xs (rows L) ∧ HS w w L ∧ l.length = w ∧ w ≤ 900 ∧ Bd (2 ^ a0) l ∧ (∀ x ∈ L, Bd (2 ^ b) x.1) ∧ b < 8999 ∧ a0 + (L.length + 2) * (b + 2) ≤ 100000000 ∧ Spn ((rows L).map vec) (vec l) ∧
  ∀ p H' hs, Same H H' → H' p = some (.lst (hs.map V.int)) → hs.length = w → (∀ j, vec hs j = 0) → Q (.ref p) H'
def spDivisor (K : PySem.W.Frag) : Sp := fun vs H Q _ => ∃ (a : Addr) (ws : List Int), vs = [.ref a] ∧ SqL K H a (ws.map V.int) ∧ ∀ d : Int, 0 ≤ d → (∀ x ∈ ws, d ∣ x) → (∀ e, (∀ x ∈ ws, e ∣ x) → e ∣ d) → Q (.int d) H
theorem IsLead.eq {w : Nat} {L : Hl} (h : HS w w L) {x : List Int × Nat} (hx : x ∈ L) {m : Nat} (hm : IsLead x.1 m) : m = x.2 := by
  obtain ⟨h1, h2, h3⟩ := h.lp x hx
  have hl := h.ll x hx
  rcases Nat.lt_trichotomy m x.2 with e | e | e
  · exact absurd (h3 m e) (hm.nz (by omega))
  · exact e
  · have := hm.z x.2 e
    omega
theorem left_step {w : Nat} {L : Hl} (h : HS w w L) {i : Nat} {x : List Int × Nat} (hx : L[i]? = some x) {hs : List Int} (hl : hs.length = w) (sp : Spn ((rows (L.drop i)).map vec) (vec hs)) :
    Spn ((rows (L.drop (i + 1))).map vec) (vec (lessI hs x.1 ((vec hs x.2).fdiv (vec x.1 x.2)))) := by
  obtain ⟨il, ei⟩ := List.getElem?_eq_some_iff.mp hx
  have ed : L.drop i = x :: L.drop (i + 1) := by rw [List.drop_eq_getElem_cons il, ei]
  have mx : x ∈ L := List.mem_of_getElem? hx
  obtain ⟨h1, h2, h3⟩ := h.lp x mx
  rw [ed] at sp
  obtain ⟨m, c, hm, sd⟩ := LA.SP.dec (LA.mu1 0) sp
  have hm : m = 1 := hm
  subst hm
  have pw : (L.drop i).Pairwise fun x y => x.2 < y.2 ∧ 0 ≤ vec x.1 y.2 ∧ vec x.1 y.2 < vec y.1 y.2 := h.pw.sublist (List.drop_sublist _ _)
  rw [ed, List.pairwise_cons] at pw
  have z : 1 * vec hs x.2 + c * vec x.1 x.2 = 0 := by
    have := LA.SP.van (LA.mu1 0) sd (j := x.2) fun t ht => by
      obtain ⟨r, hr, rfl⟩ := List.mem_map.mp ht
      obtain ⟨y, hy, rfl⟩ := List.mem_map.mp hr
      rw [(h.lp y (List.mem_of_mem_drop hy)).2.2 x.2 (pw.1 y hy).1]
      exact Int.dvd_refl 0
    exact Int.zero_dvd.mp this
  have e : (vec hs x.2).fdiv (vec x.1 x.2) = -c := by
    have e1 : vec hs x.2 = (-c) * vec x.1 x.2 := by rw [Int.neg_mul]; rw [Int.one_mul] at z; omega
    rw [e1, Int.fdiv_eq_ediv_of_nonneg _ (by omega), Int.mul_ediv_cancel _ (by omega)]
  rw [e]
  exact sd.of fun j => by rw [vec_less (by rw [hl, h.ll x mx]), Int.neg_mul, Int.one_mul, Int.sub_neg]
section
variable {P : Program} {w : World} {K : PySem.W.Frag} {mg : Str → Option Value} {base : Heap}
abbrev s_lead : Stmt := topS 14
theorem sc_lead : FnScope ["_law_row", "_law_spots", "_law_at"] ["_law_row"] (defScope s_lead) := ⟨rfl, rfl, rfl, by decide +kernel, rfl, by decide +kernel, by decide +kernel⟩
theorem ok_lead {f : Addr} {fd : FuncData} (F : Fun K "_law_lead" "_law_lead" s_lead f fd) (gl : mg "_law_lead" = some (.ref f)) (T : Bl mg) : DefG P w K mg base 1 "_law_lead" ["_law_row"] (spLead K) := by
  refine def_mk F gl (F.binds fun _ _ _ _ _ _ us hl => match us, hl with | [_], _ => rfl) (okG F sc_lead (fun vs H Q E h => ?_) fun cdv A outer s H vs Q E hr hc h => ?_)
  · obtain ⟨a, l, rfl, _⟩ := h
    rfl
  · obtain ⟨a, l, rfl, hA, hl, q⟩ := h
    have nd := sc_lead.nd
    have hu64 := hr.units
    refine ⟨_, (pss_cons (ps_setLc (i := 1) (own := [("_law_at", 2)]) (g := (gName 2)) rfl nd rfl rfl (sw_true rfl rfl rfl (by decide +kernel)) (pi_range1 (by rfl) T.range (pa_cons (pe_callB call_len_seq (by rfl) T.len boot_len (pa_cons (pv 0) pa_nil)) pa_nil)) (blkOk_by (own := [("_law_at", 2)]) (N := ["_law_row", "_law_spots", "_law_at"]) (sc := defScope s_lead) (by decide +kernel)) (fun _ _ _ _ _ => (pg_name (i := 2) nd rfl (by first | exact Or.inl rfl | exact Or.inr rfl))) (fun _ _ _ _ _ => (pts_one (pt_cmpR op_ne (pe_ix (G3.ix_tupK (K := K)) (pv 0) (pv 2) (fun _ _ => rfl)) pe_int (nomark _)))) (fun _ _ _ _ _ => (pv 2)))
      (pss_one (ps_ret (pe_ifExp (pt_cmpR (op_neD hu64) (pv 1) (pe_lst pa_nil) (nomark _)) (pe_ix ix_list (pv 1) pe_int (fun _ _ => rfl)) (pe_callB call_len_seq (by rfl) T.len boot_len (pa_cons (pv 0) pa_nil)))))), ?_⟩
    refine ⟨_, rfl, a, _, rfl, .inr hA, (l.length : Nat), by rw [List.length_map], by omega, by omega, fun Z nZ => ?_⟩
    rw [Int.toNat_natCast]
    refine lc_range (fun i H2 => Same H H2 ∧ ∃ sp : List Nat, H2 Z = some (.lst (nL sp)) ∧ sp.length ≤ i ∧ ((sp = [] ∧ ∀ j, j < i → vec l j = 0) ∨ ∃ s0 r, sp = s0 :: r ∧ s0 < i ∧ vec l s0 ≠ 0 ∧ ∀ j, j < s0 → vec l j = 0)) ⟨Same.new nZ, [], upd_same, Nat.le_refl _, .inl ⟨rfl, fun j h => absurd h (Nat.not_lt_zero _)⟩⟩ ?_ ?_
    · rintro i H2 hi ⟨s2, sp, hZ, hs, alt⟩
      have zi : (0 : Int) + (i : Int) = (i : Int) := Int.zero_add _
      refine ⟨rfl, _, rfl, _, rfl, a, _, _, .int (vec l i), rfl, rfl, Same.tup s2 hA, by rw [zi]; exact atV hi, rfl, _, rfl, ite2 (fun e => ?_) (fun e => ?_)⟩
      · have nz : vec l i ≠ 0 := fun z => by
          rw [z] at e
          exact absurd e (by decide)
        refine ⟨_, rfl, _, hZ, by rw [nL_len]; exact smallt (by omega), smut s2 nZ, sp ++ [i], ?_, by rw [List.length_append]; exact Nat.succ_le_succ hs, ?_⟩
        · rw [upd_same, nL_app, zi]; rfl
        · right
          rcases alt with ⟨rfl, h0⟩ | ⟨s0, r, rfl, h1, h2, h3⟩
          · exact ⟨i, [], rfl, Nat.lt_succ_self _, nz, h0⟩
          · exact ⟨s0, r ++ [i], rfl, Nat.lt_succ_of_lt h1, h2, h3⟩
      · have zz : vec l i = 0 := Classical.byContradiction fun nz => e (by rw [decide_eq_false (fun q2 : V.int (vec l i) = V.int 0 => nz (by injection q2))]; rfl)
        refine ⟨s2, sp, hZ, Nat.le_succ_of_le hs, ?_⟩
        rcases alt with ⟨rfl, h0⟩ | ⟨s0, r, rfl, h1, h2, h3⟩
        · refine .inl ⟨rfl, fun j hj => ?_⟩
          rcases Nat.lt_or_eq_of_le (Nat.le_of_lt_succ hj) with e | e
          · exact h0 j e
          · rw [e]; exact zz
        · exact .inr ⟨s0, r, rfl, Nat.lt_succ_of_lt h1, h2, h3⟩
    · rintro H2 ⟨s2, sp, hZ, hs, alt⟩
      refine ⟨_, rfl, Nat.zero_le _, fun o no => ?_⟩
      have s3 : Same H2 (upd H2 o (.lst [])) := Same.new no
      refine ⟨_, _, .lst (tofL (s3 _ _ hZ)) (dpa_ints _), .lst (tofL upd_same) .nil, shaped_ints _, shaped_ints [], _, rfl, ?_⟩
      rw [eqv_ints_nil]
      rcases alt with ⟨rfl, h0⟩ | ⟨s0, r, rfl, h1, h2, h3⟩
      · refine iteNS rfl ⟨_, rfl, a, _, rfl, .inr (Same.tup (s2.trans s3) hA), ?_⟩
        rw [List.length_map]
        exact q _ _ (s2.trans s3) ⟨Nat.le_refl _, h0, fun h => absurd h (Nat.lt_irrefl _)⟩
      · refine iteT ⟨_, rfl, Z, _, 0, .int (s0 : Nat), rfl, rfl, tofL (s3 _ _ hZ), at0, ?_⟩
        exact q _ _ (s2.trans s3) ⟨Nat.le_of_lt h1, h3, fun _ => h2⟩
abbrev s_left : Stmt := topS 16
theorem sc_left : FnScope ["_law_row", "_law_told", "_law_here", "_law_far", "_law_at", "_law_often", "_law_x", "_law_y"] ["_law_row", "_law_told"] (defScope s_left) := ⟨rfl, rfl, rfl, by decide +kernel, rfl, by decide +kernel, by decide +kernel⟩
theorem ok_left {f : Addr} {fd : FuncData} (F : Fun K "_law_left" "_law_left" s_left f fd) (gl : mg "_law_left" = some (.ref f)) (T : Bl mg) (D_lead : DefG P w K mg base 1 "_law_lead" ["_law_row"] (spLead K)) : DefG P w K mg base 2 "_law_left" ["_law_row", "_law_told"] (spLeft K) := by
  refine def_mk F gl (F.binds fun _ _ _ _ _ _ us hl => match us, hl with | [_, _], _ => rfl) (okG F sc_left (fun vs H Q E h => ?_) fun cdv A outer s H vs Q E hr hc h => ?_)
  · obtain ⟨a, t, l, xs, L, wd, a0, b, rfl, _⟩ := h
    rfl
  · obtain ⟨a, t, l, xs, L, wt, a0, b, rfl, hA, hT, hR, hs, hl, w9, ba, bb, b9, cap, sp, q⟩ := h
    have nd := sc_left.nd
    refine ⟨_, (pss_cons (ps_set (i := 2) nd rfl (by first | exact Or.inl rfl | exact Or.inr rfl) (pe_callTy call_list_of (by rfl) T.list boot_list (pa_cons (pv 0) pa_nil)))
      (pss_cons (ps_for PassesOwn.never rfl (pi_tup (pv 1)) (pg_name (i := 3) nd rfl (by first | exact Or.inl rfl | exact Or.inr rfl))
        (pss_cons (ps_set (i := 4) nd rfl (by first | exact Or.inl rfl | exact Or.inr rfl) (pe_def D_lead (hr.mono (by decide)) hc (by rfl) (pa_cons (pv 3) pa_nil)))
        (pss_cons (ps_set (i := 5) nd rfl (by first | exact Or.inl rfl | exact Or.inr rfl) (pe_op op_fdivX (pe_ix ix_list (pv 2) (pv 4) (fun _ _ => rfl)) (pe_ix ix_tup (pv 3) (pv 4) (fun _ _ => rfl))))
        (pss_one (ps_setLc (i := 2) (own := [("_law_x", 6), ("_law_y", 7)]) (g := (gTup K 2 (gCons (gName 6) (gCons (gName 7) gNil)))) (tt := tYes) rfl nd rfl rfl (sw_true rfl rfl rfl (by decide +kernel)) (pi_zipM (K := K) (by rfl) T.zip (pa_cons (pv 2) (pa_cons (pv 3) pa_nil))) (blkOk_by (own := [("_law_x", 6), ("_law_y", 7)]) (N := ["_law_row", "_law_told", "_law_here", "_law_far", "_law_at", "_law_often", "_law_x", "_law_y"]) (sc := defScope s_left) (by decide +kernel)) (fun _ _ _ _ _ => (pg_tup rfl (pgs_cons (pg_name (i := 6) nd rfl (by first | exact Or.inl rfl | exact Or.inr rfl)) (pgs_cons (pg_name (i := 7) nd rfl (by first | exact Or.inl rfl | exact Or.inr rfl)) pgs_nil)))) (fun _ _ _ _ _ => pts_nil) (fun _ _ _ _ _ => (pe_op op_sub (pv 6) (pe_op op_mulX (pv 5) (pv 7)))))))))
      (pss_one (ps_ret (pv 2))))), ?_⟩
    refine ⟨_, rfl, a, _, rfl, hA, fun p0 np0 => ?_⟩
    have s0 : Same H (upd H p0 (.lst (l.map V.int))) := Same.new np0
    refine ⟨_, rfl, t, rfl, ⟨_, Same.tup s0 hT⟩, ?_⟩
    have rl : (rows L).length = L.length := List.length_map ..
    refine for_tup (K := K) (a := t) (xs := xs) (fun i σ H2 => ∃ p v3 v4 v5 v6 v7 hs', σ = [some (.ref a), some (.ref t), some (.ref p), v3, v4, v5, v6, v7] ∧ Same H H2 ∧ H2 p = some (.lst (hs'.map V.int)) ∧ hs'.length = wt ∧ Bd (2 ^ (a0 + i * (b + 1))) hs' ∧ Spn ((rows (L.drop i)).map vec) (vec hs'))
      ⟨p0, none, none, none, none, none, l, rfl, s0, upd_same, hl, by rw [Nat.zero_mul, Nat.add_zero]; exact ba, sp⟩ (fun i σ H2 _ ⟨_, _, _, _, _, _, _, _, s2, _⟩ => Same.tup s2 hT) ?_ ?_
    · rintro i x0 σ H2 hi ⟨p, v3, v4, v5, v6, v7, hs', rfl, s2, hp, hl', bd, sp'⟩
      obtain ⟨px, lx, rfl, hTi, hpx⟩ := hR.get hi
      obtain ⟨x, hx, rfl⟩ : ∃ x, L[i]? = some x ∧ x.1 = lx := by
        unfold rows at hTi
        rw [List.getElem?_map] at hTi
        obtain ⟨y, h1, h2⟩ := Option.map_eq_some_iff.mp hTi
        exact ⟨y, h1, h2⟩
      have mx := List.mem_of_getElem? hx
      have il := (List.getElem?_eq_some_iff.mp hx).1
      have lx := hs.ll x mx
      obtain ⟨h1, h2, h3⟩ := hs.lp x mx
      have hpx2 := Same.tup s2 hpx
      refine ⟨_, rfl, px, x.1, rfl, hpx2, by omega, fun m H3 s3 ml => ?_⟩
      obtain rfl := IsLead.eq hs mx ml
      have hp3 := s3 _ _ hp
      have hpx3 := Same.tup s3 hpx2
      refine ⟨_, rfl, _, rfl, p, _, _, _, rfl, rfl, tofL hp3, atV (by omega), _, rfl, _, rfl, px, _, _, _, rfl, rfl, hpx3, atV (by omega), _, _, rfl, rfl, divX (by omega) (bb x mx _) b9, ?_⟩
      have q1 : ((vec hs' x.2).fdiv (vec x.1 x.2)).natAbs ≤ 2 ^ (a0 + i * (b + 1)) := by
        refine Nat.le_trans ?_ (bd x.2)
        rw [Int.fdiv_eq_ediv_of_nonneg _ (by omega)]
        exact Int.natAbs_ediv_le_natAbs _ _
      have el : hs'.length = x.1.length := by omega
      have capi : a0 + i * (b + 1) + b + 2 ≤ 134217728 := by
        have := Nat.mul_le_mul (show i ≤ L.length + 2 by omega) (show b + 1 ≤ b + 2 by omega)
        have e2 : (L.length + 2) * (b + 2) = L.length * (b + 2) + 2 * (b + 2) := by rw [Nat.add_mul]
        omega
      refine ⟨_, rfl, _, rfl, p, px, _, _, rfl, tofL hp3, hpx3, fun Z nZ => ?_⟩
      refine lc_it (walk_zipM (K := K) (a := p) (b := px) (xs := hs'.map V.int) (ys := x.1.map V.int) (n := hs'.length) (by rw [List.length_map]) (by rw [List.length_map]; exact el))
        (fun j H4 => Same H3 H4 ∧ H4 Z = some (.lst (((lessI hs' x.1 ((vec hs' x.2).fdiv (vec x.1 x.2))).take j).map V.int))) ⟨Same.new nZ, upd_same⟩ (fun j H4 _ h => ⟨tofL (h.1 _ _ hp3), Same.tup h.1 hpx3⟩) ?_ ?_
      · rintro j y H4 H5 hj ⟨s4, hZ⟩ ⟨tt, u, v, rfl, nt, rfl, f1, f2⟩
        have j2 : j < x.1.length := by omega
        have e1 : u = .int (vec hs' j) := Option.some.inj (f1.symm.trans (mapV hj))
        have e2 : v = .int (vec x.1 j) := Option.some.inj (f2.symm.trans (mapV j2))
        subst e1 e2
        have nZt : Z ≠ tt := ne_of_none hZ nt
        refine ⟨tt, _, rfl, tofT upd_same, rfl, _, _, rfl, _, _, rfl, rfl, rfl, ?_⟩
        refine ⟨_, rfl, _, rfl, _, rfl, _, _, rfl, rfl, mulX_ok q1 (bb x mx j) capi, _, _, rfl, rfl, _, (by rw [upd_ne nZt]; exact hZ), ?_, ?_, ?_⟩
        · rw [List.length_map, List.length_take]; exact smallt (by omega)
        · intro p' o hp'
          rw [upd_ne (ne_of_none hp' nZ), upd_ne (ne_of_none (s4 _ _ hp') nt)]
          exact s4 _ _ hp'
        · rw [upd_same, List.take_add_one, lessI_at (at_vec hj) (at_vec j2), List.map_append]
          rfl
      · rintro H4 ⟨s4, hZ⟩
        have ll : (lessI hs' x.1 ((vec hs' x.2).fdiv (vec x.1 x.2))).length = hs'.length := lessI_len el
        rw [List.take_of_length_le (by omega)] at hZ
        refine ⟨Z, _, _, _, _, _, _, rfl, s2.trans (s3.trans s4), hZ, by omega, ?_, left_step hs hx hl' sp'⟩
        refine (Bd.less el bd (bb x mx)).mono ?_
        have q2 := Nat.mul_le_mul_right (2 ^ b) q1
        rw [← Nat.pow_add] at q2
        have e3 : a0 + (i + 1) * (b + 1) = a0 + i * (b + 1) + b + 1 := by rw [Nat.succ_mul]; omega
        have q3 : 2 ^ (a0 + i * (b + 1)) ≤ 2 ^ (a0 + i * (b + 1) + b) := Nat.pow_le_pow_right (by decide) (Nat.le_add_right _ _)
        rw [e3, Nat.pow_succ]
        omega
    · rintro σ H2 ⟨p, v3, v4, v5, v6, v7, hs', rfl, s2, hp, hl', bd, sp'⟩
      rw [hR.len, rl, List.drop_length] at sp'
      refine ⟨_, rfl, q p H2 hs' s2 hp hl' fun j => ?_⟩
      exact Int.zero_dvd.mp (LA.SP.nil (LA.mu1 0) sp' j)
abbrev s_divisor : Stmt := topS 17
theorem sc_divisor : FnScope ["_law_some", "_law_found", "_law_value", "_law_a", "_law_b"] ["_law_some"] (defScope s_divisor) := ⟨rfl, rfl, rfl, by decide +kernel, rfl, by decide +kernel, by decide +kernel⟩
theorem ok_divisor {f : Addr} {fd : FuncData} (F : Fun K "_law_divisor" "_law_divisor" s_divisor f fd) (gl : mg "_law_divisor" = some (.ref f)) (T : Bl mg) : DefG P w K mg base 1 "_law_divisor" ["_law_some"] (spDivisor K) := by
  refine def_mk F gl (F.binds fun _ _ _ _ _ _ us hl => match us, hl with | [_], _ => rfl) (okG F sc_divisor (fun vs H Q E h => ?_) fun cdv A outer s H vs Q E hr hc h => ?_)
  · obtain ⟨a, ws, rfl, _⟩ := h
    rfl
  · obtain ⟨a, ws, rfl, hA, q⟩ := h
    have nd := sc_divisor.nd
    refine ⟨_, (pss_cons (ps_set (i := 1) nd rfl (by first | exact Or.inl rfl | exact Or.inr rfl) pe_int)
      (pss_cons (ps_for PassesOwn.never rfl (pi_list (pv 0)) (pg_name (i := 2) nd rfl (by first | exact Or.inl rfl | exact Or.inr rfl))
        (pss_cons (ps_par (i := 3) (j := 4) rfl nd rfl rfl (by decide) rfl rfl (pa_cons (pv 1) (pa_cons (pe_callB call_abs (by rfl) T.abs boot_abs (pa_cons (pv 2) pa_nil)) pa_nil)) rfl)
        (pss_cons (ps_while PassesOwn.never (pt_cmpR op_gt (pv 4) pe_int (nomark _))
          (pss_one (ps_par (i := 3) (j := 4) rfl nd rfl rfl (by decide) rfl rfl (pa_cons (pv 4) (pa_cons (pe_op op_mod (pe_callTy call_int1 (by rfl) T.int boot_int (pa_cons (pv 3) pa_nil)) (pv 4)) pa_nil)) rfl)))
        (pss_one (ps_set (i := 1) nd rfl (by first | exact Or.inl rfl | exact Or.inr rfl) (pv 3))))))
      (pss_one (ps_ret (pv 1))))), ?_⟩
    refine ⟨_, rfl, a, rfl, ⟨_, hA⟩, ?_⟩
    refine for_list (K := K) (a := a) (xs := ws.map V.int) (fun i σ H2 => H2 = H ∧ ∃ (fo : Int) (v2 v3 v4 : Option V), σ = [some (.ref a), some (.int fo), v2, v3, v4] ∧ 0 ≤ fo ∧ (∀ x ∈ ws.take i, fo ∣ x) ∧ ∀ e, (∀ x ∈ ws.take i, e ∣ x) → e ∣ fo)
      ⟨rfl, 0, none, none, none, rfl, Int.le_refl _, (fun x hx => by rw [List.take_zero] at hx; cases hx), fun e _ => Int.dvd_zero e⟩ (fun i σ H2 _ ⟨e, _⟩ => by rw [e]; exact hA) ?_ ?_
    · rintro i x σ H2 hi ⟨rfl, fo, v2, v3, v4, rfl, f0, fd1, fd2⟩
      have mlt : i < ws.length := by
        have := (List.getElem?_eq_some_iff.mp hi).1
        rwa [List.length_map] at this
      obtain rfl : x = .int (ws[i]) := Option.some.inj (hi.symm.trans (by rw [List.getElem?_map, List.getElem?_eq_getElem mlt]; rfl))
      have tk : ws.take (i + 1) = ws.take i ++ [ws[i]] := by rw [List.take_add_one, List.getElem?_eq_getElem mlt]; rfl
      refine ⟨_, rfl, _, rfl, _, rfl, _, _, rfl, ?_⟩
      refine ⟨fun m σ H3 => H3 = H2 ∧ ∃ x y : Int, σ = [some (.ref a), some (.int fo), some (.int ws[i]), some (.int x), some (.int y)] ∧ 0 ≤ x ∧ 0 ≤ y ∧ m = y.toNat ∧ ∀ e : Int, (e ∣ x ∧ e ∣ y) ↔ (e ∣ fo ∧ e ∣ ws[i]), ⟨_, rfl, fo, if ws[i] < 0 then -ws[i] else ws[i], rfl, f0, by split <;> omega, rfl, fun e => ?_⟩, ?_⟩
      · split
        · rw [Int.dvd_neg]
        · exact Iff.rfl
      · rintro m σ H3 ⟨rfl, x, y, rfl, x0, y0, rfl, gd⟩
        refine ⟨_, rfl, _, _, rfl, rfl, _, rfl, ite2 (fun e => ?_) (fun e => ?_)⟩
        · have yp : 0 < y := by simpa using e
          refine ⟨_, fun σ' H' q' => q', _, rfl, _, rfl, .inl ⟨x, rfl, _, rfl, _, _, rfl, rfl, yp, _, _, rfl, ?_⟩⟩
          refine ⟨(x % y).toNat, ?_, rfl, y, x % y, rfl, y0, Int.emod_nonneg _ (by omega), rfl, fun e => ?_⟩
          · have := Int.emod_lt_of_pos x yp
            have := Int.emod_nonneg x (show y ≠ 0 by omega)
            omega
          · rw [← gd e]
            constructor
            · rintro ⟨h1, h2⟩
              refine ⟨?_, h1⟩
              have := Int.dvd_add (Int.dvd_mul_of_dvd_left (c := x / y) h1) h2
              rwa [Int.mul_ediv_add_emod] at this
            · rintro ⟨h1, h2⟩
              refine ⟨h2, ?_⟩
              rw [Int.emod_def]
              exact Int.dvd_sub h1 (Int.dvd_mul_of_dvd_left h2)
        · have yz : y = 0 := by
            have : ¬ 0 < y := by simpa using e
            omega
          subst yz
          refine ⟨_, rfl, rfl, x, _, _, _, rfl, x0, fun z hz => ?_, fun e he => ?_⟩
          · obtain ⟨g1, g2⟩ := (gd x).mp ⟨Int.dvd_refl x, Int.dvd_zero x⟩
            rw [tk] at hz
            rcases List.mem_append.mp hz with hz | hz
            · exact Int.dvd_trans g1 (fd1 z hz)
            · rw [List.mem_singleton.mp hz]; exact g2
          · rw [tk] at he
            exact ((gd e).mpr ⟨fd2 e fun z hz => he z (List.mem_append_left _ hz), he _ (List.mem_append_right _ List.mem_cons_self)⟩).1
    · rintro σ H2 ⟨rfl, fo, v2, v3, v4, rfl, f0, fd1, fd2⟩
      rw [List.length_map, List.take_length] at fd1 fd2
      exact ⟨_, rfl, q fo f0 fd1 fd2⟩
end
end NK04
namespace NK04
open PySem PySem.Spec PyProof.Rows L2 RZ GL GT
def spShaped (K : PySem.W.Frag) : Sp := fun vs H Q _ => ∃ (t : Addr) (xs : List V) (L : Hl) (w : Nat), vs = [.ref t, .int w] ∧ SqT K H t xs ∧ Rw K H xs (rows L) ∧ HS w w L ∧ w ≤ 900 ∧ ∀ H', Same H H' → Q (.bl true) H'
section
variable {P : Program} {w : World} {K : PySem.W.Frag} {mg : Str → Option Value} {base : Heap}
abbrev s_is_shaped : Stmt := topS 15
theorem sc_is_shaped : FnScope ["_law_told", "_law_long", "_law_row", "_law_entry", "_law_k", "_law_at", "_law_earlier"] ["_law_told", "_law_long"] (defScope s_is_shaped) := ⟨rfl, rfl, rfl, by decide +kernel, rfl, by decide +kernel, by decide +kernel⟩
theorem ok_is_shaped {f : Addr} {fd : FuncData} (F : Fun K "_law_is_shaped" "_law_is_shaped" s_is_shaped f fd) (gl : mg "_law_is_shaped" = some (.ref f)) (T : Bl mg) (D_lead : DefG P w K mg base 1 "_law_lead" ["_law_row"] (spLead K)) : DefG P w K mg base 2 "_law_is_shaped" ["_law_told", "_law_long"] (spShaped K) := by
  refine def_mk F gl (F.binds fun _ _ _ _ _ _ us hl => match us, hl with | [_, _], _ => rfl) (okG F sc_is_shaped (fun vs H Q E h => ?_) fun cdv A outer s H vs Q E hr hc h => ?_)
  · obtain ⟨t, xs, L, wt, rfl, _⟩ := h
    rfl
  · obtain ⟨t, xs, L, wt, rfl, hT, hR, hs, w9, q⟩ := h
    have nd := sc_is_shaped.nd
    have hu64 := hr.units
    refine ⟨_, (pss_cons (ps_if (pt_not (pt_val (pe_callB call_isi (by rfl) T.isinstance boot_isinstance (pa_cons (pv 0) (pa_cons (pe_bltn (v := .ty "tuple") (by rfl) T.tuple boot_tuple rfl) pa_nil)))))
        (pss_one (ps_ret pe_bl))
        pss_nil)
      (pss_cons (ps_for PassesOwn.never rfl (pi_tup (pv 0)) (pg_name (i := 2) nd rfl (by first | exact Or.inl rfl | exact Or.inr rfl))
        (pss_cons (ps_if (PW.pt (pw_or (pt_not (pt_val (pe_callB call_isi (by rfl) T.isinstance boot_isinstance (pa_cons (pv 2) (pa_cons (pe_bltn (v := .ty "tuple") (by rfl) T.tuple boot_tuple rfl) pa_nil))))) (pw_or (pt_cmpR op_ne (pe_callB call_len_seq (by rfl) T.len boot_len (pa_cons (pv 2) pa_nil)) (pv 1) (nomark _)) (pw_or (pt_cmpR op_eq (pe_def D_lead (hr.mono (by decide)) hc (by rfl) (pa_cons (pv 2) pa_nil)) (pv 1) (nomark _)) (pw_or1 (pt_cmpR op_lt (pe_ix ix_tup (pv 2) (pe_def D_lead (hr.mono (by decide)) hc (by rfl) (pa_cons (pv 2) pa_nil)) (fun _ _ => rfl)) pe_int (nomark _)))))))
          (pss_one (ps_ret pe_bl))
          pss_nil)
        (pss_one (ps_if (pt_cmpR (op_neD hu64) (pe_lc (own := [("_law_entry", 3)]) (g := (gName 3)) rfl nd (pi_tup (pv 2)) (blkOk_by (own := [("_law_entry", 3)]) (N := ["_law_told", "_law_long", "_law_row", "_law_entry", "_law_k", "_law_at", "_law_earlier"]) (sc := defScope s_is_shaped) (by decide +kernel)) (fun _ _ _ _ _ => (pg_name (i := 3) nd rfl (by first | exact Or.inl rfl | exact Or.inr rfl))) (fun _ _ _ _ _ => (pts_one (PW.pt (pw_or (pt_val (pe_callB (call_isiK (K := K)) (by rfl) T.isinstance boot_isinstance (pa_cons (pv 3) (pa_cons (pe_bltn (v := .ty "bool") (by rfl) T.bool boot_bool rfl) pa_nil)))) (pw_or1 (pt_not (pt_val (pe_callB (call_isiK (K := K)) (by rfl) T.isinstance boot_isinstance (pa_cons (pv 3) (pa_cons (pe_bltn (v := .ty "int") (by rfl) T.int boot_int rfl) pa_nil)))))))))) (fun _ _ _ _ _ => (pv 3))) (pe_lst pa_nil) (nomark _))
          (pss_one (ps_ret pe_bl))
          pss_nil))))
      (pss_cons (ps_for PassesOwn.never rfl (pi_enumT (by rfl) T.enumerate (pa_cons (pv 0) pa_nil)) (pg_tup rfl (pgs_cons (pg_name (i := 4) nd rfl (by first | exact Or.inl rfl | exact Or.inr rfl)) (pgs_cons (pg_name (i := 2) nd rfl (by first | exact Or.inl rfl | exact Or.inr rfl)) pgs_nil)))
        (pss_cons (ps_set (i := 5) nd rfl (by first | exact Or.inl rfl | exact Or.inr rfl) (pe_def D_lead (hr.mono (by decide)) hc (by rfl) (pa_cons (pv 2) pa_nil)))
        (pss_one (ps_for PassesOwn.never rfl (pi_tup (pe_slice sl_tupA (pv 0) po_none (po_some (pv 4)))) (pg_name (i := 6) nd rfl (by first | exact Or.inl rfl | exact Or.inr rfl))
          (pss_one (ps_if (PW.pt (pw_or (pt_cmpR op_ge (pe_def D_lead (hr.mono (by decide)) hc (by rfl) (pa_cons (pv 6) pa_nil)) (pv 5) (nomark _)) (pw_or1 (pt_not (pt_chain op_le op_lt pe_int (pe_ix ix_tup (pv 6) (pv 5) (fun _ _ => rfl)) (pe_ix ix_tup (pv 2) (pv 5) (fun _ _ => rfl)))))))
            (pss_one (ps_ret pe_bl))
            pss_nil))))))
      (pss_one (ps_ret pe_bl))))), ?_⟩
    refine ⟨_, rfl, _, _, _, _, true, rfl, .ty "tuple", ty_t hT, kit_ty (by decide +kernel), _, rfl, ?_⟩
    have rl : (rows L).length = L.length := List.length_map ..
    refine ⟨_, rfl, t, rfl, ⟨_, hT⟩, ?_⟩
    refine for_tup (K := K) (a := t) (xs := xs) (fun i σ H2 => ∃ v2 v3, σ = [some (.ref t), some (.int (wt : Nat)), v2, v3, none, none, none] ∧ Same H H2) ⟨none, none, rfl, Same.refl _⟩ (fun i σ H2 _ ⟨_, _, _, s2⟩ => Same.tup s2 hT) ?_ ?_
    · rintro i x0 σ H2 hi ⟨v2, v3, rfl, s2⟩
      obtain ⟨px, lx, rfl, hTi, hpx⟩ := hR.get hi
      obtain ⟨x, hx, rfl⟩ : ∃ x, L[i]? = some x ∧ x.1 = lx := by
        unfold rows at hTi
        rw [List.getElem?_map] at hTi
        obtain ⟨y, h1, h2⟩ := Option.map_eq_some_iff.mp hTi
        exact ⟨y, h1, h2⟩
      have mx := List.mem_of_getElem? hx
      have xl := hs.ll x mx
      obtain ⟨h1, h2, h3⟩ := hs.lp x mx
      have hpx2 := Same.tup s2 hpx
      refine ⟨_, rfl, _, _, _, _, true, rfl, .ty "tuple", ty_t hpx2, kit_ty (by decide +kernel), _, rfl, ?_⟩
      refine ⟨_, rfl, px, _, rfl, .inr hpx2, _, rfl, rfl, _, rfl, ?_⟩
      refine iteNS (by rw [List.length_map, xl]) ?_
      refine ⟨_, rfl, px, x.1, rfl, hpx2, by omega, fun m H3 s3 ml => ?_⟩
      obtain rfl := IsLead.eq hs mx ml
      refine ⟨_, rfl, rfl, _, rfl, ?_⟩
      rw [decide_eq_false (fun z : V.int (x.2 : Nat) = V.int (wt : Nat) => by injection z with z; omega)]
      refine iteF ?_
      have hpx3 := Same.tup s3 hpx2
      refine ⟨_, rfl, _, rfl, px, x.1, rfl, hpx3, by omega, fun m H4 s4 ml => ?_⟩
      obtain rfl := IsLead.eq hs mx ml
      have hpx4 := Same.tup s4 hpx3
      refine ⟨px, _, _, _, rfl, rfl, hpx4, atV (by omega), _, _, rfl, rfl, _, rfl, ?_⟩
      rw [decide_eq_false (show ¬ vec x.1 x.2 < 1 by omega)]
      refine iteF ?_
      -- all are integers
      refine ⟨_, rfl, px, rfl, ⟨_, hpx4⟩, fun Z nZ => ?_⟩
      refine lc_tup (K := K) (a := px) (xs := x.1.map V.int) (fun j H5 => Same H4 H5 ∧ H5 Z = some (.lst [])) ⟨Same.new nZ, upd_same⟩ (fun j H5 _ z => Same.tup z.1 hpx4) ?_ ?_
      · rintro j y H5 hj ⟨s5, hZ⟩
        have mlt : j < x.1.length := by
          have := (List.getElem?_eq_some_iff.mp hj).1
          rwa [List.length_map] at this
        obtain rfl : y = .int (vec x.1 j) := Option.some.inj (hj.symm.trans (mapV mlt))
        refine ⟨rfl, _, rfl, _, _, _, _, false, rfl, .ty "bool", .base (.int _), kit_ty (by decide +kernel), _, rfl, ?_⟩
        refine ⟨_, rfl, _, _, _, _, true, rfl, .ty "int", .base (.int _), kit_ty (by decide +kernel), _, rfl, ?_⟩
        exact ⟨s5, hZ⟩
      · rintro H5 ⟨s5, hZ⟩
        refine ⟨Nat.zero_le _, fun o no => ?_⟩
        have s6 : Same H5 (upd H5 o (.lst [])) := Same.new no
        refine ⟨_, _, .lst (tofL (s6 _ _ hZ)) .nil, .lst (tofL upd_same) .nil, shaped_ints [], shaped_ints [], _, rfl, ?_⟩
        exact ⟨_, _, rfl, s2.trans (s3.trans (s4.trans (s5.trans s6)))⟩
    · rintro σ H2 ⟨v2, v3, rfl, s2⟩
      have hT2 := Same.tup s2 hT
      have hR2 := hR.same s2
      refine ⟨_, rfl, t, _, rfl, hT2, ?_⟩
      refine for_it (walk_enumT (K := K) (a := t) (xs := xs)) (fun i σ H3 => ∃ v2 v4 v5 v6, σ = [some (.ref t), some (.int (wt : Nat)), v2, v3, v4, v5, v6] ∧ Same H2 H3) ⟨_, none, none, none, rfl, Same.refl _⟩ (fun i σ H3 _ ⟨_, _, _, _, _, s3⟩ => Same.tup s3 hT2) ?_ ?_
      · rintro i x0 σ H3 H4 hi ⟨u2, u4, u5, u6, rfl, s3⟩ ⟨tt, u, v, rfl, nt, rfl, f1, f2⟩
        obtain rfl : (V.int (i : Nat)) = u := Option.some.inj f1
        obtain ⟨px, lx, rfl, hTi, hpx⟩ := hR2.get f2
        obtain ⟨x, hx, rfl⟩ : ∃ x, L[i]? = some x ∧ x.1 = lx := by
          unfold rows at hTi
          rw [List.getElem?_map] at hTi
          obtain ⟨y, h1, h2⟩ := Option.map_eq_some_iff.mp hTi
          exact ⟨y, h1, h2⟩
        have mx := List.mem_of_getElem? hx
        have xl := hs.ll x mx
        have il := (List.getElem?_eq_some_iff.mp hx).1
        have s4 : Same H2 (upd H3 tt (.tup [.int (i : Nat), .ref px])) := s3.trans (Same.new nt)
        refine ⟨tt, _, rfl, tofT upd_same, rfl, _, _, rfl, _, _, rfl, rfl, ?_⟩
        refine ⟨_, rfl, px, x.1, rfl, Same.tup s4 hpx, by omega, fun m H5 s5 ml => ?_⟩
        obtain rfl := IsLead.eq hs mx ml
        have s25 := s4.trans s5
        have cutx : cutV xs none (some ((i : Nat) : Int)) = xs.take i := cutV_take xs (by rw [hR.len]; omega)
        refine ⟨_, rfl, _, rfl, (i : Nat), rfl, slA_of (Same.tup s25 hT2) fun pp H6 s6 hpp => ⟨pp, rfl, ⟨_, hpp⟩, ?_⟩⟩
        have s26 := s25.trans s6
        rw [cutx] at hpp
        refine for_tup (K := K) (a := pp) (xs := xs.take i) (fun j σ H7 => ∃ v6, σ = [some (.ref t), some (.int (wt : Nat)), some (.ref px), v3, some (.int (i : Nat)), some (.int (x.2 : Nat)), v6] ∧ Same H6 H7) ⟨_, rfl, Same.refl _⟩ (fun j σ H7 _ ⟨_, _, s7⟩ => Same.tup s7 hpp) ?_ ?_
        · rintro j z0 σ H7 hj ⟨v6, rfl, s7⟩
          have ji : j < i := by
            have := (List.getElem?_eq_some_iff.mp hj).1
            rw [List.length_take] at this
            omega
          rw [List.getElem?_take_of_lt ji] at hj
          obtain ⟨py, ly, rfl, hTj, hpy⟩ := hR2.get hj
          obtain ⟨y, hy, rfl⟩ : ∃ y, L[j]? = some y ∧ y.1 = ly := by
            unfold rows at hTj
            rw [List.getElem?_map] at hTj
            obtain ⟨y, h1, h2⟩ := Option.map_eq_some_iff.mp hTj
            exact ⟨y, h1, h2⟩
          have my := List.mem_of_getElem? hy
          have yl := hs.ll y my
          obtain ⟨jl, ej⟩ := List.getElem?_eq_some_iff.mp hy
          obtain ⟨il, ei⟩ := List.getElem?_eq_some_iff.mp hx
          have pw := (List.pairwise_iff_getElem.mp hs.pw) j i jl il ji
          rw [ei, ej] at pw
          obtain ⟨g1, g2, g3⟩ := pw
          have x2 := (hs.lp x mx).1
          have s27 := s26.trans s7
          refine ⟨_, rfl, py, y.1, rfl, Same.tup s27 hpy, by omega, fun m H8 s8 ml => ?_⟩
          obtain rfl := IsLead.eq hs my ml
          have s28 := s27.trans s8
          refine ⟨_, rfl, _, _, rfl, rfl, _, rfl, ?_⟩
          rw [decide_eq_false (show ¬ ((y.2 : Nat) : Int) ≥ ((x.2 : Nat) : Int) by omega)]
          refine iteF ?_
          refine ⟨_, rfl, _, rfl, py, _, _, _, rfl, rfl, Same.tup s28 hpy, atV (by omega), 0, _, rfl, rfl, _, rfl, ?_⟩
          rw [decide_eq_true (show (0 : Int) ≤ vec y.1 x.2 from g2)]
          refine iteT ⟨_, rfl, _, rfl, px, _, _, _, rfl, rfl, Same.tup s28 hpx, atV (by omega), _, _, rfl, rfl, _, rfl, ?_⟩
          rw [decide_eq_true (show vec y.1 x.2 < vec x.1 x.2 from g3)]
          exact ⟨_, rfl, s7.trans s8⟩
        · rintro σ H7 ⟨v6, rfl, s7⟩
          exact ⟨_, _, _, _, rfl, s26.trans s7⟩
      · rintro σ H3 ⟨u2, u4, u5, u6, rfl, s3⟩
        exact q _ (s2.trans s3)
end
end NK04
namespace NK04
open PySem PySem.Spec PyProof.Rows L2 RZ GL GT
def spMade (K : PySem.W.Frag) : Sp := fun vs H Q _ => ∃ (d g : Addr) (lg : Nat), vs = [.ref d, .int lg] ∧ Deck H d g ∧ 1 ≤ lg ∧ lg ≤ 5 ∧ ∀ (so : Addr) (xs : List V) (T : List (List Int)) (H' : Hp), Deck H' d g → Mv d g H H' →
  H' so = some (.tup xs) → Rw K H' xs T → T.length ≤ 3 → (∀ t ∈ T, t.length = lg) → (∀ t ∈ T, Bd 1000 t) → Q (.ref so) H'
def spSum (S : PySem.W.Frag → Hp → Addr → List V → Prop) (K : PySem.W.Frag) : Sp := fun vs H Q _ => ∃ (a b : Addr) (ns ms : List Int) (n c d : Nat), vs = [.ref a, .ref b] ∧ S K H a (ns.map V.int) ∧ SqT K H b (ms.map V.int) ∧ ns.length = n ∧ ms.length = n ∧ n ≤ 900 ∧ Bd (2 ^ c) ns ∧ Bd (2 ^ d) ms ∧ c + d + 2 ≤ 134217728 ∧
  ∀ H', Same H H' → Q (.int (dotV n (vec ns) (vec ms))) H'
theorem sum_range (f : Nat → Int) : ∀ n, ((List.range n).map f).sum = LA.sumN n f
  | 0 => rfl
  | n + 1 => by rw [List.range_succ, List.map_append, List.sum_append, sum_range f n]; simp [LA.sumN]
section
variable {P : Program} {w : World} {K : PySem.W.Frag} {mg : Str → Option Value} {base : Heap}
abbrev s_sum : Stmt := topS 20
theorem sc_sum : FnScope ["_law_row", "_law_far", "_law_x", "_law_y"] ["_law_row", "_law_far"] (defScope s_sum) := ⟨rfl, rfl, rfl, by decide +kernel, rfl, by decide +kernel, by decide +kernel⟩
theorem ok_sum {f : Addr} {fd : FuncData} (F : Fun K "_law_sum" "_law_sum" s_sum f fd) (gl : mg "_law_sum" = some (.ref f)) (T : Bl mg) : DefG P w K mg base 1 "_law_sum" ["_law_row", "_law_far"] (spSum SqT K) := by
  refine def_mk F gl (F.binds fun _ _ _ _ _ _ us hl => match us, hl with | [_, _], _ => rfl) (okG F sc_sum (fun vs H Q E h => ?_) fun cdv A outer s H vs Q E hr hc h => ?_)
  · obtain ⟨a, b, ns, ms, n, c, d, rfl, _⟩ := h
    rfl
  · obtain ⟨a, b, ns, ms, n, c, d, rfl, hA, hB, el, el2, hl, hb1, hb2, cd, q⟩ := h
    have nd := sc_sum.nd
    refine ⟨_, (pss_one (ps_ret (pe_callB (cr_sum rfl) (by rfl) T.sum boot_sum (pa_cons (pe_lc (own := [("_law_x", 2), ("_law_y", 3)]) (g := (gTup K 2 (gCons (gName 2) (gCons (gName 3) gNil)))) (tt := tYes) rfl nd (pi_zipA (by rfl) T.zip (pa_cons (pv 0) (pa_cons (pv 1) pa_nil))) (blkOk_by (own := [("_law_x", 2), ("_law_y", 3)]) (N := ["_law_row", "_law_far", "_law_x", "_law_y"]) (sc := defScope s_sum) (by decide +kernel)) (fun _ _ _ _ _ => (pg_tup rfl (pgs_cons (pg_name (i := 2) nd rfl (by first | exact Or.inl rfl | exact Or.inr rfl)) (pgs_cons (pg_name (i := 3) nd rfl (by first | exact Or.inl rfl | exact Or.inr rfl)) pgs_nil)))) (fun _ _ _ _ _ => pts_nil) (fun _ _ _ _ _ => (pe_op op_mulX (pv 2) (pv 3)))) pa_nil)))), ?_⟩
    refine ⟨_, rfl, _, rfl, a, b, _, _, rfl, .inr ⟨hA, hB, fun D nD => ?_⟩⟩
    refine lc_it (walk_zipT (K := K) (a := a) (b := b) (xs := ns.map V.int) (ys := ms.map V.int) (n := n) (by rw [List.length_map, List.length_map]; omega))
      (fun i H2 => Same H H2 ∧ H2 D = some (.lst (((List.range i).map fun k => vec ns k * vec ms k).map V.int))) ⟨Same.new nD, upd_same⟩ (fun i H2 _ h => ⟨Same.tup h.1 hA, Same.tup h.1 hB⟩) ?_ ?_
    · rintro i x H2 H3 hi ⟨s2, hD⟩ ⟨tt, u, v, rfl, nt, rfl, f1, f2⟩
      obtain rfl : u = .int (vec ns i) := Option.some.inj (f1.symm.trans (mapV (by omega)))
      obtain rfl : v = .int (vec ms i) := Option.some.inj (f2.symm.trans (mapV (by omega)))
      have nDt : D ≠ tt := ne_of_none hD nt
      refine ⟨tt, _, rfl, tofT upd_same, rfl, _, _, rfl, _, _, rfl, rfl, rfl, ?_⟩
      refine ⟨_, rfl, _, rfl, _, _, rfl, rfl, mulX_ok (hb1 i) (hb2 i) cd, _, (by rw [upd_ne nDt]; exact hD), by rw [List.length_map, List.length_map, List.length_range]; exact smallt (by omega), ?_, by rw [upd_same, List.range_succ, List.map_append, List.map_append]; rfl⟩
      intro p o hp
      rw [upd_ne (ne_of_none hp nD), upd_ne (ne_of_none (s2 _ _ hp) nt)]
      exact s2 _ _ hp
    · rintro H2 ⟨s2, hD⟩
      refine ⟨D, _, rfl, tofL hD, ?_⟩
      rw [sum_range]
      exact q _ s2
theorem ok_sumL {f : Addr} {fd : FuncData} (F : Fun K "_law_sum" "_law_sum" s_sum f fd) (gl : mg "_law_sum" = some (.ref f)) (T : Bl mg) : DefG P w K mg base 1 "_law_sum" ["_law_row", "_law_far"] (spSum SqL K) := by
  refine def_mk F gl (F.binds fun _ _ _ _ _ _ us hl => match us, hl with | [_, _], _ => rfl) (okG F sc_sum (fun vs H Q E h => ?_) fun cdv A outer s H vs Q E hr hc h => ?_)
  · obtain ⟨a, b, ns, ms, n, c, d, rfl, _⟩ := h
    rfl
  · obtain ⟨a, b, ns, ms, n, c, d, rfl, hA, hB, el, el2, hl, hb1, hb2, cd, q⟩ := h
    have nd := sc_sum.nd
    refine ⟨_, (pss_one (ps_ret (pe_callB (cr_sum rfl) (by rfl) T.sum boot_sum (pa_cons (pe_lc (own := [("_law_x", 2), ("_law_y", 3)]) (g := (gTup K 2 (gCons (gName 2) (gCons (gName 3) gNil)))) (tt := tYes) rfl nd (pi_zipM (K := K) (by rfl) T.zip (pa_cons (pv 0) (pa_cons (pv 1) pa_nil))) (blkOk_by (own := [("_law_x", 2), ("_law_y", 3)]) (N := ["_law_row", "_law_far", "_law_x", "_law_y"]) (sc := defScope s_sum) (by decide +kernel)) (fun _ _ _ _ _ => (pg_tup rfl (pgs_cons (pg_name (i := 2) nd rfl (by first | exact Or.inl rfl | exact Or.inr rfl)) (pgs_cons (pg_name (i := 3) nd rfl (by first | exact Or.inl rfl | exact Or.inr rfl)) pgs_nil)))) (fun _ _ _ _ _ => pts_nil) (fun _ _ _ _ _ => (pe_op op_mulX (pv 2) (pv 3)))) pa_nil)))), ?_⟩
    refine ⟨_, rfl, _, rfl, a, b, _, _, rfl, hA, hB, fun D nD => ?_⟩
    refine lc_it (walk_zipM (K := K) (a := a) (b := b) (xs := ns.map V.int) (ys := ms.map V.int) (n := n) (by rw [List.length_map]; omega) (by rw [List.length_map]; omega))
      (fun i H2 => Same H H2 ∧ H2 D = some (.lst (((List.range i).map fun k => vec ns k * vec ms k).map V.int))) ⟨Same.new nD, upd_same⟩ (fun i H2 _ h => ⟨sql_same h.1 hA, Same.tup h.1 hB⟩) ?_ ?_
    · rintro i x H2 H3 hi ⟨s2, hD⟩ ⟨tt, u, v, rfl, nt, rfl, f1, f2⟩
      obtain rfl : u = .int (vec ns i) := Option.some.inj (f1.symm.trans (mapV (by omega)))
      obtain rfl : v = .int (vec ms i) := Option.some.inj (f2.symm.trans (mapV (by omega)))
      have nDt : D ≠ tt := ne_of_none hD nt
      refine ⟨tt, _, rfl, tofT upd_same, rfl, _, _, rfl, _, _, rfl, rfl, rfl, ?_⟩
      refine ⟨_, rfl, _, rfl, _, _, rfl, rfl, mulX_ok (hb1 i) (hb2 i) cd, _, (by rw [upd_ne nDt]; exact hD), by rw [List.length_map, List.length_map, List.length_range]; exact smallt (by omega), ?_, by rw [upd_same, List.range_succ, List.map_append, List.map_append]; rfl⟩
      intro p o hp
      rw [upd_ne (ne_of_none hp nD), upd_ne (ne_of_none (s2 _ _ hp) nt)]
      exact s2 _ _ hp
    · rintro H2 ⟨s2, hD⟩
      refine ⟨D, _, rfl, tofL hD, ?_⟩
      rw [sum_range]
      exact q _ s2
abbrev s_made : Stmt := topS 18
theorem sc_made : FnScope ["_law_deck_here", "_law_long", "_law_far", "_law_found", "_law_k", "_law_row", "_law_at", "_law_entry"] ["_law_deck_here", "_law_long"] (defScope s_made) := ⟨rfl, rfl, rfl, by decide +kernel, rfl, by decide +kernel, by decide +kernel⟩
theorem ok_made {f : Addr} {fd : FuncData} (F : Fun K "_law_made" "_law_made" s_made f fd) (gl : mg "_law_made" = some (.ref f)) (T : Bl mg) (D_draw : DefG P w K mg base 1 "_law_draw" ["_law_deck_here", "_law_many"] spDraw)
    (D_pick : DefG P w K mg base 2 "_law_pick" ["_law_deck_here", "_law_some"] spPickL) : DefG P w K mg base 3 "_law_made" ["_law_deck_here", "_law_long"] (spMade K) := by
  refine def_mk F gl (F.binds fun _ _ _ _ _ _ us hl => match us, hl with | [_, _], _ => rfl) (okG F sc_made (fun vs H Q E h => ?_) fun cdv A outer s H vs Q E hr hc h => ?_)
  · obtain ⟨d, g, lg, rfl, _⟩ := h
    rfl
  · obtain ⟨d, g, lg, rfl, D, l1, l5, q⟩ := h
    have nd := sc_made.nd
    have hu64 := hr.units
    refine ⟨_, (pss_cons (ps_asg (pe_tup (pa_cons (pe_def D_pick (hr.mono (by decide)) hc (by rfl) (pa_cons (pv 0) (pa_cons (pe_lst (pa_cons pe_int (pa_cons pe_int (pa_cons pe_int (pa_cons pe_int pa_nil))))) pa_nil))) (pa_cons (pe_lst pa_nil) pa_nil))) (pg_tup rfl (pgs_cons (pg_name (i := 2) nd rfl (by first | exact Or.inl rfl | exact Or.inr rfl)) (pgs_cons (pg_name (i := 3) nd rfl (by first | exact Or.inl rfl | exact Or.inr rfl)) pgs_nil))))
      (pss_cons (ps_for PassesOwn.never rfl (pi_range1 (by rfl) T.range (pa_cons (pe_def D_draw (hr.mono (by decide)) hc (by rfl) (pa_cons (pv 0) (pa_cons pe_int pa_nil))) pa_nil)) (pg_name (i := 4) nd rfl (by first | exact Or.inl rfl | exact Or.inr rfl))
        (pss_cons (ps_setLc (i := 5) (own := [("_law_at", 6)]) (g := (gName 6)) (tt := tYes) rfl nd rfl rfl (sw_true rfl rfl rfl (by decide +kernel)) (pi_range1 (by rfl) T.range (pa_cons (pv 1) pa_nil)) (blkOk_by (own := [("_law_at", 6)]) (N := ["_law_deck_here", "_law_long", "_law_far", "_law_found", "_law_k", "_law_row", "_law_at", "_law_entry"]) (sc := defScope s_made) (by decide +kernel)) (fun _ _ _ _ _ => (pg_name (i := 6) nd rfl (by first | exact Or.inl rfl | exact Or.inr rfl))) (fun _ _ _ _ _ => pts_nil) (fun _ _ _ _ _ => (pe_op op_sub (pe_def D_draw (hr.mono (by decide)) hc (by rfl) (pa_cons (pv 0) (pa_cons (pe_op op_add (pe_op op_mulX pe_int (pv 2)) pe_int) pa_nil))) (pv 2))))
        (pss_cons (ps_setLc (i := 5) (own := [("_law_entry", 7)]) (g := (gName 7)) (tt := tYes) rfl nd rfl rfl (sw_true rfl rfl rfl (by decide +kernel)) (pi_list (pv 5)) (blkOk_by (own := [("_law_entry", 7)]) (N := ["_law_deck_here", "_law_long", "_law_far", "_law_found", "_law_k", "_law_row", "_law_at", "_law_entry"]) (sc := defScope s_made) (by decide +kernel)) (fun _ _ _ _ _ => (pg_name (i := 7) nd rfl (by first | exact Or.inl rfl | exact Or.inr rfl))) (fun _ _ _ _ _ => pts_nil) (fun _ _ _ _ _ => (pe_op op_mulX (pv 7) (pe_callTy call_int1 (by rfl) T.int boot_int (pa_cons (pe_cmpR op_gt (pe_def D_draw (hr.mono (by decide)) hc (by rfl) (pa_cons (pv 0) (pa_cons pe_int pa_nil))) pe_int (nomark _)) pa_nil)))))
        (C8.pss_cut (ps_if (PW.pt (pw_and (pt_cmpR (op_neD hu64) (pv 3) (pe_lst pa_nil) (nomark _)) (pw_and1 (pt_cmpR op_eq (pe_def D_draw (hr.mono (by decide)) hc (by rfl) (pa_cons (pv 0) (pa_cons pe_int pa_nil))) pe_int (nomark _)))))
          (pss_one (ps_setLc (i := 5) (own := [("_law_entry", 7)]) (g := (gName 7)) (tt := tYes) rfl nd rfl rfl (sw_true rfl rfl rfl (by decide +kernel)) (pi_tup (pe_ix ix_list (pv 3) pe_int (fun _ _ => rfl))) (blkOk_by (own := [("_law_entry", 7)]) (N := ["_law_deck_here", "_law_long", "_law_far", "_law_found", "_law_k", "_law_row", "_law_at", "_law_entry"]) (sc := defScope s_made) (by decide +kernel)) (fun _ _ _ _ _ => (pg_name (i := 7) nd rfl (by first | exact Or.inl rfl | exact Or.inr rfl))) (fun _ _ _ _ _ => pts_nil) (fun _ _ _ _ _ => (pe_op op_sub pe_int (pv 7)))))
          pss_nil)
        (pss_one (ps_expr (pe_bm PySem.F.plainAttrs_list PySem.F.slot_list_append PySem.F.type_list_append mt_append (pv 3) (pa_cons (pe_tupleOf (by rfl) T.tuple (pv 5)) pa_nil))))))))
      (pss_one (ps_ret (pe_tupleOf (by rfl) T.tuple (pv 3)))))), ?_⟩
    refine ⟨_, rfl, (show 4 ≤ sizeLine from small (by decide)), fun pl npl => ⟨d, g, pl, _, rfl, D.new npl, upd_same, (D.off npl).2, (fun z => nomatch z), by decide, fun x H1 hx D1 M1 => ?_⟩⟩
    obtain ⟨fa, rfl, fa0, fa1⟩ : ∃ fa : Int, x = .int fa ∧ 0 ≤ fa ∧ fa ≤ 1000 := by
      simp only [List.mem_cons, List.not_mem_nil, or_false] at hx
      rcases hx with rfl | rfl | rfl | rfl
      · exact ⟨2, rfl, by decide, by decide⟩
      · exact ⟨9, rfl, by decide, by decide⟩
      · exact ⟨9, rfl, by decide, by decide⟩
      · exact ⟨1000, rfl, by decide, by decide⟩
    refine ⟨Nat.zero_le _, fun fo nf => ⟨(show 2 ≤ sizeLine from small (by decide)), fun t0 nt0 => ⟨t0, _, rfl, tofT upd_same, rfl, _, _, rfl, _, _, rfl, rfl, ?_⟩⟩⟩
    have M01 : Mv d g H H1 := (Mv.of (Same.new npl)).trans M1
    have D2 := (D1.new (o := .lst []) nf).new (o := .tup [.int fa, .ref fo]) nt0
    have s2 : Same H1 (upd (upd H1 fo (.lst [])) t0 (.tup [.int fa, .ref fo])) := (Same.new nf).trans (Same.new nt0)
    have hfo : upd (upd H1 fo (.lst [])) t0 (.tup [.int fa, .ref fo]) fo = some (.lst []) := by rw [upd_ne (ne_of_none upd_same nt0)]; exact upd_same
    revert D2 s2 hfo
    generalize upd (upd H1 fo (.lst [])) t0 (.tup [.int fa, .ref fo]) = H2
    intro D2 s2 hfo
    have nfH : H fo = none := Mv.free D M01 D1 nf
    have off := D1.off nf
    refine ⟨_, rfl, d, g, 4, rfl, D2, by decide, by decide, fun t H3 t0' t1 D3 M3 => ⟨t, rfl, by omega, by omega, ?_⟩⟩
    have M13 : Mv d g H H3 := M01.trans ((Mv.of s2).trans M3)
    refine for_range (fun i σ H4 => ∃ fs Tb v4 v5 v6 v7, σ = [some (.ref d), some (.int (lg : Nat)), some (.int fa), some (.ref fo), v4, v5, v6, v7] ∧ Deck H4 d g ∧ Mv d g H H4 ∧ H4 fo = some (.lst fs) ∧ Rw K H4 fs Tb ∧ Tb.length ≤ i ∧ (∀ t ∈ Tb, t.length = lg) ∧ ∀ t ∈ Tb, Bd 1000 t)
      ⟨[], [], none, none, none, none, rfl, D3, M13, M3.at hfo off, .nil, Nat.le_refl _, (fun _ h => absurd h List.not_mem_nil), fun _ h => absurd h List.not_mem_nil⟩ ?_ ?_
    · rintro i σ H4 hi ⟨fs, Tb, v4, v5, v6, v7, rfl, D4, M4, hf, hR, li, hl, hb⟩
      have i3 : i < 3 := by omega
      refine ⟨_, rfl, (lg : Nat), rfl, by omega, by omega, fun Z nZ => ?_⟩
      rw [Int.toNat_natCast]
      have offZ := D4.off nZ
      refine lc_range (fun m H5 => ∃ zs : List Int, Deck H5 d g ∧ Mv d g H4 H5 ∧ H5 Z = some (.lst (zs.map V.int)) ∧ zs.length = m ∧ ∀ z ∈ zs, z.natAbs ≤ 1000) ⟨[], D4.new nZ, Mv.of (Same.new nZ), upd_same, rfl, fun _ h => absurd h List.not_mem_nil⟩ ?_ ?_
      · rintro m H5 hm ⟨zs, D5, M5, hZ, lz, bz⟩
        refine ⟨rfl, _, rfl, _, rfl, _, _, rfl, rfl, mulX_ok (a := 10) (b := 10) (show 2 ≤ 2 ^ 10 by decide) (show fa.natAbs ≤ 2 ^ 10 by omega) (by decide), _, _, rfl, rfl, d, g, _, rfl, D5, by omega, by omega, fun v H6 v0 v1 D6 M6 => ⟨_, rfl, _, _, rfl, rfl, _, M6.at hZ offZ, by rw [List.length_map]; exact smallt (by omega), zs ++ [v - fa], D6.mut offZ, Mv.mut (M5.trans M6) nZ, by rw [upd_same, List.map_append]; rfl, by rw [List.length_append, lz]; rfl, fun z hz => ?_⟩⟩
        rcases List.mem_append.mp hz with hz | hz
        · exact bz z hz
        · rw [List.mem_singleton.mp hz]; omega
      · rintro H5 ⟨zs, D5, M5, hZ, lz, bz⟩
        refine ⟨_, rfl, Z, rfl, ⟨_, tofL hZ⟩, fun Y nY => ?_⟩
        have offY := D5.off nY
        refine lc_list (K := K) (a := Z) (xs := zs.map V.int) (fun m H6 => ∃ ys : List Int, Deck H6 d g ∧ Mv d g H5 H6 ∧ H6 Y = some (.lst (ys.map V.int)) ∧ H6 Z = some (.lst (zs.map V.int)) ∧ ys.length = m ∧ ∀ z ∈ ys, z.natAbs ≤ 1000)
          ⟨[], D5.new nY, Mv.of (Same.new nY), upd_same, (Same.new nY) _ _ hZ, rfl, fun _ h => absurd h List.not_mem_nil⟩ (fun m H6 _ ⟨_, _, _, _, e, _⟩ => tofL e) ?_ ?_
        · rintro m x H6 hm ⟨ys, D6, M6, hY, hZ6, ly, by_⟩
          obtain ⟨x, rfl, hm2⟩ := ints_at hm
          have xb : x.natAbs ≤ 1000 := bz x (by
            rw [List.getElem?_map] at hm
            obtain ⟨y, h1, h2⟩ := Option.map_eq_some_iff.mp hm
            injection h2 with h2
            rw [← h2]; exact List.mem_of_getElem? h1)
          refine ⟨rfl, _, rfl, _, rfl, d, g, 3, rfl, D6, by decide, by decide, fun v H7 v0 v1 D7 M7 => ⟨_, _, rfl, rfl, .inr ⟨_, rfl, ?_⟩⟩⟩
          have nZY : Z ≠ Y := ne_of_none hZ nY
          have fin_ : ∀ e : Int, e.natAbs ≤ 1 → ∃ acc, H7 Y = some (.lst acc) ∧ acc.length < sizeLine ∧ ∃ ys' : List Int, Deck (upd H7 Y (.lst (acc ++ [.int (x * e)]))) d g ∧ Mv d g H5 (upd H7 Y (.lst (acc ++ [.int (x * e)]))) ∧ upd H7 Y (.lst (acc ++ [.int (x * e)])) Y = some (.lst (ys'.map V.int)) ∧ upd H7 Y (.lst (acc ++ [.int (x * e)])) Z = some (.lst (zs.map V.int)) ∧ ys'.length = m + 1 ∧ ∀ z ∈ ys', z.natAbs ≤ 1000 := fun e he => by
            refine ⟨_, M7.at hY offY, by rw [List.length_map]; exact smallt (by omega), ys ++ [x * e], D7.mut offY, Mv.mut (M6.trans M7) nY, by rw [upd_same, List.map_append]; rfl, by rw [upd_ne nZY]; exact M7.at hZ6 offZ, by rw [List.length_append, ly]; rfl, fun z hz => ?_⟩
            rcases List.mem_append.mp hz with hz | hz
            · exact by_ z hz
            · rw [List.mem_singleton.mp hz, Int.natAbs_mul]
              have := Nat.mul_le_mul xb he
              omega
          have one_ : ∀ z : Bool, (if z = true then (1 : Int) else 0).natAbs ≤ 1 := fun z => by cases z <;> decide
          refine ⟨_, _, rfl, rfl, mulX_ok (a := 10) (b := 0) (show x.natAbs ≤ 2 ^ 10 by omega) (one_ _) (by decide), ?_⟩
          exact fin_ _ (one_ _)
        · rintro H6 ⟨ys, D6, M6, hY, hZ6, ly, by_⟩
          rw [List.length_map, lz] at ly
          have M46 := M5.trans M6
          have hf6 := M46.at hf off
          have hR6 := hR.mv D4 M46
          refine ⟨fun σ H' => ∃ rw_ u7 l, σ = [some (.ref d), some (.int (lg : Nat)), some (.int fa), some (.ref fo), some (.int (0 + (i : Int))), some (.ref rw_), v6, u7] ∧ Deck H' d g ∧ Mv d g H6 H' ∧ H' rw_ = some (.lst (l.map V.int)) ∧ l.length = lg ∧ Bd 1000 l, ?_, ?_⟩
          · refine ⟨_, rfl, Nat.zero_le _, fun o no => ?_⟩
            have s7 : Same H6 (upd H6 o (.lst [])) := Same.new no
            refine ⟨_, _, .lst (tofL (s7 _ _ hf6)) ((hR6.same s7).dpa), .lst (tofL upd_same) .nil, shaped_rows _, shaped_ints [], _, rfl, ?_⟩
            rw [eqv_rows_nil]
            have mid : ∀ H', Deck H' d g → Mv d g H6 H' → ∃ rw_ u7 l, [some (V.ref d), some (.int (lg : Nat)), some (.int fa), some (.ref fo), some (.int (0 + (i : Int))), some (.ref Y), v6, v7] = [some (.ref d), some (.int (lg : Nat)), some (.int fa), some (.ref fo), some (.int (0 + (i : Int))), some (.ref rw_), v6, u7] ∧ Deck H' d g ∧ Mv d g H6 H' ∧ H' rw_ = some (.lst (l.map V.int)) ∧ l.length = lg ∧ Bd 1000 l :=
              fun H' D' M' => ⟨Y, _, ys, rfl, D', M', M'.at hY offY, ly, Bd.of by_⟩
            refine ite2 (fun e1 => ?_) (fun e1 => mid _ (D6.same s7) (Mv.of s7))
            have hne : Tb ≠ [] := by simpa using e1
            refine ⟨_, rfl, d, g, 4, rfl, D6.same s7, by decide, by decide, fun v H8 v0 v1 D8 M8 => ⟨rfl, _, rfl, ?_⟩⟩
            have M68 : Mv d g H6 H8 := (Mv.of s7).trans M8
            refine ite2 (fun e2 => ?_) (fun e2 => mid _ D8 M68)
            obtain ⟨t0, Tr, eT2⟩ : ∃ t0 Tr, Tb = t0 :: Tr := by
              match Tb, hne with
              | t0 :: Tr, _ => exact ⟨t0, Tr, rfl⟩
            have k0 : Tb[0]? = some t0 := by rw [eT2]; rfl
            have m0 : t0 ∈ Tb := List.mem_of_getElem? k0
            have hf8 := M68.at hf6 off
            have hR8 := hR6.mv D6 M68
            obtain ⟨p0, e01, e02⟩ := hR8.getT k0
            refine ⟨_, rfl, fo, _, 0, .ref p0, rfl, rfl, tofL hf8, atI_nat (j := 0) e01, p0, rfl, ⟨_, e02⟩, fun X nX => ?_⟩
            refine lc_tup (K := K) (a := p0) (xs := t0.map V.int) (fun m H9 => Same H8 H9 ∧ H9 X = some (.lst (((t0.take m).map fun z => 0 - z).map V.int))) ⟨Same.new nX, upd_same⟩ (fun m H9 _ z => Same.tup z.1 e02) ?_ ?_
            · rintro m x H9 hm ⟨s9, hX⟩
              obtain ⟨x, rfl, hm2⟩ := ints_at hm
              have xt : t0[m]? = some x := by
                rw [List.getElem?_map] at hm
                obtain ⟨y, h1, h2⟩ := Option.map_eq_some_iff.mp hm
                injection h2 with h2
                rw [← h2]; exact h1
              have lt0 := hl t0 m0
              refine ⟨rfl, _, rfl, _, _, rfl, rfl, _, hX, by rw [List.length_map, List.length_map, List.length_take]; exact smallt (by omega), smut s9 nX, ?_⟩
              rw [upd_same, List.take_add_one, xt, List.map_append, List.map_append]; rfl
            · rintro H9 ⟨s9, hX⟩
              rw [List.length_map, List.take_length] at hX
              refine ⟨X, _, _, rfl, D8.same s9, M68.trans (Mv.of s9), hX, by rw [List.length_map]; exact hl t0 m0, Bd.of fun z hz => ?_⟩
              obtain ⟨y, hy, rfl⟩ := List.mem_map.mp hz
              have := (hb t0 m0).mem hy
              omega
          · rintro σ7 H7 ⟨rw_, u7, l, rfl, D7, M7, hrw, ll, bl⟩
            have hf7 := M7.at hf6 off
            have hR7 := hR6.mv D6 M7
            refine ⟨_, rfl, ty_l (tofL hf7), _, rfl, .inl ⟨rw_, _, rfl, tofL hrw, fun pt npt => ?_⟩⟩
            have s8 := Same.new (H := H7) (o := .tup (l.map V.int)) npt
            refine ⟨fo, fs, _, rfl, rfl, s8 _ _ hf7, by rw [hR.len]; exact smallt (by omega), ?_⟩
            have nfpt : fo ≠ pt := ne_of_none hf7 npt
            refine ⟨_, Tb ++ [l], _, _, _, _, rfl, (D7.same s8).mut off, Mv.mut (M4.trans (M46.trans (M7.trans (Mv.of s8)))) nfH, upd_same, ?_, ?_, fun t ht => ?_, fun t ht => ?_⟩
            · exact ((hR7.same s8).app (.one (tofT upd_same))).upd (s8 _ _ hf7)
            · rw [List.length_append]; exact Nat.succ_le_succ li
            · rcases List.mem_append.mp ht with ht | ht
              · exact hl t ht
              · rw [List.mem_singleton.mp ht]; exact ll
            · rcases List.mem_append.mp ht with ht | ht
              · exact hb t ht
              · rw [List.mem_singleton.mp ht]; exact bl
    · rintro σ H4 ⟨fs, Tb, v4, v5, v6, v7, rfl, D4, M4, hf, hR, li, hl, hb⟩
      refine ⟨_, rfl, .inl ⟨fo, _, rfl, tofL hf, fun p np => ?_⟩⟩
      exact q p fs Tb _ (D4.new np) (M4.trans (Mv.of (Same.new np))) upd_same (hR.same (Same.new np)) (by omega) hl hb
end
end NK04
namespace NK04
open PySem PySem.Spec PyProof.Rows L2 RZ GL GT
def spRank (K : PySem.W.Frag) : Sp := fun vs H Q _ => ∃ (a : Addr) (xs : List V) (T : List (List Int)) (lg r : Nat), vs = [.ref a, .int lg] ∧ SqT K H a xs ∧ Rw K H xs T ∧ T.length ≤ 4 ∧ lg ≤ 5 ∧ (∀ t ∈ T, t.length = lg) ∧ (∃ b, (∀ t ∈ T, Bd (2 ^ b) t) ∧ b ≤ 1000000) ∧
  r ≤ min T.length lg ∧ (∀ k, r < k → ∀ v ∈ minorsOf T lg k, v = 0) ∧ (∃ v ∈ minorsOf T lg r, v ≠ 0) ∧ ∀ H', Same H H' → Q (.int (r : Nat)) H'
def SmR (H : Hp) (xs : List V) (k : Nat) : Prop := ∀ y ∈ xs, ∃ (p : Addr) (l : List Int), y = .ref p ∧ H p = some (.lst (l.map V.int)) ∧ l.length = k ∧ ∀ z ∈ l, z.natAbs ≤ 1
theorem SmR.to {H H' : Hp} {xs : List V} {k : Nat} (h : SmR H xs k) (f : ∀ p o, H p = some o → H' p = some o) : SmR H' xs k := fun y hy => by
  obtain ⟨p, l, e, h1, h2⟩ := h y hy
  exact ⟨p, l, e, f _ _ h1, h2⟩
theorem SmR.app {H : Hp} {xs ys : List V} {k : Nat} (h : SmR H xs k) (g : SmR H ys k) : SmR H (xs ++ ys) k := fun y hy => (List.mem_append.mp hy).elim (h y) (g y)
def spSmalls : Sp := fun vs H Q _ => ∃ lg : Nat, vs = [.int lg] ∧ lg ≤ 5 ∧ ∀ p xs H', Same H H' → H' p = some (.lst xs) → SmR H' xs lg → Q (.ref p) H'
section
variable {P : Program} {w : World} {K : PySem.W.Frag} {mg : Str → Option Value} {base : Heap}
abbrev s_rank : Stmt := topS 19
theorem sc_rank : FnScope ["_law_some", "_law_long", "_law_found", "_law_size"] ["_law_some", "_law_long"] (defScope s_rank) := ⟨rfl, rfl, rfl, by decide +kernel, rfl, by decide +kernel, by decide +kernel⟩
theorem ok_rank {f : Addr} {fd : FuncData} (F : Fun K "_law_rank" "_law_rank" s_rank f fd) (gl : mg "_law_rank" = some (.ref f)) (T : Bl mg) (D_minors : DefG P w K mg base 11 "_law_minors" ["_law_some", "_law_long", "_law_size"] (spMinors K 6))
    (D_divisor : DefG P w K mg base 1 "_law_divisor" ["_law_some"] (spDivisor K)) : DefG P w K mg base 12 "_law_rank" ["_law_some", "_law_long"] (spRank K) := by
  refine def_mk F gl (F.binds fun _ _ _ _ _ _ us hl => match us, hl with | [_, _], _ => rfl) (okG F sc_rank (fun vs H Q E h => ?_) fun cdv A outer s H vs Q E hr hc h => ?_)
  · obtain ⟨a, xs, T, lg, r, rfl, _⟩ := h
    rfl
  · obtain ⟨a, xs, Tb, lg, r, rfl, hA, hR, t4, l5, hl, hb, rm, over, ⟨v0, hv0, nz0⟩, q⟩ := h
    have nd := sc_rank.nd
    refine ⟨_, (pss_cons (ps_set (i := 2) nd rfl (by first | exact Or.inl rfl | exact Or.inr rfl) pe_int)
      (pss_cons (ps_for PassesOwn.never rfl (pi_range2 (by rfl) T.range (pa_cons pe_int (pa_cons (pe_op op_add (pe_callB (call_min2 rfl) (by rfl) T.min boot_min (pa_cons (pe_callB call_len_seq (by rfl) T.len boot_len (pa_cons (pv 0) pa_nil)) (pa_cons (pv 1) pa_nil))) pe_int) pa_nil))) (pg_name (i := 3) nd rfl (by first | exact Or.inl rfl | exact Or.inr rfl))
        (pss_one (ps_if (pt_cmpR op_gt (pe_def D_divisor (hr.mono (by decide)) hc (by rfl) (pa_cons (pe_def D_minors (hr.mono (by decide)) hc (by rfl) (pa_cons (pv 0) (pa_cons (pv 1) (pa_cons (pv 3) pa_nil)))) pa_nil)) pe_int (nomark _))
          (pss_one (ps_set (i := 2) nd rfl (by first | exact Or.inl rfl | exact Or.inr rfl) (pv 3)))
          pss_nil)))
      (pss_one (ps_ret (pv 2))))), ?_⟩
    obtain ⟨mn, emn⟩ : ∃ mn, mn = min Tb.length lg := ⟨_, rfl⟩
    refine ⟨_, rfl, a, _, rfl, .inr hA, _, rfl, _, _, rfl, _, _, rfl, rfl, 1, ((mn : Nat) : Int) + 1, ?_, ⟨by omega, by omega, by omega, by omega⟩, ?_⟩
    · have e : (if (lg : Int) < (xs.length : Int) then (lg : Int) else (xs.length : Int)) = (mn : Int) := by
        rw [hR.len, emn]
        split <;> omega
      show [V.int 1, V.int ((if (lg : Int) < (xs.length : Int) then (lg : Int) else (xs.length : Int)) + 1)] = _
      rw [e]
    rw [show (((mn : Nat) : Int) + 1 - 1).toNat = mn by omega]
    refine for_range (fun i σ H2 => ∃ (k : Nat) (v3 : Option V), σ = [some (.ref a), some (.int (lg : Nat)), some (.int (k : Nat)), v3] ∧ Same H H2 ∧ (r ≤ i → k = r))
      ⟨0, none, rfl, Same.refl _, fun h => by omega⟩ ?_ ?_
    · rintro i σ H2 hi ⟨k, v3, rfl, s2, top⟩
      have zi : (1 : Int) + (i : Int) = ((i + 1 : Nat) : Int) := by omega
      refine ⟨_, rfl, _, rfl, _, rfl, a, xs, Tb, lg, i + 1, by rw [zi]; rfl, Same.tup s2 hA, hR.same s2, by omega, by omega, by omega, by omega, hl, hb, fun j hj => Nat.le_trans (chs_le (by omega) (by omega)) (by decide), fun j hj => Nat.le_trans (chs_le (by omega) (by omega)) (by decide), ?_, fun pw H3 s3 hpw => ?_⟩
      · refine Nat.le_trans minors_len ?_
        exact Nat.le_trans (Nat.mul_le_mul (chs_le (by omega) (by omega)) (chs_le (by omega) (by omega))) (by decide)
      refine ⟨pw, _, rfl, tofL hpw, fun e e0 e1 e2 => ?_⟩
      have G : IsGcd (minorsOf Tb lg (i + 1)) e := ⟨e0, e1, e2⟩
      refine ⟨_, _, rfl, rfl, _, rfl, ite2 (fun c => ?_) (fun c => ?_)⟩
      · have ep : 0 < e := by simpa using c
        refine ⟨_, rfl, i + 1, _, by rw [← zi]; rfl, s2.trans s3, fun h => ?_⟩
        refine Classical.byContradiction fun ne => ?_
        have : (0 : Int) ∣ e := e2 0 fun x hx => by rw [over (i + 1) (by omega) x hx]; exact Int.dvd_refl 0
        have := Int.zero_dvd.mp this
        omega
      · have ez : e = 0 := by
          have : ¬ 0 < e := by simpa using c
          omega
        subst ez
        refine ⟨k, _, rfl, s2.trans s3, fun h => ?_⟩
        by_cases hr2 : r ≤ i
        · exact top hr2
        · have er : r = i + 1 := by omega
          rw [er] at hv0
          exact absurd (G.zero v0 hv0) nz0
    · rintro σ H2 ⟨k, v3, rfl, s2, top⟩
      rw [top (by rw [emn]; exact rm)]
      exact ⟨_, rfl, q H2 s2⟩
abbrev s_smalls : Stmt := topS 21
theorem sc_smalls : FnScope ["_law_long", "_law_found", "_law_k", "_law_longer", "_law_some", "_law_entry"] ["_law_long"] (defScope s_smalls) := ⟨rfl, rfl, rfl, by decide +kernel, rfl, by decide +kernel, by decide +kernel⟩
theorem ok_smalls {f : Addr} {fd : FuncData} (F : Fun K "_law_smalls" "_law_smalls" s_smalls f fd) (gl : mg "_law_smalls" = some (.ref f)) (T : Bl mg) : DefG P w K mg base 1 "_law_smalls" ["_law_long"] spSmalls := by
  refine def_mk F gl (F.binds fun _ _ _ _ _ _ us hl => match us, hl with | [_], _ => rfl) (okG F sc_smalls (fun vs H Q E h => ?_) fun cdv A outer s H vs Q E hr hc h => ?_)
  · obtain ⟨lg, rfl, _⟩ := h
    rfl
  · obtain ⟨lg, rfl, l5, q⟩ := h
    have nd := sc_smalls.nd
    refine ⟨_, (pss_cons (ps_set (i := 1) nd rfl (by first | exact Or.inl rfl | exact Or.inr rfl) (pe_lst (pa_cons (pe_lst pa_nil) pa_nil)))
      (pss_cons (ps_for PassesOwn.never rfl (pi_range1 (by rfl) T.range (pa_cons (pv 0) pa_nil)) (pg_name (i := 2) nd rfl (by first | exact Or.inl rfl | exact Or.inr rfl))
        (pss_cons (ps_set (i := 3) nd rfl (by first | exact Or.inl rfl | exact Or.inr rfl) (pe_lst pa_nil))
        (pss_cons (ps_for PassesOwn.never rfl (pi_list (pv 1)) (pg_name (i := 4) nd rfl (by first | exact Or.inl rfl | exact Or.inr rfl))
          (pss_one (ps_expr (pe_bm PySem.F.plainAttrs_list PySem.F.slot_list_extend PySem.F.type_list_extend mt_extend (pv 3) (pa_cons (pe_lc (own := [("_law_entry", 5)]) (g := (gName 5)) (tt := tYes) rfl nd (pi_tup (pe_tup (pa_cons (pe_un un_neg pe_int) (pa_cons pe_int (pa_cons pe_int pa_nil))))) (blkOk_by (own := [("_law_entry", 5)]) (N := ["_law_long", "_law_found", "_law_k", "_law_longer", "_law_some", "_law_entry"]) (sc := defScope s_smalls) (by decide +kernel)) (fun _ _ _ _ _ => (pg_name (i := 5) nd rfl (by first | exact Or.inl rfl | exact Or.inr rfl))) (fun _ _ _ _ _ => pts_nil) (fun _ _ _ _ _ => (pe_op op_cat (pv 4) (pe_lst (pa_cons (pv 5) pa_nil))))) pa_nil)))))
        (pss_one (ps_set (i := 1) nd rfl (by first | exact Or.inl rfl | exact Or.inr rfl) (pv 3))))))
      (pss_one (ps_ret (pv 1))))), ?_⟩
    refine ⟨Nat.zero_le _, fun e0 ne0 => ⟨(show 1 ≤ sizeLine from small (by decide)), fun f0 nf0 => ?_⟩⟩
    have sf := Same.new (o := .lst [.ref e0]) nf0
    have S0 : Same H (upd (upd H e0 (.lst [])) f0 (.lst [.ref e0])) := (Same.new ne0).trans sf
    refine ⟨_, rfl, (lg : Nat), rfl, by omega, by omega, ?_⟩
    rw [Int.toNat_natCast]
    refine for_range (fun j σ H2 => ∃ F xs v2 v3 v4 v5, σ = [some (.int (lg : Nat)), some (.ref F), v2, v3, v4, v5] ∧ Same H H2 ∧ H2 F = some (.lst xs) ∧ xs.length ≤ 3 ^ j ∧ SmR H2 xs j)
      ⟨f0, _, none, none, none, none, rfl, S0, upd_same, Nat.le_refl _, fun y hy => ⟨e0, [], List.mem_singleton.mp hy, sf _ _ upd_same, rfl, fun _ h => absurd h List.not_mem_nil⟩⟩ ?_ ?_
    · rintro j σ H2 hj ⟨F, xs, v2, v3, v4, v5, rfl, s2, hF, hx, hs⟩
      have pw : 3 ^ j ≤ 3 ^ 5 := Nat.pow_le_pow_right (by decide) (by omega)
      have x243 : xs.length ≤ 243 := Nat.le_trans hx pw
      refine ⟨Nat.zero_le _, fun L nL0 => ?_⟩
      have sL : Same H2 (upd H2 L (.lst [])) := Same.new nL0
      refine ⟨_, rfl, F, rfl, ⟨xs, tofL (sL _ _ hF)⟩, ?_⟩
      refine for_list (K := K) (a := F) (xs := xs) (fun i σ H3 => ∃ ys u4 u5, σ = [some (.int (lg : Nat)), some (.ref F), some (.int (0 + (j : Int))), some (.ref L), u4, u5] ∧ Same H2 H3 ∧ H3 L = some (.lst ys) ∧ ys.length ≤ 3 * i ∧ SmR (er L H3) ys (j + 1))
        ⟨[], _, _, rfl, sL, upd_same, Nat.le_refl _, fun _ h => absurd h List.not_mem_nil⟩ (fun i σ H3 _ ⟨_, _, _, _, s3, _⟩ => tofL (s3 _ _ hF)) ?_ ?_
      · rintro i x σ H3 hi ⟨ys, u4, u5, rfl, s3, hL, hy, hys⟩
        have hil := (List.getElem?_eq_some_iff.mp hi).1
        obtain ⟨p, c, rfl, hp, cl, cb⟩ := hs x (List.mem_of_getElem? hi)
        have hp3 := s3 _ _ hp
        refine ⟨_, rfl, ty_l (tofL hL), 1, rfl, (show 3 ≤ sizeLine from small (by decide)), fun tt ntt => ?_⟩
        have s4 : Same H3 (upd H3 tt (.tup [.int (-1), .int 0, .int 1])) := Same.new ntt
        refine ⟨tt, rfl, ⟨_, tofT upd_same⟩, fun Z nZ => ?_⟩
        have hL4 := s4 _ _ hL
        have hp4 := s4 _ _ hp3
        have htt : upd H3 tt (.tup [.int (-1), .int 0, .int 1]) tt = some (.tup [.int (-1), .int 0, .int 1]) := upd_same
        revert s4 hL4 hp4 nZ htt
        generalize upd H3 tt (.tup [.int (-1), .int 0, .int 1]) = H4
        intro s4 nZ hL4 hp4 htt
        refine lc_tup (K := K) (a := tt) (xs := [.int (-1), .int 0, .int 1]) (fun m H5 => ∃ zs, Same H4 H5 ∧ H5 Z = some (.lst zs) ∧ zs.length = m ∧ SmR (er L (er Z H5)) zs (j + 1)) ⟨[], Same.new nZ, upd_same, rfl, fun _ h => absurd h List.not_mem_nil⟩ (fun m H5 _ ⟨_, z, _⟩ => tofT (z _ _ htt)) ?_ ?_
        · rintro m x H5 hm ⟨zs, s5, hZ, zl, hzs⟩
          have m3 : m < 3 := (List.getElem?_eq_some_iff.mp hm).1
          obtain ⟨v, rfl, vb⟩ : ∃ v : Int, x = .int v ∧ v.natAbs ≤ 1 := by
            have := List.mem_of_getElem? hm
            simp only [List.mem_cons, List.not_mem_nil, or_false] at this
            rcases this with rfl | rfl | rfl
            · exact ⟨-1, rfl, by decide⟩
            · exact ⟨0, rfl, by decide⟩
            · exact ⟨1, rfl, by decide⟩
          refine ⟨rfl, _, rfl, _, rfl, (show 1 ≤ sizeLine from small (by decide)), fun o no => ?_⟩
          have s6 := Same.new (o := .lst [.int v]) no
          refine ⟨p, o, _, _, rfl, rfl, s6 _ _ (s5 _ _ hp4), upd_same, by rw [List.length_map, cl]; exact small (by show j + 1 ≤ _; omega), fun r nr => ?_⟩
          have s7 := s6.trans (Same.new (o := .lst (c.map V.int ++ [.int v])) nr)
          have hZ7 := s7 _ _ hZ
          have nZr : r ≠ Z := (ne_of_none (s6 _ _ hZ) nr).symm
          have nLr : r ≠ L := (ne_of_none (s6 _ _ (s5 _ _ hL4)) nr).symm
          refine ⟨zs, hZ7, smallt (by omega), _, smut (s5.trans s7) nZ, upd_same, by rw [List.length_append, zl]; rfl, ?_⟩
          rw [er_upd]
          refine (hzs.to (er_same (er_same s7))).app fun y hy => ⟨r, c ++ [v], List.mem_singleton.mp hy, ?_, by rw [List.length_append, cl]; rfl, fun z hz => ?_⟩
          · rw [er_at nLr, er_at nZr, upd_same, List.map_append]; rfl
          · rcases List.mem_append.mp hz with hz | hz
            · exact cb z hz
            · rw [List.mem_singleton.mp hz]; exact vb
        · rintro H5 ⟨zs, s5, hZ, zl, hzs⟩
          have hL5 := s5 _ _ hL4
          have zl : zs.length = 3 := zl
          refine ⟨L, Z, _, _, rfl, rfl, hL5, hZ, small (by omega), ?_⟩
          refine ⟨ys ++ zs, _, _, rfl, smut (s3.trans (s4.trans s5)) nL0, upd_same, by rw [List.length_append, zl]; omega, ?_⟩
          rw [er_upd]
          exact (hys.to (er_same (s4.trans s5))).app (hzs.to fun _ _ z => er_swap z)
      · rintro σ H3 ⟨ys, u4, u5, rfl, s3, hL, hy, hys⟩
        refine ⟨_, rfl, L, ys, _, _, _, _, rfl, s2.trans s3, hL, ?_, hys.to fun _ _ z => er_of z⟩
        rw [Nat.pow_succ]
        omega
    · rintro σ H2 ⟨F, xs, v2, v3, v4, v5, rfl, s2, hF, hx, hs⟩
      exact ⟨_, rfl, q F xs H2 s2 hF hs⟩
end
end NK04
namespace NK04
open PySem PySem.Spec PyProof.Rows L2 RZ GL GT
def spRight : Sp := fun vs H Q _ => ∃ (d g : Addr), vs = [.ref d] ∧ Deck H d g ∧ ∀ (H' : Hp), Deck H' d g → Mv d g H H' → Q (.bl true) H'
theorem cap10 : ∀ n : Fin 6, Cap 10 n.val := by decide +kernel
theorem bN10 {w : Nat} (h : w ≤ 5) : bN 10 w ≤ 1000 := by unfold bN; omega
theorem nice_rows {T : List (List Int)} (h : T.length ≤ 5) (h2 : ∀ t ∈ T, t.length ≤ 5) (hb : ∀ t ∈ T, Bd (2 ^ 1000) t) : Nice 50000 2 (.tuple (T.map fun l => .tuple (l.map PyData.int))) := by
  have one : ∀ d ∈ T.map (fun l => PyData.tuple (l.map PyData.int)), Nice (5 * (1921 + 2) + 3) 1 d := fun d hd => by
    obtain ⟨l, hl, rfl⟩ := List.mem_map.mp hd
    refine Nice.tup (n := 5) (fun e he => ?_) (by rw [List.length_map]; exact h2 l hl)
    obtain ⟨x, hx, rfl⟩ := List.mem_map.mp he
    exact G3.Nice.intW (Nat.lt_of_le_of_lt ((hb l hl).mem hx) (Nat.pow_lt_pow_right (by decide) (by decide)))
  exact (Nice.tup (n := 5) one (by rw [List.length_map]; exact h)).mono (by decide) (by decide)
theorem eqvAll_ints : ∀ ns : List Int, PyData.eqv (.list (ns.map PyData.int)) (.list (ns.map PyData.int)) = true := by
  intro ns
  induction ns with
  | nil => rfl
  | cons n r ih => simpa [PyData.eqv, PyData.eqvAll] using ih
theorem eqv_nil : PyData.eqv (.list []) (.list []) = true := by simp [PyData.eqv, PyData.eqvAll]
theorem dotV_comm (n : Nat) (u v : LA.Ve) : dotV n u v = dotV n v u := LA.sumN_congr n fun k _ => Int.mul_comm _ _
theorem KF_uniq {w B B' : Nat} {T : List (List Int)} {L M : Hl} (h : KF w B T L) (g : KF w B' T M) : L = M := h.hs.uniq g.hs (fun x hx => g.all x.1 (h.hs.ll x hx) fun t ht => h.van x hx t ht) fun x hx => h.all x.1 (g.hs.ll x hx) fun t ht => g.van x hx t ht
section
variable {P : Program} {w : World} {K : PySem.W.Frag} {mg : Str → Option Value} {base : Heap}
abbrev s_right : Stmt := topS 22
theorem sc_right : FnScope ["_law_deck_here", "_law_long", "_law_some", "_law_kept", "_law_told", "_law_row", "_law_far", "_law_size", "_law_vanishes"] ["_law_deck_here"] (defScope s_right) := ⟨rfl, rfl, rfl, by decide +kernel, rfl, by decide +kernel, by decide +kernel⟩
theorem ok_right {f : Addr} {fd : FuncData} (F : Fun K "_law_right" "_law_right" s_right f fd) (gl : mg "_law_right" = some (.ref f)) (T : Bl mg) (D_draw : DefG P w K mg base 1 "_law_draw" ["_law_deck_here", "_law_many"] spDraw)
    (D_made : DefG P w K mg base 3 "_law_made" ["_law_deck_here", "_law_long"] (spMade K)) (D_kernel : DefG P w K mg base 4 "kernel" ["table", "width"] (spKernel K)) (K_kernel : G3.DefKG P w K mg base 4 "kernel" ["table", "width"] 0 ["width", "table"] (fun _ zs => zs.reverse) (spKernel K))
    (D_is_shaped : DefG P w K mg base 2 "_law_is_shaped" ["_law_told", "_law_long"] (spShaped K)) (D_left : DefG P w K mg base 2 "_law_left" ["_law_row", "_law_told"] (spLeft K))
    (D_sum : DefG P w K mg base 1 "_law_sum" ["_law_row", "_law_far"] (spSum SqT K)) (D_sumL : DefG P w K mg base 1 "_law_sum" ["_law_row", "_law_far"] (spSum SqL K))
    (D_rank : DefG P w K mg base 12 "_law_rank" ["_law_some", "_law_long"] (spRank K)) (D_minors : DefG P w K mg base 11 "_law_minors" ["_law_some", "_law_long", "_law_size"] (spMinors K 6))
    (D_divisor : DefG P w K mg base 1 "_law_divisor" ["_law_some"] (spDivisor K)) (D_smalls : DefG P w K mg base 1 "_law_smalls" ["_law_long"] spSmalls) : DefG P w K mg base 13 "_law_right" ["_law_deck_here"] spRight := by
  refine def_mk F gl (F.binds fun _ _ _ _ _ _ us hl => match us, hl with | [_], _ => rfl) (okG F sc_right (fun vs H Q E h => ?_) fun cdv A outer s H vs Q E hr hc h => ?_)
  · obtain ⟨d, g, rfl, _⟩ := h
    rfl
  · obtain ⟨d, g, rfl, D, q⟩ := h
    have nd := sc_right.nd
    have hu64 := hr.units
    have hu100 : (A.deeper (envOfC "_law_right" (defScope s_right) s.heap.objs.size f cdv)).units + 100 < cLine := by have := hr.un; omega
    refine ⟨_, (pss_cons (ps_set (i := 1) nd rfl (by first | exact Or.inl rfl | exact Or.inr rfl) (pe_op op_add pe_int (pe_def D_draw (hr.mono (by decide)) hc (by rfl) (pa_cons (pv 0) (pa_cons pe_int pa_nil)))))
      (pss_cons (ps_set (i := 2) nd rfl (by first | exact Or.inl rfl | exact Or.inr rfl) (pe_def D_made (hr.mono (by decide)) hc (by rfl) (pa_cons (pv 0) (pa_cons (pv 1) pa_nil))))
      (pss_cons (ps_par (i := 3) (j := 4) rfl nd rfl rfl (by decide) rfl rfl (pa_cons (pe_callB (call_reprN hc hu100) (by rfl) T.repr boot_repr (pa_cons (pv 2) pa_nil)) (pa_cons (pe_def D_kernel (hr.mono (by decide)) hc (by rfl) (pa_cons (pv 2) (pa_cons (pv 1) pa_nil))) pa_nil)) rfl)
      (pss_cons (ps_if (PW.pt (pw_or (pt_not (pt_val (pe_def D_is_shaped (hr.mono (by decide)) hc (by rfl) (pa_cons (pv 4) (pa_cons (pv 1) pa_nil))))) (pw_or (pt_cmpR op_ne (pe_callB (call_reprN hc hu100) (by rfl) T.repr boot_repr (pa_cons (G3.pe_defK0 K_kernel (hr.mono (by decide)) hc (by rfl) (pk_cons (pv 1) (pk_cons (pv 2) pk_nil))) pa_nil)) (pe_callB (call_reprN hc hu100) (by rfl) T.repr boot_repr (pa_cons (pv 4) pa_nil)) (nomark _)) (pw_or1 (pt_cmpR op_ne (pe_callB (call_reprN hc hu100) (by rfl) T.repr boot_repr (pa_cons (pv 2) pa_nil)) (pv 3) (nomark _))))))
        (pss_one (ps_ret pe_bl))
        pss_nil)
      (pss_cons (ps_for PassesOwn.never rfl (pi_tup (pv 2)) (pg_name (i := 5) nd rfl (by first | exact Or.inl rfl | exact Or.inr rfl))
        (pss_one (ps_if (pt_cmpR (op_neD hu64) (pe_lc (own := [("_law_far", 6)]) (g := (gName 6)) rfl nd (pi_tup (pv 4)) (blkOk_by (own := [("_law_far", 6)]) (N := ["_law_deck_here", "_law_long", "_law_some", "_law_kept", "_law_told", "_law_row", "_law_far", "_law_size", "_law_vanishes"]) (sc := defScope s_right) (by decide +kernel)) (fun _ _ _ _ _ => (pg_name (i := 6) nd rfl (by first | exact Or.inl rfl | exact Or.inr rfl))) (fun _ _ _ _ _ => (pts_one (pt_cmpR op_ne (pe_def D_sum (hr.mono (by decide)) hc (by rfl) (pa_cons (pv 5) (pa_cons (pv 6) pa_nil))) pe_int (nomark _)))) (fun _ _ _ _ _ => (pv 6))) (pe_lst pa_nil) (nomark _))
          (pss_one (ps_ret pe_bl))
          pss_nil)))
      (pss_cons (ps_set (i := 7) nd rfl (by first | exact Or.inl rfl | exact Or.inr rfl) (pe_op op_sub (pv 1) (pe_def D_rank (hr.mono (by decide)) hc (by rfl) (pa_cons (pv 2) (pa_cons (pv 1) pa_nil)))))
      (C8.pss_cut (ps_if (PW.pt (pw_or (pt_cmpR op_ne (pe_callB call_len_seq (by rfl) T.len boot_len (pa_cons (pv 4) pa_nil)) (pv 7) (nomark _)) (pw_or1 (PW.pt (pw_and (pt_cmpR op_gt (pv 7) pe_int (nomark _)) (pw_and1 (pt_cmpR op_ne (pe_def D_divisor (hr.mono (by decide)) hc (by rfl) (pa_cons (pe_def D_minors (hr.mono (by decide)) hc (by rfl) (pa_cons (pv 4) (pa_cons (pv 1) (pa_cons (pv 7) pa_nil)))) pa_nil)) pe_int (nomark _))))))))
        (pss_one (ps_ret pe_bl))
        pss_nil)
      (pss_cons (ps_for PassesOwn.never rfl (pi_list (pe_def D_smalls (hr.mono (by decide)) hc (by rfl) (pa_cons (pv 1) pa_nil))) (pg_name (i := 5) nd rfl (by first | exact Or.inl rfl | exact Or.inr rfl))
        (pss_cons (ps_set (i := 8) nd rfl (by first | exact Or.inl rfl | exact Or.inr rfl) (pe_cmpR (op_eqD hu64) (pe_lc (own := [("_law_far", 6)]) (g := (gName 6)) rfl nd (pi_tup (pv 2)) (blkOk_by (own := [("_law_far", 6)]) (N := ["_law_deck_here", "_law_long", "_law_some", "_law_kept", "_law_told", "_law_row", "_law_far", "_law_size", "_law_vanishes"]) (sc := defScope s_right) (by decide +kernel)) (fun _ _ _ _ _ => (pg_name (i := 6) nd rfl (by first | exact Or.inl rfl | exact Or.inr rfl))) (fun _ _ _ _ _ => (pts_one (pt_cmpR op_ne (pe_def D_sumL (hr.mono (by decide)) hc (by rfl) (pa_cons (pv 5) (pa_cons (pv 6) pa_nil))) pe_int (nomark _)))) (fun _ _ _ _ _ => (pv 6))) (pe_lst pa_nil) (nomark _)))
        (pss_one (ps_if (PW.pt (pw_and (pt_truth (pv 8) (fun _ => rfl)) (pw_and1 (pt_cmpR (op_neD hu64) (pe_def D_left (hr.mono (by decide)) hc (by rfl) (pa_cons (pv 5) (pa_cons (pv 4) pa_nil))) (pe_op op_rep (pe_lst (pa_cons pe_int pa_nil)) (pv 1)) (nomark _)))))
          (pss_one (ps_ret pe_bl))
          pss_nil))))
      (pss_one (ps_ret pe_bl)))))))))), ?_⟩
    refine ⟨_, rfl, d, g, 5, rfl, D, by decide, by decide, fun r1 H0 r0 r1' D0 M0 => ⟨1, r1, rfl, rfl, ?_⟩⟩
    obtain ⟨lg, elg⟩ : ∃ lg : Nat, 1 + r1 = (lg : Int) := ⟨(1 + r1).toNat, by omega⟩
    first
    | rw [show (fun i j : Int => V.int (i + j)) 1 r1 = V.int (lg : Nat) from congrArg V.int elg]
    | simp only [elg]
    have l1 : 1 ≤ lg := by omega
    have l5 : lg ≤ 5 := by omega
    refine ⟨_, rfl, _, rfl, d, g, lg, rfl, D0, l1, l5, fun so xs Tb H1 D1 M01 hso hR t3 hl hb => ?_⟩
    have M1 := M0.trans M01
    have cap : Cap 10 lg := cap10 ⟨lg, by omega⟩
    have b10 : ∀ t ∈ Tb, Bd (2 ^ 10) t := fun t ht => (hb t ht).mono (by decide)
    have Nt := nice_rows (T := Tb) (by omega) (fun t ht => by rw [hl t ht]; exact l5) fun t ht => (hb t ht).mono (Nat.le_trans (show 1000 ≤ 2 ^ 10 by decide) (Nat.pow_le_pow_right (by decide) (by decide)))
    refine ⟨_, rfl, so, _, _, _, rfl, .tup (tofT hso) hR.dpa, Nt, by decide, by decide, ?_⟩
    refine ⟨_, rfl, _, rfl, so, xs, Tb, lg, 10, rfl, tofT hso, hR, hl, by omega, l1, by omega, b10, cap, fun p zs L H3 s3 hp3 hz3 kf => ⟨_, _, rfl, ?_⟩⟩
    have hsl := kf.hs
    have L5 : L.length ≤ 5 := Nat.le_trans kf.le l5
    have bL : ∀ x ∈ L, Bd (2 ^ 1000) x.1 := fun x hx => (kf.bd x hx).mono (Nat.pow_le_pow_right (by decide) (bN10 l5))
    have rl : (rows L).length = L.length := List.length_map ..
    have wL : ∀ t ∈ rows L, t.length = lg := fun t ht => by
      obtain ⟨x, hx, rfl⟩ := List.mem_map.mp ht
      exact hsl.ll x hx
    have bR : ∀ t ∈ rows L, Bd (2 ^ 1000) t := fun t ht => by
      obtain ⟨x, hx, rfl⟩ := List.mem_map.mp ht
      exact bL x hx
    have NL := nice_rows (T := rows L) (by omega) (fun t ht => by rw [wL t ht]; exact l5) bR
    have hso3 := s3 _ _ hso
    have hR3 := hR.same s3
    have D3 := D1.same s3
    -- is shaped
    refine ⟨_, rfl, _, rfl, p, zs, L, lg, rfl, tofT hp3, hz3, hsl, by omega, fun H4 s4 => ⟨_, rfl, ?_⟩⟩
    -- again, by name
    refine ⟨_, rfl, _, rfl, rfl, rfl, so, xs, Tb, lg, 10, rfl, tofT (s4 _ _ hso3), hR3.same s4, hl, by omega, l1, by omega, b10, cap, fun p2 zs2 L2 H5 s5 hp2 hz2 kf2 => ?_⟩
    obtain rfl := KF_uniq kf2 kf
    have s35 := s4.trans s5
    refine ⟨p2, _, _, _, rfl, .tup (tofT hp2) hz2.dpa, NL, by decide, by decide, ?_⟩
    refine ⟨_, rfl, p, _, _, _, rfl, .tup (tofT (s35 _ _ hp3)) (hz3.same s35).dpa, NL, by decide, by decide, rfl, _, rfl, iteNS rfl ?_⟩
    refine ⟨_, rfl, so, _, _, _, rfl, .tup (tofT (s35 _ _ hso3)) (hR3.same s35).dpa, Nt, by decide, by decide, _, rfl, rfl, _, rfl, iteNS rfl ?_⟩
    have hso5 := s35 _ _ hso3
    have hp5 := s35 _ _ hp3
    have hz5 := hz3.same s35
    have hR5 := hR3.same s35
    have sp0 : (∀ t ∈ Tb, ∀ x ∈ L2, dotV lg (vec t) (vec x.1) = 0) := fun t ht x hx => by rw [dotV_comm]; exact kf.van x hx t ht
    -- each row vanishes on each row
    refine ⟨_, rfl, so, rfl, ⟨_, tofT hso5⟩, ?_⟩
    refine for_tup (K := K) (a := so) (xs := xs) (fun i σ H6 => ∃ v5 v6 v7 v8, σ = [some (.ref d), some (.int (lg : Nat)), some (.ref so), some (.str (PyData.shown (.tuple (Tb.map fun l => .tuple (l.map PyData.int))))), some (.ref p), v5, v6, v7, v8] ∧ Same H5 H6)
      ⟨none, none, none, none, rfl, Same.refl _⟩ (fun i σ H6 _ ⟨_, _, _, _, _, z⟩ => tofT (z _ _ hso5)) ?_ ?_
    · rintro i x0 σ H6 hi ⟨v5, v6, v7, v8, rfl, s6⟩
      obtain ⟨px, l, rfl, hTi, hpx⟩ := hR5.get hi
      have ml := List.mem_of_getElem? hTi
      refine ⟨_, rfl, p, rfl, ⟨_, tofT (s6 _ _ hp5)⟩, fun Z nZ => ?_⟩
      refine lc_tup (K := K) (a := p) (xs := zs) (fun j H7 => Same H6 H7 ∧ H7 Z = some (.lst [])) ⟨Same.new nZ, upd_same⟩ (fun j H7 _ z => tofT (z.1 _ _ (s6 _ _ hp5))) ?_ ?_
      · rintro j y H7 hj ⟨s7, hZ⟩
        have s67 := s6.trans s7
        obtain ⟨py, ly, rfl, hLj, hpy⟩ := (hz5.same s67).get hj
        have my := List.mem_of_getElem? hLj
        obtain ⟨x, hx, rfl⟩ := List.mem_map.mp my
        refine ⟨rfl, _, rfl, _, rfl, px, py, l, x.1, lg, 10, 1000, rfl, Same.tup s67 hpx, hpy, hl l ml, wL _ my, by omega, b10 l ml, bR _ my, by decide, fun H8 s8 => ?_⟩
        rw [sp0 l ml x hx]
        exact ⟨rfl, _, rfl, iteNS rfl ⟨s7.trans s8, s8 _ _ hZ⟩⟩
      · rintro H7 ⟨s7, hZ⟩
        refine ⟨Nat.zero_le _, fun o no => ?_⟩
        have s8 : Same H7 (upd H7 o (.lst [])) := Same.new no
        refine ⟨_, _, .lst (tofL (s8 _ _ hZ)) .nil, .lst (tofL upd_same) .nil, shaped_ints [], shaped_ints [], _, rfl, ?_⟩
        rw [eqv_nil]
        exact iteF ⟨_, _, _, _, rfl, s6.trans (s7.trans s8)⟩
    · rintro σ H6 ⟨v5, v6, v7, v8, rfl, s6⟩
      have ex1 : ∃ b, (∀ t ∈ Tb, Bd (2 ^ b) t) ∧ b ≤ 1000000 := ⟨10, b10, by decide⟩
      have ex2 : ∃ b, (∀ t ∈ rows L2, Bd (2 ^ b) t) ∧ b ≤ 1000000 := ⟨1000, bR, by decide⟩
      -- size
      refine ⟨_, rfl, _, rfl, _, rfl, so, xs, Tb, lg, lg - L2.length, rfl, tofT (s6 _ _ hso5), hR5.same s6, by omega, l5, hl, ex1, kf.lt, kf.over, kf.some, fun H7 s7 => ⟨_, _, rfl, rfl, ?_⟩⟩
      have es : (lg : Int) - ((lg - L2.length : Nat) : Int) = (L2.length : Nat) := by have := kf.le; omega
      first
      | rw [show (fun i j : Int => V.int (i - j)) (lg : Int) ((lg - L2.length : Nat) : Int) = V.int (L2.length : Nat) from congrArg V.int es]
      | simp only [es]
      have s57 := s6.trans s7
      have ezl : zs.length = L2.length := by rw [hz3.len, rl]
      refine ⟨fun σ H8 => ∃ v5 v6 v8, σ = [some (.ref d), some (.int (lg : Nat)), some (.ref so), some (.str (PyData.shown (.tuple (Tb.map fun l => .tuple (l.map PyData.int))))), some (.ref p), v5, v6, some (.int (L2.length : Nat)), v8] ∧ Same H7 H8, ?_, ?_⟩
      · refine ⟨_, rfl, p, _, rfl, .inr (tofT (s57 _ _ hp5)), _, rfl, rfl, _, rfl, ?_⟩
        refine iteNS (by rw [ezl]) ?_
        refine ⟨_, rfl, _, _, rfl, rfl, _, rfl, ite2 (fun e => ?_) (fun e => ?_)⟩
        · have e0 : 0 < L2.length := by have : (0 : Int) < (L2.length : Nat) := by simpa using e
                                        omega
          refine ⟨_, rfl, _, rfl, _, rfl, p, zs, rows L2, lg, L2.length, rfl, tofT (s57 _ _ hp5), hz5.same s57, by omega, by omega, by omega, by omega, wL, ex2, fun j hj => Nat.le_trans (chs_le (by omega) (by omega)) (by decide), fun j hj => Nat.le_trans (chs_le (by omega) (by omega)) (by decide), ?_, fun pw H8 s8 hpw => ?_⟩
          · refine Nat.le_trans minors_len ?_
            exact Nat.le_trans (Nat.mul_le_mul (chs_le (by omega) (by omega)) (chs_le (by omega) (by omega))) (by decide)
          refine ⟨pw, _, rfl, tofL hpw, fun e e0 e1 e2 => ?_⟩
          have d1 : e = 1 := Int.dvd_antisymm e0 (by decide) (kf.one e e1) (Int.one_dvd e)
          subst d1
          exact ⟨rfl, _, rfl, iteNS rfl ⟨_, _, _, rfl, s8⟩⟩
        · exact ⟨_, _, _, rfl, Same.refl _⟩
      · rintro σ H8 ⟨v5, v6, v8, rfl, s8⟩
        have s58 := s57.trans s8
        have hso8 := s58 _ _ hso5
        have hp8 := s58 _ _ hp5
        have hz8 := hz5.same s58
        have hR8 := hR5.same s58
        refine ⟨_, rfl, lg, rfl, l5, fun ps sxs H9 s9 hps hsm => ⟨ps, rfl, ⟨_, tofL hps⟩, ?_⟩⟩
        refine for_list (K := K) (a := ps) (xs := sxs) (fun i σ H10 => ∃ v5 v6 v8, σ = [some (.ref d), some (.int (lg : Nat)), some (.ref so), some (.str (PyData.shown (.tuple (Tb.map fun l => .tuple (l.map PyData.int))))), some (.ref p), v5, v6, some (.int (L2.length : Nat)), v8] ∧ Same H9 H10)
          ⟨_, _, _, rfl, Same.refl _⟩ (fun i σ H10 _ ⟨_, _, _, _, z⟩ => tofL (z _ _ hps)) ?_ ?_
        · rintro i x0 σ H10 hi ⟨v5, v6, v8, rfl, s10⟩
          obtain ⟨pr, l, rfl, hpr, ll, lb⟩ := hsm x0 (List.mem_of_getElem? hi)
          have hpr10 := s10 _ _ hpr
          have s810 := s9.trans s10
          have hso10 := s810 _ _ hso8
          have hR10 := hR8.same s810
          have bl0 : Bd (2 ^ 0) l := Bd.of lb
          refine ⟨_, rfl, so, rfl, ⟨_, tofT hso10⟩, fun Z nZ => ?_⟩
          refine lc_tup (K := K) (a := so) (xs := xs) (fun j H11 => Same H10 H11 ∧ ∃ fs, H11 Z = some (.lst fs) ∧ Rw K H11 fs ((Tb.take j).filter fun t => !decide (V.int (dotV lg (vec l) (vec t)) = V.int 0))) ⟨Same.new nZ, [], upd_same, .nil⟩ (fun j H11 _ z => tofT (z.1 _ _ hso10)) ?_ ?_
          · rintro j y H11 hj ⟨s11, fs, hZ, hf⟩
            obtain ⟨py, ly, rfl, hTj, hpy⟩ := (hR10.same s11).get hj
            have my := List.mem_of_getElem? hTj
            refine ⟨rfl, _, rfl, _, rfl, pr, py, l, ly, lg, 0, 10, rfl, tofL (s11 _ _ hpr10), hpy, ll, hl ly my, by omega, bl0, b10 ly my, by decide, fun H12 s12 => ⟨rfl, _, rfl, ite2 (fun e => ?_) (fun e => ?_)⟩⟩
            · have hZ12 := s12 _ _ hZ
              have fl : fs.length ≤ 3 := by
                rw [hf.len]
                refine Nat.le_trans (List.length_filter_le _ _) ?_
                rw [List.length_take]; omega
              refine ⟨_, rfl, _, hZ12, smallt (by omega), smut (s11.trans s12) nZ, _, upd_same, ?_⟩
              rw [List.take_add_one, hTj, List.filter_append, show (some ly).toList.filter (fun t => !decide (V.int (dotV lg (vec l) (vec t)) = V.int 0)) = [ly] from List.filter_eq_self.mpr fun t ht => by rw [List.mem_singleton.mp ht]; exact e]
              exact ((hf.same s12).app (.one (Same.tup s12 hpy))).upd hZ12
            · refine ⟨s11.trans s12, fs, s12 _ _ hZ, ?_⟩
              rw [List.take_add_one, hTj, List.filter_append, show (some ly).toList.filter (fun t => !decide (V.int (dotV lg (vec l) (vec t)) = V.int 0)) = [] from List.filter_eq_nil_iff.mpr fun t ht => by rw [List.mem_singleton.mp ht]; exact e, List.append_nil]
              exact hf.same s12
          · rintro H11 ⟨s11, fs, hZ, hf⟩
            have xl : xs.length = Tb.length := hR.len
            rw [xl, List.take_length] at hf
            refine ⟨Nat.zero_le _, fun o no => ?_⟩
            have s12 : Same H11 (upd H11 o (.lst [])) := Same.new no
            refine ⟨_, _, .lst (tofL (s12 _ _ hZ)) (hf.same s12).dpa, .lst (tofL upd_same) .nil, shaped_rows _, shaped_ints [], ?_⟩
            rw [eqv_rows_nil]
            revert s12
            generalize upd H11 o (.lst []) = H12
            intro s12
            have s1012 := s11.trans s12
            refine ⟨_, rfl, _, rfl, ite2 (fun e => ?_) (fun e => ⟨_, _, _, rfl, s10.trans s1012⟩)⟩
            have e : Tb.filter (fun t => !decide (V.int (dotV lg (vec l) (vec t)) = V.int 0)) = [] := by simpa using e
            have van : ∀ t ∈ Tb, dotV lg (vec l) (vec t) = 0 := fun t ht => by
              have := List.filter_eq_nil_iff.mp e t ht
              simpa using this
            have s812 := s810.trans s1012
            refine ⟨_, rfl, _, rfl, pr, p, l, zs, L2, lg, 0, 1000, rfl, .inl (tofL (s1012 _ _ hpr10)), tofT (s812 _ _ hp8), hz8.same s812, hsl, ll, by omega, bl0, bL, by decide, ?_, kf.all l ll van, fun pl H13 hs7 s13 hpl hll hzz => ?_⟩
            · have : (L2.length + 2) * (1000 + 2) ≤ 7 * 1002 := Nat.mul_le_mul_right _ (by omega)
              omega
            · refine ⟨(show 1 ≤ sizeLine from small (by decide)), fun o2 no2 => ⟨_, rfl, o2, (lg : Nat), _, rfl, rfl, upd_same, by omega, by omega, by show 1 * _ ≤ _; exact small (by omega), fun r nr => ?_⟩⟩
              have er0 : (List.replicate (lg : Int).toNat [V.int 0]).flatten = (List.replicate lg (0 : Int)).map V.int := by
                rw [Int.toNat_natCast, List.flatten_replicate_singleton, List.map_replicate]
              rw [er0]
              have eh : hs7 = List.replicate lg 0 := vec_inj (by rw [hll, List.length_replicate]) fun j => by rw [hzz j, vec_zero]
              rw [eh] at hpl
              have s14 := (Same.new (o := .lst [.int 0]) no2).trans (Same.new (o := .lst ((List.replicate lg (0 : Int)).map V.int)) nr)
              refine ⟨_, _, .lst (tofL (s14 _ _ hpl)) (dpa_ints _), .lst (tofL upd_same) (dpa_ints _), shaped_ints _, shaped_ints _, _, rfl, ?_⟩
              rw [eqvAll_ints]
              exact iteF ⟨_, _, _, rfl, s10.trans (s1012.trans (s13.trans s14))⟩
        · rintro σ H10 ⟨v5, v6, v8, rfl, s10⟩
          have S : Same H1 H10 := s3.trans (s35.trans (s58.trans (s9.trans s10)))
          exact q _ (D1.same S) (M1.trans (Mv.of S))
end
end NK04
namespace NK04
open PySem PySem.Spec PyProof.Rows L2 RZ GL GT
theorem vec_two (a b : Int) (j : Nat) : vec [a, b] j = if j = 0 then a else if j = 1 then b else 0 := by
  match j with
  | 0 => rfl
  | 1 => rfl
  | j + 2 => rfl
theorem two_of {l : List Int} (h : l.length = 2) : ∃ a b, l = [a, b] := by
  match l, h with
  | [a, b], _ => exact ⟨a, b, rfl⟩
theorem dot_two (a b c d : Int) : dotV 2 (vec [a, b]) (vec [c, d]) = a * c + b * d := by
  show 0 + a * c + b * d = _
  omega
theorem hs_units : HS 2 2 [([1, 0], 0), ([0, 1], 1)] := ⟨fun x hx => by
    simp only [List.mem_cons, List.not_mem_nil, or_false] at hx
    rcases hx with rfl | rfl <;> rfl, fun x hx => by
    simp only [List.mem_cons, List.not_mem_nil, or_false] at hx
    rcases hx with rfl | rfl
    · exact ⟨by decide, by decide, fun j h => absurd h (Nat.not_lt_zero _)⟩
    · exact ⟨by decide, by decide, fun j h => by rw [show j = 0 from Nat.lt_one_iff.mp h]; rfl⟩, .cons (fun y hy => by rw [List.mem_singleton.mp hy]; decide) (.cons (fun y hy => absurd hy List.not_mem_nil) .nil)⟩
theorem hs_two : HS 2 2 [([2, 1], 0)] := ⟨fun x hx => by rw [List.mem_singleton.mp hx]; rfl, fun x hx => by
    rw [List.mem_singleton.mp hx]
    exact ⟨by decide, by decide, fun j h => absurd h (Nat.not_lt_zero _)⟩, List.pairwise_singleton _ _⟩
theorem units_of {B : Nat} {L : Hl} (h : KF 2 B [] L) : L = [([1, 0], 0), ([0, 1], 1)] := by
  refine h.hs.uniq hs_units (fun x hx => ?_) fun y hy => h.all y.1 (hs_units.ll y hy) fun t ht => absurd ht List.not_mem_nil
  obtain ⟨a, b, e⟩ := two_of (h.hs.ll x hx)
  rw [e]
  have m1 : spanL [([1, 0], 0), ([0, 1], 1)] (vec [1, 0]) := span_self (x := ([1, 0], 0)) List.mem_cons_self
  have m2 : spanL [([1, 0], 0), ([0, 1], 1)] (vec [0, 1]) := span_self (x := ([0, 1], 1)) (List.mem_cons_of_mem _ List.mem_cons_self)
  refine (LA.SP.lin a b m1 m2).of fun j => ?_
  show vec [a, b] j = a * vec [1, 0] j + b * vec [0, 1] j
  rw [vec_two, vec_two, vec_two]
  by_cases h0 : j = 0
  · simp [h0]
  · by_cases h1 : j = 1
    · simp [h1]
    · simp [h0, h1]
theorem two_row {B : Nat} {L : Hl} (h : KF 2 B [[2, -4]] L) : L = [([2, 1], 0)] := by
  refine h.hs.uniq hs_two (fun x hx => ?_) fun y hy => h.all y.1 (hs_two.ll y hy) fun t ht => ?_
  · obtain ⟨a, b, e⟩ := two_of (h.hs.ll x hx)
    have z := h.van x hx [2, -4] List.mem_cons_self
    rw [e, dot_two] at z
    rw [e]
    have m1 : spanL [([2, 1], 0)] (vec [2, 1]) := span_self (x := ([2, 1], 0)) List.mem_cons_self
    refine (LA.SP.smul b m1).of fun j => ?_
    show vec [a, b] j = b * vec [2, 1] j
    rw [vec_two, vec_two]
    by_cases h0 : j = 0
    · simp [h0]; omega
    · by_cases h1 : j = 1
      · simp [h1]
      · simp [h0, h1]
  · rw [List.mem_singleton.mp ht, List.mem_singleton.mp hy]; decide
theorem nice_end : Nice 10000 3 (.list [.tuple [.tuple [.int 1, .int 0], .tuple [.int 0, .int 1]], .tuple [.tuple [.int 2, .int 1]]]) := by
  have e1 : ∀ a b : Int, -200 ≤ a → a ≤ 200 → -200 ≤ b → b ≤ 200 → Nice (2 * (5 + 2) + 3) 1 (.tuple [.int a, .int b]) := fun a b a0 a1 b0 b1 => Nice.tup (n := 2) (fun d hd => by
    simp only [List.mem_cons, List.not_mem_nil, or_false] at hd
    rcases hd with rfl | rfl
    · exact Nice.int a0 a1
    · exact Nice.int b0 b1) (Nat.le_refl _)
  have e2 : Nice (2 * (2 * (5 + 2) + 3 + 2) + 3) 2 (.tuple [.tuple [.int 1, .int 0], .tuple [.int 0, .int 1]]) := Nice.tup (n := 2) (fun d hd => by
    simp only [List.mem_cons, List.not_mem_nil, or_false] at hd
    rcases hd with rfl | rfl <;> exact e1 _ _ (by decide) (by decide) (by decide) (by decide)) (Nat.le_refl _)
  have e3 : Nice (2 * (2 * (5 + 2) + 3 + 2) + 3) 2 (.tuple [.tuple [.int 2, .int 1]]) := (Nice.tup (n := 2) (B := 2 * (5 + 2) + 3) (k := 1) (fun d hd => by
    rw [List.mem_singleton.mp hd]; exact e1 _ _ (by decide) (by decide) (by decide) (by decide)) (by decide))
  refine (Nice.lst (n := 2) (B := 2 * (2 * (5 + 2) + 3 + 2) + 3) (k := 2) (fun d hd => ?_) (Nat.le_refl _)).mono (by decide) (by decide)
  simp only [List.mem_cons, List.not_mem_nil, or_false] at hd
  rcases hd with rfl | rfl
  · exact e2
  · exact e3
section
variable {P : Program} {w : World} {K : PySem.W.Frag} {mg : Str → Option Value} {base : Heap}
abbrev s_law : Stmt := topS 23
theorem sc_law : FnScope ["_law_script", "_law_deck_here", "_law_lap"] ["_law_script"] (defScope s_law) := ⟨rfl, rfl, rfl, by decide +kernel, rfl, by decide +kernel, by decide +kernel⟩
theorem ok_law {f : Addr} {fd : FuncData} (F : Fun K "law" "law" s_law f fd) (T : Bl mg) (D_deck : DefG P w K mg base 1 "_law_deck" ["_law_script"] (spDeck K)) (D_right : DefG P w K mg base 13 "_law_right" ["_law_deck_here"] spRight)
    (D_kernel : DefG P w K mg base 4 "kernel" ["table", "width"] (spKernel K)) : FnG P w K mg base CX0 14 f fd ["_law_script"] (G3.spLaw K) := by
  refine okG F sc_law (fun vs H Q E h => ?_) fun cdv A outer s H vs Q E hr hc h => ?_
  · obtain ⟨a, ns, rfl, _⟩ := h
    rfl
  · obtain ⟨a, ns, rfl, hS, hl, q⟩ := h
    have nd := sc_law.nd
    have hu100 : (A.deeper (envOfC "law" (defScope s_law) s.heap.objs.size f cdv)).units + 100 < cLine := by have := hr.un; omega
    refine ⟨_, (pss_cons (ps_set (i := 1) nd rfl (by first | exact Or.inl rfl | exact Or.inr rfl) (pe_def D_deck (hr.mono (by decide)) hc (by rfl) (pa_cons (pv 0) pa_nil)))
      (pss_cons (ps_for PassesOwn.never rfl (pi_range1 (by rfl) T.range (pa_cons pe_int pa_nil)) (pg_name (i := 2) nd rfl (by first | exact Or.inl rfl | exact Or.inr rfl))
        (pss_one (ps_if (pt_not (pt_val (pe_def D_right (hr.mono (by decide)) hc (by rfl) (pa_cons (pv 1) pa_nil))))
          (pss_one (ps_ret pe_bl))
          pss_nil)))
      (pss_one (ps_ret (pe_cmpR op_eq (pe_callB (call_reprN hc hu100) (by rfl) T.repr boot_repr (pa_cons (pe_lst (pa_cons (pe_def D_kernel (hr.mono (by decide)) hc (by rfl) (pa_cons (pe_tup pa_nil) (pa_cons pe_int pa_nil))) (pa_cons (pe_def D_kernel (hr.mono (by decide)) hc (by rfl) (pa_cons (pe_tup (pa_cons (pe_tup (pa_cons pe_int (pa_cons (pe_un un_neg pe_int) pa_nil))) pa_nil)) (pa_cons pe_int pa_nil))) pa_nil))) pa_nil)) (pe_callB (call_reprN hc hu100) (by rfl) T.repr boot_repr (pa_cons (pe_lst (pa_cons (pe_tup (pa_cons (pe_tup (pa_cons pe_int (pa_cons pe_int pa_nil))) (pa_cons (pe_tup (pa_cons pe_int (pa_cons pe_int pa_nil))) pa_nil))) (pa_cons (pe_tup (pa_cons (pe_tup (pa_cons pe_int (pa_cons pe_int pa_nil))) pa_nil)) pa_nil))) pa_nil)) (nomark _)))))), ?_⟩
    refine ⟨_, rfl, a, ns, rfl, hS, hl, fun d g H1 s1 nd1 ng1 D1 => ?_⟩
    refine ⟨4, rfl, by decide, by decide, for_range (fun i σ Hx => ∃ v2 : Option V, σ = [some (.ref a), some (.ref d), v2] ∧ Deck Hx d g) ⟨none, rfl, D1⟩ ?_ ?_⟩
    · rintro i σ Hx hi ⟨v2, rfl, D0⟩
      refine ⟨_, rfl, d, g, rfl, D0, fun H4 D4 M4 => ⟨_, rfl, ?_⟩⟩
      exact ⟨_, rfl, D4⟩
    · rintro σ Hx ⟨v2, rfl, Dx⟩
      refine ⟨Nat.zero_le _, fun e1 ne1 => ⟨e1, [], [], 2, 10, rfl, tofT upd_same, .nil, (fun _ h => absurd h List.not_mem_nil), Nat.zero_le _, by decide, by decide, (fun _ h => absurd h List.not_mem_nil), cap10 ⟨2, by decide⟩, fun p1 z1 L1 H1 s1 hp1 hz1 f1 => ?_⟩⟩
      obtain rfl := units_of f1
      refine ⟨4, rfl, (show 2 ≤ sizeLine from small (by decide)), fun a1 na1 => ⟨(show 1 ≤ sizeLine from small (by decide)), fun a2 na2 => ⟨a2, _, [[2, -4]], 2, 10, rfl, tofT upd_same, .cons (tofT ((Same.new na2) _ _ upd_same)) .nil, (fun t ht => by rw [List.mem_singleton.mp ht]; rfl), by decide, by decide, by decide, (fun t ht => ?_), cap10 ⟨2, by decide⟩, fun p2 z2 L2 H2 s2 hp2 hz2 f2 => ?_⟩⟩⟩
      · rw [List.mem_singleton.mp ht]
        exact Bd.of fun x hx => by
          simp only [List.mem_cons, List.not_mem_nil, or_false] at hx
          rcases hx with rfl | rfl <;> decide
      obtain rfl := two_row f2
      have s12 : Same H1 H2 := ((Same.new na1).trans (Same.new na2)).trans s2
      refine ⟨(show 2 ≤ sizeLine from small (by decide)), fun l nl0 => ?_⟩
      have sl := Same.new (o := .lst [.ref p1, .ref p2]) nl0
      have hz1' := (hz1.same s12).same sl
      have hz2' := hz2.same sl
      refine ⟨l, _, _, _, rfl, .lst (tofL upd_same) (.cons (.tup (tofT (sl _ _ (s12 _ _ hp1))) hz1'.dpa) (.cons (.tup (tofT (sl _ _ hp2)) hz2'.dpa) .nil)), nice_end, by decide, by decide, ?_⟩
      refine ⟨(show 2 ≤ sizeLine from small (by decide)), fun c1 nc1 => ⟨(show 2 ≤ sizeLine from small (by decide)), fun c2 nc2 => ⟨(show 2 ≤ sizeLine from small (by decide)), fun c3 nc3 => ⟨(show 2 ≤ sizeLine from small (by decide)), fun c4 nc4 => ⟨(show 1 ≤ sizeLine from small (by decide)), fun c5 nc5 => ⟨(show 2 ≤ sizeLine from small (by decide)), fun l2 nl2 => ?_⟩⟩⟩⟩⟩⟩
      have t2 := Same.new (o := .tup [.int 0, .int 1]) nc2
      have t3 := Same.new (o := .tup [.ref c1, .ref c2]) nc3
      have t4 := Same.new (o := .tup [.int 2, .int 1]) nc4
      have t5 := Same.new (o := .tup [.ref c4]) nc5
      have t6 := Same.new (o := .lst [.ref c3, .ref c5]) nl2
      refine ⟨l2, _, _, _, rfl, .lst (tofL upd_same) (.cons (.tup (tofT (t6 _ _ (t5 _ _ (t4 _ _ upd_same)))) (.cons (.tup (tofT (t6 _ _ (t5 _ _ (t4 _ _ (t3 _ _ (t2 _ _ upd_same)))))) (.cons (.int 1) (.cons (.int 0) .nil))) (.cons (.tup (tofT (t6 _ _ (t5 _ _ (t4 _ _ (t3 _ _ upd_same))))) (.cons (.int 0) (.cons (.int 1) .nil))) .nil))) (.cons (.tup (tofT (t6 _ _ upd_same)) (.cons (.tup (tofT (t6 _ _ (t5 _ _ upd_same))) (.cons (.int 2) (.cons (.int 1) .nil))) .nil)) .nil)), nice_end, by decide, by decide, rfl, ?_⟩
      exact q _
end
end NK04
namespace NK04
open PySem PySem.Spec PyProof.Rows L2 GL
theorem all_mk {l : PySem.W.OpenLaw} {w : World} {K : PySem.W.Frag} {h : Heap} {mg : Str → Option Value} {fa f_hermite f_width f_less f_gathered f_kernel f_units f_deck f_draw f_pick f_minor f_choices f_minors f_lead f_shaped f_left f_divisor f_made f_rank f_sum f_smalls f_right f_law : Addr} (X : K.In h) (G : h.Ns mainGlobals mg) (hfa : mg "law" = some (.ref fa))
    {od_hermite an_hermite : Option Addr} {sl_hermite : Array (Option Value)} {oc_hermite kV_hermite dc_hermite pm_hermite cd_hermite ct_hermite : Value}
    {od_width an_width : Option Addr} {sl_width : Array (Option Value)} {oc_width kV_width dc_width pm_width cd_width ct_width : Value}
    {od_less an_less : Option Addr} {sl_less : Array (Option Value)} {oc_less kV_less dc_less pm_less cd_less ct_less : Value}
    {od_gathered an_gathered : Option Addr} {sl_gathered : Array (Option Value)} {oc_gathered kV_gathered dc_gathered pm_gathered cd_gathered ct_gathered : Value}
    {od_kernel an_kernel : Option Addr} {sl_kernel : Array (Option Value)} {oc_kernel kV_kernel dc_kernel pm_kernel cd_kernel ct_kernel : Value}
    {od_units an_units : Option Addr} {sl_units : Array (Option Value)} {oc_units kV_units dc_units pm_units cd_units ct_units : Value}
    {od_deck an_deck : Option Addr} {sl_deck : Array (Option Value)} {oc_deck kV_deck dc_deck pm_deck cd_deck ct_deck : Value}
    {od_draw an_draw : Option Addr} {sl_draw : Array (Option Value)} {oc_draw kV_draw dc_draw pm_draw cd_draw ct_draw : Value}
    {od_pick an_pick : Option Addr} {sl_pick : Array (Option Value)} {oc_pick kV_pick dc_pick pm_pick cd_pick ct_pick : Value}
    {od_minor an_minor : Option Addr} {sl_minor : Array (Option Value)} {oc_minor kV_minor dc_minor pm_minor cd_minor ct_minor : Value}
    {od_choices an_choices : Option Addr} {sl_choices : Array (Option Value)} {oc_choices kV_choices dc_choices pm_choices cd_choices ct_choices : Value}
    {od_minors an_minors : Option Addr} {sl_minors : Array (Option Value)} {oc_minors kV_minors dc_minors pm_minors cd_minors ct_minors : Value}
    {od_lead an_lead : Option Addr} {sl_lead : Array (Option Value)} {oc_lead kV_lead dc_lead pm_lead cd_lead ct_lead : Value}
    {od_shaped an_shaped : Option Addr} {sl_shaped : Array (Option Value)} {oc_shaped kV_shaped dc_shaped pm_shaped cd_shaped ct_shaped : Value}
    {od_left an_left : Option Addr} {sl_left : Array (Option Value)} {oc_left kV_left dc_left pm_left cd_left ct_left : Value}
    {od_divisor an_divisor : Option Addr} {sl_divisor : Array (Option Value)} {oc_divisor kV_divisor dc_divisor pm_divisor cd_divisor ct_divisor : Value}
    {od_made an_made : Option Addr} {sl_made : Array (Option Value)} {oc_made kV_made dc_made pm_made cd_made ct_made : Value}
    {od_rank an_rank : Option Addr} {sl_rank : Array (Option Value)} {oc_rank kV_rank dc_rank pm_rank cd_rank ct_rank : Value}
    {od_sum an_sum : Option Addr} {sl_sum : Array (Option Value)} {oc_sum kV_sum dc_sum pm_sum cd_sum ct_sum : Value}
    {od_smalls an_smalls : Option Addr} {sl_smalls : Array (Option Value)} {oc_smalls kV_smalls dc_smalls pm_smalls cd_smalls ct_smalls : Value}
    {od_right an_right : Option Addr} {sl_right : Array (Option Value)} {oc_right kV_right dc_right pm_right cd_right ct_right : Value}
    {od_law an_law : Option Addr} {sl_law : Array (Option Value)} {oc_law kV_law dc_law pm_law cd_law ct_law : Value}
    (a_hermite : PySem.W.nsIn K mainGlobals "hermite" = some (some (.ref f_hermite)))
    (l_hermite : K.lookup f_hermite = some ⟨oc_hermite, od_hermite, .func (PySem.W.fnOf "hermite" "hermite" (defArgs s_hermite) (defBody s_hermite) (defScope s_hermite) .none kV_hermite dc_hermite pm_hermite an_hermite cd_hermite ct_hermite), sl_hermite⟩)
    (c_hermite : PySem.W.codeIn K cd_hermite "hermite" = true) (k_hermite : PySem.W.keepIn K (.ref f_hermite) = true)
    (a_width : PySem.W.nsIn K mainGlobals "_width" = some (some (.ref f_width)))
    (l_width : K.lookup f_width = some ⟨oc_width, od_width, .func (PySem.W.fnOf "_width" "_width" (defArgs s_width) (defBody s_width) (defScope s_width) .none kV_width dc_width pm_width an_width cd_width ct_width), sl_width⟩)
    (c_width : PySem.W.codeIn K cd_width "_width" = true) (k_width : PySem.W.keepIn K (.ref f_width) = true)
    (a_less : PySem.W.nsIn K mainGlobals "_less" = some (some (.ref f_less)))
    (l_less : K.lookup f_less = some ⟨oc_less, od_less, .func (PySem.W.fnOf "_less" "_less" (defArgs s_less) (defBody s_less) (defScope s_less) .none kV_less dc_less pm_less an_less cd_less ct_less), sl_less⟩)
    (c_less : PySem.W.codeIn K cd_less "_less" = true) (k_less : PySem.W.keepIn K (.ref f_less) = true)
    (a_gathered : PySem.W.nsIn K mainGlobals "_gathered" = some (some (.ref f_gathered)))
    (l_gathered : K.lookup f_gathered = some ⟨oc_gathered, od_gathered, .func (PySem.W.fnOf "_gathered" "_gathered" (defArgs s_gathered) (defBody s_gathered) (defScope s_gathered) .none kV_gathered dc_gathered pm_gathered an_gathered cd_gathered ct_gathered), sl_gathered⟩)
    (c_gathered : PySem.W.codeIn K cd_gathered "_gathered" = true) (k_gathered : PySem.W.keepIn K (.ref f_gathered) = true)
    (a_kernel : PySem.W.nsIn K mainGlobals "kernel" = some (some (.ref f_kernel)))
    (l_kernel : K.lookup f_kernel = some ⟨oc_kernel, od_kernel, .func (PySem.W.fnOf "kernel" "kernel" (defArgs s_kernel) (defBody s_kernel) (defScope s_kernel) .none kV_kernel dc_kernel pm_kernel an_kernel cd_kernel ct_kernel), sl_kernel⟩)
    (c_kernel : PySem.W.codeIn K cd_kernel "kernel" = true) (k_kernel : PySem.W.keepIn K (.ref f_kernel) = true)
    (a_units : PySem.W.nsIn K mainGlobals "units" = some (some (.ref f_units)))
    (l_units : K.lookup f_units = some ⟨oc_units, od_units, .func (PySem.W.fnOf "units" "units" (defArgs s_units) (defBody s_units) (defScope s_units) .none kV_units dc_units pm_units an_units cd_units ct_units), sl_units⟩)
    (c_units : PySem.W.codeIn K cd_units "units" = true) (k_units : PySem.W.keepIn K (.ref f_units) = true)
    (a_deck : PySem.W.nsIn K mainGlobals "_law_deck" = some (some (.ref f_deck)))
    (l_deck : K.lookup f_deck = some ⟨oc_deck, od_deck, .func (PySem.W.fnOf "_law_deck" "_law_deck" (defArgs s_deck) (defBody s_deck) (defScope s_deck) .none kV_deck dc_deck pm_deck an_deck cd_deck ct_deck), sl_deck⟩)
    (c_deck : PySem.W.codeIn K cd_deck "_law_deck" = true) (k_deck : PySem.W.keepIn K (.ref f_deck) = true)
    (a_draw : PySem.W.nsIn K mainGlobals "_law_draw" = some (some (.ref f_draw)))
    (l_draw : K.lookup f_draw = some ⟨oc_draw, od_draw, .func (PySem.W.fnOf "_law_draw" "_law_draw" (defArgs s_draw) (defBody s_draw) (defScope s_draw) .none kV_draw dc_draw pm_draw an_draw cd_draw ct_draw), sl_draw⟩)
    (c_draw : PySem.W.codeIn K cd_draw "_law_draw" = true) (k_draw : PySem.W.keepIn K (.ref f_draw) = true)
    (a_pick : PySem.W.nsIn K mainGlobals "_law_pick" = some (some (.ref f_pick)))
    (l_pick : K.lookup f_pick = some ⟨oc_pick, od_pick, .func (PySem.W.fnOf "_law_pick" "_law_pick" (defArgs s_pick) (defBody s_pick) (defScope s_pick) .none kV_pick dc_pick pm_pick an_pick cd_pick ct_pick), sl_pick⟩)
    (c_pick : PySem.W.codeIn K cd_pick "_law_pick" = true) (k_pick : PySem.W.keepIn K (.ref f_pick) = true)
    (a_minor : PySem.W.nsIn K mainGlobals "_law_minor" = some (some (.ref f_minor)))
    (l_minor : K.lookup f_minor = some ⟨oc_minor, od_minor, .func (PySem.W.fnOf "_law_minor" "_law_minor" (defArgs s_minor) (defBody s_minor) (defScope s_minor) .none kV_minor dc_minor pm_minor an_minor cd_minor ct_minor), sl_minor⟩)
    (c_minor : PySem.W.codeIn K cd_minor "_law_minor" = true) (k_minor : PySem.W.keepIn K (.ref f_minor) = true)
    (a_choices : PySem.W.nsIn K mainGlobals "_law_choices" = some (some (.ref f_choices)))
    (l_choices : K.lookup f_choices = some ⟨oc_choices, od_choices, .func (PySem.W.fnOf "_law_choices" "_law_choices" (defArgs s_choices) (defBody s_choices) (defScope s_choices) .none kV_choices dc_choices pm_choices an_choices cd_choices ct_choices), sl_choices⟩)
    (c_choices : PySem.W.codeIn K cd_choices "_law_choices" = true) (k_choices : PySem.W.keepIn K (.ref f_choices) = true)
    (a_minors : PySem.W.nsIn K mainGlobals "_law_minors" = some (some (.ref f_minors)))
    (l_minors : K.lookup f_minors = some ⟨oc_minors, od_minors, .func (PySem.W.fnOf "_law_minors" "_law_minors" (defArgs s_minors) (defBody s_minors) (defScope s_minors) .none kV_minors dc_minors pm_minors an_minors cd_minors ct_minors), sl_minors⟩)
    (c_minors : PySem.W.codeIn K cd_minors "_law_minors" = true) (k_minors : PySem.W.keepIn K (.ref f_minors) = true)
    (a_lead : PySem.W.nsIn K mainGlobals "_law_lead" = some (some (.ref f_lead)))
    (l_lead : K.lookup f_lead = some ⟨oc_lead, od_lead, .func (PySem.W.fnOf "_law_lead" "_law_lead" (defArgs s_lead) (defBody s_lead) (defScope s_lead) .none kV_lead dc_lead pm_lead an_lead cd_lead ct_lead), sl_lead⟩)
    (c_lead : PySem.W.codeIn K cd_lead "_law_lead" = true) (k_lead : PySem.W.keepIn K (.ref f_lead) = true)
    (a_shaped : PySem.W.nsIn K mainGlobals "_law_is_shaped" = some (some (.ref f_shaped)))
    (l_shaped : K.lookup f_shaped = some ⟨oc_shaped, od_shaped, .func (PySem.W.fnOf "_law_is_shaped" "_law_is_shaped" (defArgs s_is_shaped) (defBody s_is_shaped) (defScope s_is_shaped) .none kV_shaped dc_shaped pm_shaped an_shaped cd_shaped ct_shaped), sl_shaped⟩)
    (c_shaped : PySem.W.codeIn K cd_shaped "_law_is_shaped" = true) (k_shaped : PySem.W.keepIn K (.ref f_shaped) = true)
    (a_left : PySem.W.nsIn K mainGlobals "_law_left" = some (some (.ref f_left)))
    (l_left : K.lookup f_left = some ⟨oc_left, od_left, .func (PySem.W.fnOf "_law_left" "_law_left" (defArgs s_left) (defBody s_left) (defScope s_left) .none kV_left dc_left pm_left an_left cd_left ct_left), sl_left⟩)
    (c_left : PySem.W.codeIn K cd_left "_law_left" = true) (k_left : PySem.W.keepIn K (.ref f_left) = true)
    (a_divisor : PySem.W.nsIn K mainGlobals "_law_divisor" = some (some (.ref f_divisor)))
    (l_divisor : K.lookup f_divisor = some ⟨oc_divisor, od_divisor, .func (PySem.W.fnOf "_law_divisor" "_law_divisor" (defArgs s_divisor) (defBody s_divisor) (defScope s_divisor) .none kV_divisor dc_divisor pm_divisor an_divisor cd_divisor ct_divisor), sl_divisor⟩)
    (c_divisor : PySem.W.codeIn K cd_divisor "_law_divisor" = true) (k_divisor : PySem.W.keepIn K (.ref f_divisor) = true)
    (a_made : PySem.W.nsIn K mainGlobals "_law_made" = some (some (.ref f_made)))
    (l_made : K.lookup f_made = some ⟨oc_made, od_made, .func (PySem.W.fnOf "_law_made" "_law_made" (defArgs s_made) (defBody s_made) (defScope s_made) .none kV_made dc_made pm_made an_made cd_made ct_made), sl_made⟩)
    (c_made : PySem.W.codeIn K cd_made "_law_made" = true) (k_made : PySem.W.keepIn K (.ref f_made) = true)
    (a_rank : PySem.W.nsIn K mainGlobals "_law_rank" = some (some (.ref f_rank)))
    (l_rank : K.lookup f_rank = some ⟨oc_rank, od_rank, .func (PySem.W.fnOf "_law_rank" "_law_rank" (defArgs s_rank) (defBody s_rank) (defScope s_rank) .none kV_rank dc_rank pm_rank an_rank cd_rank ct_rank), sl_rank⟩)
    (c_rank : PySem.W.codeIn K cd_rank "_law_rank" = true) (k_rank : PySem.W.keepIn K (.ref f_rank) = true)
    (a_sum : PySem.W.nsIn K mainGlobals "_law_sum" = some (some (.ref f_sum)))
    (l_sum : K.lookup f_sum = some ⟨oc_sum, od_sum, .func (PySem.W.fnOf "_law_sum" "_law_sum" (defArgs s_sum) (defBody s_sum) (defScope s_sum) .none kV_sum dc_sum pm_sum an_sum cd_sum ct_sum), sl_sum⟩)
    (c_sum : PySem.W.codeIn K cd_sum "_law_sum" = true) (k_sum : PySem.W.keepIn K (.ref f_sum) = true)
    (a_smalls : PySem.W.nsIn K mainGlobals "_law_smalls" = some (some (.ref f_smalls)))
    (l_smalls : K.lookup f_smalls = some ⟨oc_smalls, od_smalls, .func (PySem.W.fnOf "_law_smalls" "_law_smalls" (defArgs s_smalls) (defBody s_smalls) (defScope s_smalls) .none kV_smalls dc_smalls pm_smalls an_smalls cd_smalls ct_smalls), sl_smalls⟩)
    (c_smalls : PySem.W.codeIn K cd_smalls "_law_smalls" = true) (k_smalls : PySem.W.keepIn K (.ref f_smalls) = true)
    (a_right : PySem.W.nsIn K mainGlobals "_law_right" = some (some (.ref f_right)))
    (l_right : K.lookup f_right = some ⟨oc_right, od_right, .func (PySem.W.fnOf "_law_right" "_law_right" (defArgs s_right) (defBody s_right) (defScope s_right) .none kV_right dc_right pm_right an_right cd_right ct_right), sl_right⟩)
    (c_right : PySem.W.codeIn K cd_right "_law_right" = true) (k_right : PySem.W.keepIn K (.ref f_right) = true)
    (a_law : PySem.W.nsIn K mainGlobals "law" = some (some (.ref f_law)))
    (l_law : K.lookup f_law = some ⟨oc_law, od_law, .func (PySem.W.fnOf "law" "law" (defArgs s_law) (defBody s_law) (defScope s_law) .none kV_law dc_law pm_law an_law cd_law ct_law), sl_law⟩)
    (c_law : PySem.W.codeIn K cd_law "law" = true) (k_law : PySem.W.keepIn K (.ref f_law) = true)
    (z_int : PySem.W.nsIn K mainGlobals "int" = some none)
    (z_len : PySem.W.nsIn K mainGlobals "len" = some none)
    (z_range : PySem.W.nsIn K mainGlobals "range" = some none)
    (z_tuple : PySem.W.nsIn K mainGlobals "tuple" = some none)
    (z_list : PySem.W.nsIn K mainGlobals "list" = some none)
    (z_abs : PySem.W.nsIn K mainGlobals "abs" = some none)
    (z_any : PySem.W.nsIn K mainGlobals "any" = some none)
    (z_zip : PySem.W.nsIn K mainGlobals "zip" = some none)
    (z_enumerate : PySem.W.nsIn K mainGlobals "enumerate" = some none)
    (z_repr : PySem.W.nsIn K mainGlobals "repr" = some none)
    (z_max : PySem.W.nsIn K mainGlobals "max" = some none)
    (z_min : PySem.W.nsIn K mainGlobals "min" = some none)
    (z_bool : PySem.W.nsIn K mainGlobals "bool" = some none)
    (z_isinstance : PySem.W.nsIn K mainGlobals "isinstance" = some none)
    (z_sum : PySem.W.nsIn K mainGlobals "sum" = some none) :
    ∃ fd : FuncData, (∀ (s : Shared) (v : Value), BindsTo s fd ⟨[v], []⟩ [("_law_script", v)]) ∧ ∀ base : Heap, K.In base → base.Ns mainGlobals mg → FnG l.prog w K mg base CX0 14 fa fd ["_law_script"] (G3.spLaw K) := by
  have e := hfa.symm.trans (PySem.W.mg_of X G a_law)
  cases e
  have F_hermite := fun_mk (st := s_hermite) l_hermite c_hermite k_hermite
  have g_hermite := PySem.W.mg_of X G a_hermite
  have F_width := fun_mk (st := s_width) l_width c_width k_width
  have g_width := PySem.W.mg_of X G a_width
  have F_less := fun_mk (st := s_less) l_less c_less k_less
  have g_less := PySem.W.mg_of X G a_less
  have F_gathered := fun_mk (st := s_gathered) l_gathered c_gathered k_gathered
  have g_gathered := PySem.W.mg_of X G a_gathered
  have F_kernel := fun_mk (st := s_kernel) l_kernel c_kernel k_kernel
  have g_kernel := PySem.W.mg_of X G a_kernel
  have F_units := fun_mk (st := s_units) l_units c_units k_units
  have g_units := PySem.W.mg_of X G a_units
  have F_deck := fun_mk (st := s_deck) l_deck c_deck k_deck
  have g_deck := PySem.W.mg_of X G a_deck
  have F_draw := fun_mk (st := s_draw) l_draw c_draw k_draw
  have g_draw := PySem.W.mg_of X G a_draw
  have F_pick := fun_mk (st := s_pick) l_pick c_pick k_pick
  have g_pick := PySem.W.mg_of X G a_pick
  have F_minor := fun_mk (st := s_minor) l_minor c_minor k_minor
  have g_minor := PySem.W.mg_of X G a_minor
  have F_choices := fun_mk (st := s_choices) l_choices c_choices k_choices
  have g_choices := PySem.W.mg_of X G a_choices
  have F_minors := fun_mk (st := s_minors) l_minors c_minors k_minors
  have g_minors := PySem.W.mg_of X G a_minors
  have F_lead := fun_mk (st := s_lead) l_lead c_lead k_lead
  have g_lead := PySem.W.mg_of X G a_lead
  have F_shaped := fun_mk (st := s_is_shaped) l_shaped c_shaped k_shaped
  have g_shaped := PySem.W.mg_of X G a_shaped
  have F_left := fun_mk (st := s_left) l_left c_left k_left
  have g_left := PySem.W.mg_of X G a_left
  have F_divisor := fun_mk (st := s_divisor) l_divisor c_divisor k_divisor
  have g_divisor := PySem.W.mg_of X G a_divisor
  have F_made := fun_mk (st := s_made) l_made c_made k_made
  have g_made := PySem.W.mg_of X G a_made
  have F_rank := fun_mk (st := s_rank) l_rank c_rank k_rank
  have g_rank := PySem.W.mg_of X G a_rank
  have F_sum := fun_mk (st := s_sum) l_sum c_sum k_sum
  have g_sum := PySem.W.mg_of X G a_sum
  have F_smalls := fun_mk (st := s_smalls) l_smalls c_smalls k_smalls
  have g_smalls := PySem.W.mg_of X G a_smalls
  have F_right := fun_mk (st := s_right) l_right c_right k_right
  have g_right := PySem.W.mg_of X G a_right
  have F_law := fun_mk (st := s_law) l_law c_law k_law
  have T : Bl mg := ⟨PySem.W.mg_none_of X G z_int, PySem.W.mg_none_of X G z_len, PySem.W.mg_none_of X G z_range, PySem.W.mg_none_of X G z_tuple, PySem.W.mg_none_of X G z_list, PySem.W.mg_none_of X G z_abs, PySem.W.mg_none_of X G z_any, PySem.W.mg_none_of X G z_zip, PySem.W.mg_none_of X G z_enumerate, PySem.W.mg_none_of X G z_repr, PySem.W.mg_none_of X G z_max, PySem.W.mg_none_of X G z_min, PySem.W.mg_none_of X G z_bool, PySem.W.mg_none_of X G z_isinstance, PySem.W.mg_none_of X G z_sum⟩
  refine ⟨PySem.W.fnOf "law" "law" (defArgs s_law) (defBody s_law) (defScope s_law) .none kV_law dc_law pm_law an_law cd_law ct_law, fun s v => .of_eq rfl, fun base _ _ => ?_⟩
  have D_width := ok_width (P := l.prog) (w := w) (base := base) F_width g_width T
  have D_less := ok_less (P := l.prog) (w := w) (base := base) F_less g_less T
  have D_gathered := ok_gathered F_gathered g_gathered T D_less
  have D_hermite := ok_hermite F_hermite g_hermite T D_width D_less D_gathered
  have D_units := ok_units (P := l.prog) (w := w) (base := base) F_units g_units T
  have LK := fn_kernel F_kernel T D_units D_hermite
  have D_kernel := def_mk F_kernel g_kernel (F_kernel.binds fun _ _ _ _ _ _ us hl => match us, hl with | [_, _], _ => rfl) LK
  have K_kernel := G3.defK_mk (n := 0) (ks := ["width", "table"]) (g := fun _ ws => ws.reverse) (gV := fun _ zs => zs.reverse) F_kernel g_kernel ⟨fun s us ws _ h1 h2 => match us, ws, h1, h2 with | [], [_, _], _, _ => .of_eq rfl, fun _ r2 => G3.vals_rev r2⟩ LK
  have D_draw := ok_draw (P := l.prog) (w := w) (base := base) F_draw g_draw T
  have D_deck := ok_deck (P := l.prog) (w := w) (base := base) F_deck g_deck T
  have D_pick := ok_pickL F_pick g_pick T D_draw
  have M0 := no_minor (P := l.prog) (w := w) (base := base) F_minor g_minor
  have M6 := (ok_minor F_minor g_minor T (ok_minor F_minor g_minor T (ok_minor F_minor g_minor T (ok_minor F_minor g_minor T (ok_minor F_minor g_minor T (ok_minor F_minor g_minor T M0))))))
  have D_minor := GT.defG_up M6 (show 7 ≤ 10 by decide)
  have D_choices := ok_choices (P := l.prog) (w := w) (base := base) F_choices g_choices T
  have D_minors := ok_minors F_minors g_minors T D_choices D_minor
  have D_lead := ok_lead (P := l.prog) (w := w) (base := base) F_lead g_lead T
  have D_shaped := ok_is_shaped F_shaped g_shaped T D_lead
  have D_left := ok_left F_left g_left T D_lead
  have D_divisor := ok_divisor (P := l.prog) (w := w) (base := base) F_divisor g_divisor T
  have D_made := ok_made F_made g_made T D_draw D_pick
  have D_rank := ok_rank F_rank g_rank T D_minors D_divisor
  have D_sum := ok_sum (P := l.prog) (w := w) (base := base) F_sum g_sum T
  have D_sumL := ok_sumL (P := l.prog) (w := w) (base := base) F_sum g_sum T
  have D_smalls := ok_smalls (P := l.prog) (w := w) (base := base) F_smalls g_smalls T
  have D_right := ok_right F_right g_right T D_draw D_made D_kernel K_kernel D_shaped D_left D_sum D_sumL D_rank D_minors D_divisor D_smalls
  exact ok_law F_law T D_deck D_right D_kernel
end NK04
open PySem PySem.W PyProof.Rows
set_option maxRecDepth 100000 in
set_option maxHeartbeats 0 in
theorem PySem.Challenge.cw_whateverboxes_k04_kernels_holds : PySem.Challenge.rw_whateverboxes_k04_kernels.Holds := by
  w_on; o_law; k_head; (case hw => w_witness2)
  k_fill
  refine G3.walk (k := 14) (l := PySem.Challenge.rw_whateverboxes_k04_kernels) rfl rfl ⟨rfl, by decide, by decide⟩ (fun w h Y => PySem.W.kIn_of Y) ?F
  case F =>
    intro w mg fa h KX G hmg
    refine' NK04.all_mk KX G hmg ?a_hermite ?l_hermite ?c_hermite ?k_hermite ?a_width ?l_width ?c_width ?k_width ?a_less ?l_less ?c_less ?k_less ?a_gathered ?l_gathered ?c_gathered ?k_gathered ?a_kernel ?l_kernel ?c_kernel ?k_kernel ?a_units ?l_units ?c_units ?k_units ?a_deck ?l_deck ?c_deck ?k_deck ?a_draw ?l_draw ?c_draw ?k_draw ?a_pick ?l_pick ?c_pick ?k_pick ?a_minor ?l_minor ?c_minor ?k_minor ?a_choices ?l_choices ?c_choices ?k_choices ?a_minors ?l_minors ?c_minors ?k_minors ?a_lead ?l_lead ?c_lead ?k_lead ?a_shaped ?l_shaped ?c_shaped ?k_shaped ?a_left ?l_left ?c_left ?k_left ?a_divisor ?l_divisor ?c_divisor ?k_divisor ?a_made ?l_made ?c_made ?k_made ?a_rank ?l_rank ?c_rank ?k_rank ?a_sum ?l_sum ?c_sum ?k_sum ?a_smalls ?l_smalls ?c_smalls ?k_smalls ?a_right ?l_right ?c_right ?k_right ?a_law ?l_law ?c_law ?k_law ?z_int ?z_len ?z_range ?z_tuple ?z_list ?z_abs ?z_any ?z_zip ?z_enumerate ?z_repr ?z_max ?z_min ?z_bool ?z_isinstance ?z_sum
    (case a_hermite => k_is)
    (case l_hermite => k_is)
    (case c_hermite => k_is)
    (case k_hermite => k_is)
    (case a_width => k_is)
    (case l_width => k_is)
    (case c_width => k_is)
    (case k_width => k_is)
    (case a_less => k_is)
    (case l_less => k_is)
    (case c_less => k_is)
    (case k_less => k_is)
    (case a_gathered => k_is)
    (case l_gathered => k_is)
    (case c_gathered => k_is)
    (case k_gathered => k_is)
    (case a_kernel => k_is)
    (case l_kernel => k_is)
    (case c_kernel => k_is)
    (case k_kernel => k_is)
    (case a_units => k_is)
    (case l_units => k_is)
    (case c_units => k_is)
    (case k_units => k_is)
    (case a_deck => k_is)
    (case l_deck => k_is)
    (case c_deck => k_is)
    (case k_deck => k_is)
    (case a_draw => k_is)
    (case l_draw => k_is)
    (case c_draw => k_is)
    (case k_draw => k_is)
    (case a_pick => k_is)
    (case l_pick => k_is)
    (case c_pick => k_is)
    (case k_pick => k_is)
    (case a_minor => k_is)
    (case l_minor => k_is)
    (case c_minor => k_is)
    (case k_minor => k_is)
    (case a_choices => k_is)
    (case l_choices => k_is)
    (case c_choices => k_is)
    (case k_choices => k_is)
    (case a_minors => k_is)
    (case l_minors => k_is)
    (case c_minors => k_is)
    (case k_minors => k_is)
    (case a_lead => k_is)
    (case l_lead => k_is)
    (case c_lead => k_is)
    (case k_lead => k_is)
    (case a_shaped => k_is)
    (case l_shaped => k_is)
    (case c_shaped => k_is)
    (case k_shaped => k_is)
    (case a_left => k_is)
    (case l_left => k_is)
    (case c_left => k_is)
    (case k_left => k_is)
    (case a_divisor => k_is)
    (case l_divisor => k_is)
    (case c_divisor => k_is)
    (case k_divisor => k_is)
    (case a_made => k_is)
    (case l_made => k_is)
    (case c_made => k_is)
    (case k_made => k_is)
    (case a_rank => k_is)
    (case l_rank => k_is)
    (case c_rank => k_is)
    (case k_rank => k_is)
    (case a_sum => k_is)
    (case l_sum => k_is)
    (case c_sum => k_is)
    (case k_sum => k_is)
    (case a_smalls => k_is)
    (case l_smalls => k_is)
    (case c_smalls => k_is)
    (case k_smalls => k_is)
    (case a_right => k_is)
    (case l_right => k_is)
    (case c_right => k_is)
    (case k_right => k_is)
    (case a_law => k_is)
    (case l_law => k_is)
    (case c_law => k_is)
    (case k_law => k_is)
    (case z_int => k_is)
    (case z_len => k_is)
    (case z_range => k_is)
    (case z_tuple => k_is)
    (case z_list => k_is)
    (case z_abs => k_is)
    (case z_any => k_is)
    (case z_zip => k_is)
    (case z_enumerate => k_is)
    (case z_repr => k_is)
    (case z_max => k_is)
    (case z_min => k_is)
    (case z_bool => k_is)
    (case z_isinstance => k_is)
    (case z_sum => k_is)
