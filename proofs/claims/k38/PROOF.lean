import PyProof.Rows.All
import Wide.All
import OpenK.AllK
import Wide.FinOn
import HandS.ForMost
import HandS.Wide
import HandS.Style
import HandS.Zip
import HandS.MakeKwOnly
import HandS.MakeKw
import HandS.Walk
import HandS.TupAny
import HandS.Conv
import HandS.TupMul
import KE.KRevSl
import HandS.Strs
import HandS.Star
import HandS.Codes
import HandS.Exc
import HandS.ExcOwn
import HandS.ExcInit
import HandS.ExcSuper
import HandS.WordsExc
import KE.KExcIs
import KE.KIsAll
import HandS.SortInts
import PySem.Challenge.RW_whateverboxes_k38_machines_that_are_refu
set_option Elab.async false
set_option linter.all false
set_option maxRecDepth 100000
set_option maxHeartbeats 4000000
namespace GL
open PySem PySem.Spec PyProof.Rows L2

/-- nothing that guards itself against its own turn is under way -/
def Calm (A : Around) : Prop := A.guards = some []
theorem Calm.deeper {A : Around} (g : Calm A) (env : Env) : Calm (A.deeper env) := g
theorem Calm.make {A : Around} (g : Calm A) (C : Addr) (us : List Value) (kw : List (Str × Value)) : Calm (A.under (.builtin "type.__call__" ⟨.ref C :: us, kw⟩)) := by
  unfold Calm at *
  simp only [Around.under, Code.guards, Code.isGuard, guardIds]
  first | exact g | (rw [g]; rfl) | (simp [g])

/-- a def keeps its promise wherever no guard is under way -/
structure FnG (P : Program) (w : World) (K : PySem.W.Frag) (mg : Str → Option Value) (base : Heap) (CX : CXT) (k : Nat) (f : Addr) (fd : FuncData) (ps : List Str) (sp : Sp) : Prop where
  len : ∀ vs H Q E, sp vs H Q E → vs.length = ps.length
  run : ∀ (A : Around) (outer : List Env) (s : Shared) (H : Hp) (args : Args) (us : List Value) (vs : List V) (Q : VK) (E : XK),
    Room k A → Calm A → Env0 P w K mg base A outer s H → BindsTo s fd args (ps.zip us) → Vals vs us → sp vs H Q E →
    codeAny (model P w) A (.call (.ref f) args) (CR CX outer P w H s Q E) s
section
variable {P : Program} {w : World} {K : PySem.W.Frag} {mg : Str → Option Value} {base : Heap} {CX : CXT} {j k : Nat} {f : Addr} {fd : FuncData} {ps : List Str} {sp sp' : Sp}
theorem FnG.up (F : FnG P w K mg base CX j f fd ps sp) (h : j ≤ k) : FnG P w K mg base CX k f fd ps sp where
  len := F.len
  run := fun A outer s H args us vs Q E r g => F.run A outer s H args us vs Q E (r.mono h) g
theorem FnG.of (F : FnOk P w K mg base CX k f fd ps sp) : FnG P w K mg base CX k f fd ps sp where
  len := F.len
  run := fun A outer s H args us vs Q E r _ => F.run A outer s H args us vs Q E r
end

/-! what is known of a def of the text by its callers -/
structure DefG (P : Program) (w : World) (K : PySem.W.Frag) (mg : Str → Option Value) (base : Heap) (k : Nat) (x : Str) (ps : List Str) (sp : Sp) : Prop where
  ex : ∃ (f : Addr) (fd : FuncData), FnG P w K mg base CX0 k f fd ps sp ∧ mg x = some (.ref f) ∧ PySem.W.keepIn K (.ref f) = true ∧ Binds K fd ps []

section
variable {X : Cx} {CX : CXT} {k n : Nat} {f C : Addr} {fd : FuncData} {ps ks : List Str} {sp : Sp} {dvs : List V} {ds : List Value} {E : XK} {x m : Str} {p pos apos : Pos} {e o : Expr} {es : List Expr} {ta : TE} {t tk : TA} {kws : List Keyword}
variable {g : List Value → List Value → List Value} {gV : List V → List V → List V}

theorem out_of {pins : List (Addr × Obj)} {σ : L2.St} {H : Hp} {s : Shared} {Q : VK} (hx : Passes CX X E) (I : Inv X pins σ H s) :
    ∀ (r : Result) (s' : Shared), CR CX X.stack X.prog X.w H s Q E r s' → (match r with | .ok (.ret u) => EP X pins σ Q u s' | .ok _ => False | .error e => X.xe e s')
  | .error e, s', q => hx pins σ H s e s' I q
  | .ok (.ret _), _, q => I.after q
  | .ok .next, _, q => q
  | .ok .brk, _, q => q
  | .ok .cont, _, q => q

theorem runG {pins : List (Addr × Obj)} {σ : L2.St} {H : Hp} {s : Shared} {Q : VK} {us : List Value} {vs : List V} (F : FnG X.prog X.w X.K X.mg X.base CX k f fd ps sp) (hr : Room k X.A) (hc : Calm X.A)
    (hb : Binds X.K fd ps ds) (hd : Vals dvs ds) (hx : Passes CX X E) (I : Inv X pins σ H s) (r : Vals vs us) (h : sp (vs ++ dvs) H Q E) :
    wpAny (model X.prog X.w) X.A (call (.ref f) us) (EP X pins σ Q) X.xe s := by
  have both : Vals (vs ++ dvs) (us ++ ds) := Vals.append r hd
  have long : (us ++ ds).length = ps.length := both.length.symm.trans (F.len _ _ _ _ h)
  have go := F.run X.A X.stack s H ⟨us, []⟩ (us ++ ds) (vs ++ dvs) Q E hr hc I.env0 (hb s us I.kIn long) both h
  refine wpAny_call (codeAny_mono go fun r' s' q => ?_)
  have z := out_of hx I r' s' q
  match r', z with
  | .error _, z => exact z
  | .ok (.ret _), z => exact z

theorem pe_def (D : DefG X.prog X.w X.K X.mg X.base k x ps sp) (hr : Room k X.A) (hc : Calm X.A) (hg : Gl X x) (ha : PA X (e :: es) t) (hdb : (x == ("__debug__" : Str)) = false := by decide)
    (he : starEach (e :: es) X.env = (false, eval e X.env) :: starEach es X.env := by rfl) (hpl : (backTo pos (starEach es X.env)).any (·.1) = false := by rfl) :
    PE X (.Call (.Name x p) (e :: es) [] pos) (tCall sp [] E0 t) := by
  obtain ⟨f, fd, F, hm, hk, hb⟩ := D.ex
  exact ⟨fun pins s σ H Q I h => wpAny_Call_Name_kw (ld_glob I hg hm (PySem.W.callWith_K (h₀ := X.base) I.ok.mod.kin hk
    (thn (ha.run pos pins s σ H _ I h) fun us s1 ⟨vs, H1, I1, r, q⟩ => ⟨I1.kIn, runG F hr hc hb .nil pass0 I1 r q⟩) he hpl) hdb)⟩

/-- a method with positional arguments -/
theorem pe_methG {pl : Sem Bool} (he : PE X o ta) (c : Cls X.K C) (hm : Meth X.K C m f) (F : FnG X.prog X.w X.K X.mg X.base CX k f fd ps sp) (hr : Room k X.A) (hc : Calm X.A) (hb : Binds X.K fd ps ds) (hd : Vals dvs ds) (hx : Passes CX X E)
    (ha : PA X (e :: es) t) (hst : starEach (e :: es) X.env = (false, eval e X.env) :: starEach es X.env := by rfl) (hpl : (backTo pos (starEach es X.env)).any (·.1) = false := by rfl)
    (ht : eval (.Call (.Attribute o m apos) (e :: es) [] pos) X.env = (eval o X.env >>= fun ov => standAt apos.atName >>= fun _ => holding [ov] (getMethod ov m pl) >>= fun fx =>
      callWith pos fx.1 fx.2 (backTo pos (starEach (e :: es) X.env)) (backToKw pos (keywordEach [] X.env))) := by rfl) :
    PE X (.Call (.Attribute o m apos) (e :: es) [] pos) (tMeth C m sp dvs E ta t) := by
  constructor
  intro pins s σ H Q I h
  refine PySem.W.methodCall_KW (pl := pl) (thn (he.run pins s σ H _ I h) ?_) ht
  rintro u s1 ⟨_, H1, I1, rx, a, dx, fs, rfl, ea, l, q⟩
  obtain rfl : u = .ref a := rx
  refine getmeth_ok I1 ea c hm l (PySem.W.callWith_K (first := [.ref a]) (h₀ := X.base) I.ok.mod.kin hm.kp (thn (ha.run pos pins s1 σ H1 _ I1 q) ?_) hst hpl)
  rintro us s2 ⟨vs, H2, I2, r, q2⟩
  exact ⟨I2.kIn, runG (us := .ref a :: us) (vs := .ref a :: vs) F hr hc hb hd hx I2 (.cons rfl r) q2⟩

/-- how keywords alone bind behind a receiver -/
def tMethK (C : Addr) (m : Str) (sp : Sp) (n : Nat) (gV : List V → List V → List V) (E : XK) (ta : TE) (tk : TA) : TE := fun σ H Q => ta σ H fun x H1 => ∃ a dx fs, x = .ref a ∧ H1 a = some (.ins C dx fs) ∧ fs.lookup m = none ∧
  tk σ H1 fun zs H2 => zs.length = n ∧ sp (gV [x] zs) H2 Q E
theorem runKG {pins : List (Addr × Obj)} {σ : L2.St} {H : Hp} {s : Shared} {Q : VK} {us ws : List Value} {vs zs : List V} (F : FnG X.prog X.w X.K X.mg X.base CX k f fd ps sp) (hr : Room k X.A) (hc : Calm X.A) (hb : KBn X.K fd ps n ks g gV) (hx : Passes CX X E)
    (I : Inv X pins σ H s) (r : Vals vs us) (rz : Vals zs ws) (l1 : vs.length = n) (l2 : zs.length = ks.length) (h : sp (gV vs zs) H Q E) :
    wpAny (model X.prog X.w) X.A (call (.ref f) us (ks.zip ws)) (EP X pins σ Q) X.xe s := by
  have go := F.run X.A X.stack s H ⟨us, ks.zip ws⟩ (g us ws) (gV vs zs) Q E hr hc I.env0 (hb.to s us ws I.kIn (r.length.symm.trans l1) (rz.length.symm.trans l2)) (hb.rel r rz) h
  refine wpAny_call (codeAny_mono go fun r' s' q => ?_)
  have z := out_of hx I r' s' q
  match r', z with
  | .error _, z => exact z
  | .ok (.ret _), z => exact z
theorem pe_methKG {pl : Sem Bool} (he : PE X o ta) (c : Cls X.K C) (hm : Meth X.K C m f) (F : FnG X.prog X.w X.K X.mg X.base CX k f fd ps sp) (hr : Room k X.A) (hc : Calm X.A) (hb : KBn X.K fd ps 1 ks g gV) (hx : Passes CX X E)
    (hkw : PK X kws tk) (hall : (backToKw pos (keywordEach kws X.env)).all (·.1.isSome) = true := by rfl) (hks : (backToKw pos (keywordEach kws X.env)).filterMap (·.1) = ks := by rfl)
    (hpl : ((backTo pos (starEach [] X.env)).any (·.1) || (backToKw pos (keywordEach kws X.env)).any (·.1.isNone)) = false := by rfl)
    (ht : eval (.Call (.Attribute o m apos) [] kws pos) X.env = (eval o X.env >>= fun ov => standAt apos.atName >>= fun _ => holding [ov] (getMethod ov m pl) >>= fun fx =>
      callWith pos fx.1 fx.2 (backTo pos (starEach [] X.env)) (backToKw pos (keywordEach kws X.env))) := by rfl) :
    PE X (.Call (.Attribute o m apos) [] kws pos) (tMethK C m sp ks.length gV E ta tk) := by
  constructor
  intro pins s σ H Q I h
  refine PySem.W.methodCall_KW (pl := pl) (thn (he.run pins s σ H _ I h) ?_) ht
  rintro u s1 ⟨_, H1, I1, rx, a, dx, fs, rfl, ea, l, q⟩
  obtain rfl : u = .ref a := rx
  refine getmeth_ok I1 ea c hm l (PySem.W.callWith_KW0 (first := [.ref a]) (h₀ := X.base) I.ok.mod.kin hm.kp hall (thn (hkw.run pos pins s1 σ H1 _ I1 q) ?_) hpl)
  rintro ws s2 ⟨zs, H2, I2, rz, l2, q2⟩
  refine ⟨I2.kIn, ?_⟩
  rw [hks]
  exact runKG (us := [.ref a]) (vs := [.ref a]) F hr hc hb hx I2 (.cons rfl .nil) rz rfl l2 q2

/-- a new instance, then its __init__ with what binds -/
theorem makeG {pins : List (Addr × Obj)} {σ : L2.St} {H : Hp} {s : Shared} {Q : VK} {us : List Value} {kw : List (Str × Value)} {all : List Value} {av : Addr → List V} (M : Mk X.K C f) (F : FnG X.prog X.w X.K X.mg X.base CX k f fd ps sp) (hr : Room (k + 1) X.A) (hc : Calm X.A)
    (hx : Passes CX X E) (I : Inv X pins σ H s)
    (hb : ∀ s' : Shared, X.K.In s'.heap → BindsTo s' fd ⟨.ref (s.heap.objs.size + 1) :: us, kw⟩ (ps.zip all)) (r : Vals (av (s.heap.objs.size + 1)) all)
    (h : ∀ x dx, H x = none → H dx = none → dx ≠ x → sp (av x) (upd (upd H dx (.own x)) x (.ins C dx [])) (fun v H2 => v = .non ∧ Q (.ref x) H2) E) :
    wpAny (model X.prog X.w) X.A (call (.ref C) us kw) (EP X pins σ Q) X.xe s := by
  have q0 := h (s.heap.objs.size + 1) s.heap.objs.size (I.hok.fresh (Nat.le_succ _)) (I.hok.fresh (Nat.le_refl _)) (Nat.ne_of_lt (Nat.lt_succ_self _))
  have J := Inv.made (C := C) I
  have go := F.run _ X.stack _ _ ⟨Value.ref (s.heap.objs.size + 1) :: us, kw⟩ all _ _ E (hr.make C us kw) (hc.make C us kw) (J.env0.make C us kw) (hb _ J.kIn) r q0
  refine wpAny_call (make_map (f := f) I.kIn M.makes M.init (beq_iff_eq.mp M.fn) (codeAny_mono go fun r' s' q => ?_))
  match r', q with
  | .error e, q => exact hx pins σ _ _ e s' J q
  | .ok (.ret u), q =>
    obtain ⟨v, H', I3, rv, ev, q3⟩ := J.after q
    cases ev
    exact ⟨rv, ⟨V.ref (s.heap.objs.size + 1), H', I3, rfl, q3⟩⟩
theorem pe_makeG (M : Mk X.K C f) (F : FnG X.prog X.w X.K X.mg X.base CX k f fd ps sp) (hr : Room (k + 1) X.A) (hc : Calm X.A) (hg : Gl X x) (hm : X.mg x = some (.ref C)) (hb : Binds X.K fd ps ds) (hd : Vals dvs ds) (hx : Passes CX X E)
    (ha : PA X (e :: es) t) (hdb : (x == ("__debug__" : Str)) = false := by decide) (he : starEach (e :: es) X.env = (false, eval e X.env) :: starEach es X.env := by rfl) (hpl : (backTo pos (starEach es X.env)).any (·.1) = false := by rfl) :
    PE X (.Call (.Name x p) (e :: es) [] pos) (tMake C sp dvs E t) := by
  constructor
  intro pins s σ H Q I h
  refine wpAny_Call_Name_kw (ld_glob I hg hm (PySem.W.callWith_K (h₀ := X.base) I.ok.mod.kin M.kp (thn (ha.run pos pins s σ H _ I h) ?_) he hpl) hdb)
  rintro us s1 ⟨vs, H1, I1, r, q⟩
  have r2 : Vals (V.ref (s1.heap.objs.size + 1) :: (vs ++ dvs)) (Value.ref (s1.heap.objs.size + 1) :: (us ++ ds)) := .cons rfl (Vals.append r hd)
  have q0 := q (s1.heap.objs.size + 1) s1.heap.objs.size (I1.hok.fresh (Nat.le_succ _)) (I1.hok.fresh (Nat.le_refl _)) (Nat.ne_of_lt (Nat.lt_succ_self _))
  exact ⟨I1.kIn, makeG (av := fun x => .ref x :: (vs ++ dvs)) M F hr hc hx I1 (fun s' X' => hb s' (Value.ref (s1.heap.objs.size + 1) :: us) X' (r2.length.symm.trans (F.len _ _ _ _ q0))) r2 q⟩
theorem pe_makeKG0 (M : Mk X.K C f) (F : FnG X.prog X.w X.K X.mg X.base CX k f fd ps sp) (hr : Room (k + 1) X.A) (hc : Calm X.A) (hg : Gl X x) (hm : X.mg x = some (.ref C)) (hb : KBn X.K fd ps 1 ks g gV) (hx : Passes CX X E) (hkw : PK X kws tk)
    (hall : (backToKw pos (keywordEach kws X.env)).all (·.1.isSome) = true := by rfl) (hks : (backToKw pos (keywordEach kws X.env)).filterMap (·.1) = ks := by rfl) (hdb : (x == ("__debug__" : Str)) = false := by decide)
    (hpl : ((backTo pos (starEach [] X.env)).any (·.1) || (backToKw pos (keywordEach kws X.env)).any (·.1.isNone)) = false := by rfl) :
    PE X (.Call (.Name x p) [] kws pos) (tMakeK C 0 ks.length sp gV E tNil tk) := by
  constructor
  intro pins s σ H Q I h
  refine wpAny_Call_Name_kw (ld_glob I hg hm (PySem.W.callWith_KW0 (h₀ := X.base) I.ok.mod.kin M.kp hall (thn (hkw.run pos pins s σ H _ I h) ?_) hpl) hdb)
  rintro ws s2 ⟨zs, H2, I2, rz, _, l2, q2⟩
  refine ⟨I2.kIn, ?_⟩
  rw [hks]
  exact makeG (av := fun x => gV [.ref x] zs) M F hr hc hx I2 (fun s' X' => hb.to s' [Value.ref (s2.heap.objs.size + 1)] ws X' rfl (rz.length.symm.trans l2)) (hb.rel (.cons rfl .nil) rz) q2

/-- repr of what reads as data -/
theorem call_reprD (hc : Calm X.A) (hu : X.A.units + 100 < cLine) : CallR X (.builtin "repr") (fun xs H Q => ∃ (a : Addr) (d : PyData), xs = [.ref a] ∧ Dp X.K H (.ref a) d ∧ d.showable = true ∧ d.hasDict = false ∧ d.depth ≤ 64 ∧ d.shown.length ≤ sizeLine ∧ Q (.str d.shown) H) := by
  intro pins s σ H xs us Q I r h
  obtain ⟨a, d, rfl, hd, hs, hn, hdp, hz, q⟩ := h
  obtain ⟨as, rd⟩ := Dp.reads I d (.ref a) (.ref a) hd rfl
  rw [Vals.ref1 r]
  exact repr_of_reads' rd hs (PyData.noDict_hsm hn) hc (by omega) (fun _ _ e => e) (fun h' u tk hk => ⟨.str _, H, I.kept hk, ⟨_, rfl⟩, q⟩) hz
end

section
variable {P : Program} {w : World} {K : PySem.W.Frag} {mg : Str → Option Value} {base : Heap}
/-- a def's promise, by its body: whatever its defaults -/
theorem okR {x qual : Str} {params : Arguments} {body : List Stmt} {scope : Scope} {dV kV doc pm cdv ct oc : Value} {an od : Option Addr} {osl : Array (Option Value)} {f : Addr} {N ps : List Str} {k : Nat} {sp : Sp}
    (lk : K.lookup f = some ⟨oc, od, .func (PySem.W.fnOf x qual params body scope dV kV doc pm an cdv ct), osl⟩) (code : PySem.W.codeIn K cdv qual = true) (S : FnScope N ps scope) (len : ∀ vs H Q E, sp vs H Q E → vs.length = ps.length)
    (walk : ∀ (cdv : Value) (A : Around) (outer : List Env) (s : Shared) (H : Hp) (vs : List V) (Q : VK) (E : XK), Room k (A.deeper (envOfC qual scope s.heap.objs.size f cdv)) → Calm (A.deeper (envOfC qual scope s.heap.objs.size f cdv)) → sp vs H Q E →
      ∃ t, PSs (cxOf CX0 P w K mg base N qual scope f cdv A outer s H E).nox body t ∧ t { nx := fun _ H' => Q .non H', rt := Q } (start N vs) H) : FnG P w K mg base CX0 (k + 1) f (PySem.W.fnOf x qual params body scope dV kV doc pm an cdv ct) ps sp := by
  refine ⟨len, ?_⟩
  intro A outer s H args us vs Q E room calm e0 bnd rel want
  have long := len _ _ _ _ want
  have up : ∀ b o, base.get? b = some o → s.heap.get? b = some o := fun b o e => (e0.bs b o e).1
  have kin : K.In s.heap := e0.mod.kin.keeps up
  have lim : s.heap.NoLimit := e0.mod.nolimit.keeps up
  have kinds : ∀ y ∈ ps.zip us, scope.names.lookup y.1 = some .local ∨ (scope.names.lookup y.1 = some .cell ∧ ((cellsFrom (s.heap.objs.size + 1) scope.names []).lookup y.1).isSome = true) := by
    rintro ⟨n, v⟩ hy
    exact (S.par n (List.of_mem_zip hy).1).imp id fun q => ⟨q, PySem.W.cellsFrom_some _ _ _ (.inl q)⟩
  refine codeAny_call_function room.depth (kin _ _ lk) rfl S.co S.gen rfl (PySem.W.codeRec_of kin code) (bnd _ _ _ _ (wpAny_newFunctionEnv_cells S.kind kinds ?_))
  rintro env rfl s1 x
  obtain ⟨t, deriv, reads⟩ := walk cdv A outer s H vs Q E (room.deeper _) (calm.deeper _) want
  have I : Inv (cxOf CX0 P w K mg base N qual scope f cdv A outer s H E) [] (start N vs) H s1 := inv_start S room.hd e0 long rel x
  refine ⟨lim.keeps x.toInCall.keep, codeAny_func (wpAny_mono (deriv.nox.run [] s1 (start N vs) H _ I reads) ?_ fun _ _ z => z)⟩
  intro fl s' hs
  match fl, hs with
  | .ret u, ⟨v, _, H', J, rv, q⟩ => exact ⟨v, H', J.os, J.bare, J.base, J.hok, rv, q⟩
  | .next, ⟨_, H', J, q⟩ => exact ⟨V.non, H', J.os, J.bare, J.base, J.hok, rfl, q⟩
  | .brk, ⟨_, _, _, q⟩ => exact q.elim
  | .cont, ⟨_, _, _, q⟩ => exact q.elim

theorem okG {x qual : Str} {st : Stmt} {f : Addr} {fd : FuncData} {N ps : List Str} {k : Nat} {sp : Sp} (F : Fun K x qual st f fd) (S : FnScope N ps (defScope st)) (len : ∀ vs H Q E, sp vs H Q E → vs.length = ps.length)
    (walk : ∀ (cdv : Value) (A : Around) (outer : List Env) (s : Shared) (H : Hp) (vs : List V) (Q : VK) (E : XK), Room k (A.deeper (envOfC qual (defScope st) s.heap.objs.size f cdv)) → Calm (A.deeper (envOfC qual (defScope st) s.heap.objs.size f cdv)) → sp vs H Q E →
      ∃ t, PSs (cxOf CX0 P w K mg base N qual (defScope st) f cdv A outer s H E).nox (defBody st) t ∧ t { nx := fun _ H' => Q .non H', rt := Q } (start N vs) H) : FnG P w K mg base CX0 (k + 1) f fd ps sp := by
  obtain ⟨oc, od, kV, doc, pm, an, cdv, ct, osl, rfl, lk, code⟩ := F.ex
  exact okR lk code S len walk
theorem okD {x qual : Str} {st : Stmt} {dvs : List V} {kws : List (Str × V)} {f : Addr} {fd : FuncData} {N ps : List Str} {k : Nat} {sp : Sp} (F : FunD K x qual (defArgs st) (defBody st) (defScope st) dvs kws f fd) (S : FnScope N ps (defScope st)) (len : ∀ vs H Q E, sp vs H Q E → vs.length = ps.length)
    (walk : ∀ (cdv : Value) (A : Around) (outer : List Env) (s : Shared) (H : Hp) (vs : List V) (Q : VK) (E : XK), Room k (A.deeper (envOfC qual (defScope st) s.heap.objs.size f cdv)) → Calm (A.deeper (envOfC qual (defScope st) s.heap.objs.size f cdv)) → sp vs H Q E →
      ∃ t, PSs (cxOf CX0 P w K mg base N qual (defScope st) f cdv A outer s H E).nox (defBody st) t ∧ t { nx := fun _ H' => Q .non H', rt := Q } (start N vs) H) : FnG P w K mg base CX0 (k + 1) f fd ps sp := by
  obtain ⟨oc, od, dV, kV, doc, pm, an, cdv, ct, osl, rfl, lk, code, _, _⟩ := F.ex
  exact okR lk code S len walk

/-- the law's call, where the caller guards nothing -/
theorem lawG {mb : Str → Option Value} {k : Nat} {fa a : Addr} {fd : FuncData} {x : Str} {sp : Sp} {s₁ : Shared} {vs : List Value} {ns : List Int}
    (KX : K.In s₁.heap) (hns : s₁.heap.Ns mainGlobals mg) (hb : s₁.heap.Ns builtinsNs mb) (hbb : ∀ x : Str, x ≠ "__name__" → mb x = bootBuiltins x) (hlim : s₁.heap.NoLimit) (hg : s₁.gens = #[])
    (ha : s₁.heap.get? a = some { cls := .type "list", data := .seq vs.toArray }) (hi : IntsAre vs ns) (hl : ns.length ≤ sizeLine) (hr : Room k callerA)
    (F : ∀ base : Heap, K.In base → base.Ns mainGlobals mg → FnG P w K mg base CX0 k fa fd [x] sp) (hbind : ∀ (s : Shared) (u : Value), BindsTo s fd ⟨[u], []⟩ [(x, u)])
    (hsp : ∀ H : Hp, Only H → SqL K H a (ns.map V.int) → sp [.ref a] H (fun v _ => v = .bl true) fun _ _ _ => False) :
    codeAny (model P w) callerA (.call (.ref fa) ⟨[.ref a], []⟩) (fun r s' => r = .ok (.ret (.bool true)) ∧ OldK s₁.heap s'.heap ∧ s'.os = s₁.os ∧ AllBare s'.gens) s₁ := by
  have rel := vals_ints hi
  have core : ∀ H : Hp, Only H → SqL K H a (ns.map V.int) → HOk P w H s₁.heap → (∀ b, H b ≠ none → b = a) → (H a ≠ none → K.lookup a = none) →
      codeAny (model P w) callerA (.call (.ref fa) ⟨[.ref a], []⟩) (fun r s' => r = .ok (.ret (.bool true)) ∧ OldK s₁.heap s'.heap ∧ s'.os = s₁.os ∧ AllBare s'.gens) s₁ := by
    intro H only sq hok alone free
    have off : ∀ {b : Addr}, b ≠ a → H b = none := fun {b} ne => Classical.byContradiction fun z => ne (alone b z)
    have dictOff : ∀ {b : Addr} {o : Obj} {es : Array DictEntry} {ep : Nat}, s₁.heap.get? b = some o → o.data = .dict es ep → H b = none := by
      intro b o es ep e d
      refine off fun eq => ?_
      rw [eq, ha] at e
      cases e
      exact Data.noConfusion d
    have nsK : ∀ {b : Addr} {m : Str → Option Value}, s₁.heap.Ns b m → (hidT s₁.heap H).Ns b m := by
      rintro b m ⟨o, es, ep, e, d, r⟩
      exact ⟨o, es, ep, hidT_get e (dictOff e d), d, r⟩
    have kb : K.In (hidT s₁.heap H) := by
      intro b o e
      refine hidT_get (KX b o e) (Classical.byContradiction fun z => ?_)
      have eq := alone b z
      rw [eq] at z e
      rw [free z] at e
      cases e
    have md : Mod K mg (hidT s₁.heap H) := ⟨kb, nsK hns, ⟨mb, nsK hb, hbb⟩, let ⟨mc, h1, h2⟩ := hlim; ⟨mc, nsK h1, h2⟩⟩
    have e0 : Env0 P w K mg (hidT s₁.heap H) callerA [] s₁ H := ⟨rfl, md, fun b o e => of_hidT e, Nat.le_of_eq (hidT_size _ _), trivial, (fun b z => nomatch z), hok, .of_eq hg⟩
    have go := (F _ kb (nsK hns)).run callerA [] s₁ H ⟨[.ref a], []⟩ [.ref a] [.ref a] _ _ hr rfl e0 (hbind s₁ (.ref a)) (.cons rfl .nil) (hsp H only sq)
    refine codeAny_mono go fun r s' h => ?_
    match r, h with
    | .ok (.ret u), ⟨v, H', os, bare, un, hok', r', q⟩ =>
      have q' : v = .bl true := q
      subst q'
      obtain rfl : u = Value.bool true := r'
      refine ⟨rfl, OldK.of_keep fun b o e => ?_, os, bare⟩
      rcases only b with z | ⟨ob, xs, z⟩
      · exact un.keep b o e z (fun y => nomatch y) (fun y => nomatch y)
      · obtain ⟨e1, _⟩ := hok b _ z
        obtain ⟨e2, _⟩ := hok' b _ (un.frzs b ob _ z)
        exact e.symm.trans e1 ▸ e2
  have lenV := hi.length
  cases hk : K.lookup a with
  | some o =>
    have e := ha.symm.trans (KX a o hk)
    cases e
    exact core (fun _ => none) (fun _ => .inl rfl) (.inr ⟨_, vs.toArray, _, hk, rfl, rfl, rfl, by rw [List.size_toArray, lenV]; exact hl, by simpa using rel⟩) (fun b u z => nomatch z) (fun b z => absurd rfl z) fun z => absurd rfl z
  | none =>
    have at_ : ∀ b, (if b = a then some (HO.frz { cls := .type "list", data := .seq vs.toArray } (.lst (ns.map V.int))) else none) ≠ none → b = a := fun b z => Classical.byContradiction fun y => z (if_neg y)
    refine core (fun b => if b = a then some (.frz { cls := .type "list", data := .seq vs.toArray } (.lst (ns.map V.int))) else none) (fun b => ?_) (.inl (.inr ⟨{ cls := .type "list", data := .seq vs.toArray }, if_pos rfl⟩)) (fun b u z => ?_) at_ fun _ => hk
    · by_cases hb : b = a
      · exact .inr ⟨_, _, if_pos hb⟩
      · exact .inl (if_neg hb)
    · have eb : b = a := at_ b (fun y => nomatch (y.symm.trans z))
      subst eb
      have z' := (if_pos rfl).symm.trans z
      cases z'
      exact ⟨ha, by rw [List.length_map]; exact hl, vs, _, rel, ha⟩
end
theorem walkG {l : PySem.W.OpenLaw} {n k : Nat} {q : Program} {loose : List Str} {XP : (Str → Option Value) → Heap → Prop} {YP : World → Heap → Prop} {d : DefRec} {K : Params → PySem.W.Frag} {sp : PySem.W.Frag → Sp} {x : Str}
    (hn : l.most = some n) (hn2 : n ≤ sizeLine) (hdf : d.params.defaults = []) (hr : Room k callerA)
    (hY : ∀ (w : World) (h : Heap), YP w h → (K w.params).In h)
    (F : ∀ (w : World) (mg : Str → Option Value) (fa : Addr) (h : Heap), (K w.params).In h → h.Ns mainGlobals mg → mg d.name = some (.ref fa) →
      ∃ fd : FuncData, (∀ (s : Shared) (u : Value), BindsTo s fd ⟨[u], []⟩ [(x, u)]) ∧
        ∀ base : Heap, (K w.params).In base → base.Ns mainGlobals mg → FnG l.prog w (K w.params) mg base CX0 k fa fd [x] (sp (K w.params)))
    (hsp : ∀ (K : PySem.W.Frag) (H : Hp) (a : Addr) (ns : List Int), ns.length ≤ n → Only H → SqL K H a (ns.map V.int) → sp K [.ref a] H (fun v _ => v = .bl true) fun _ _ _ => False) :
    PySem.W.WalkO q loose XP YP l.row.toRowW d [] (fun f vs => PySem.call f vs) := by
  refine Att.attach_call hn hdf ?_
  intro w s₀ s₁ mg mb fa o pm cd doc a vs ns G Y ho hd hcd hmg hobj hints hlen hg
  obtain ⟨fd, hb, hF⟩ := F w mg fa _ (hY w _ Y) G.T.g hmg
  exact lawG (hY w _ Y) G.T.g G.T.b G.T.builtins G.T.nolimit hg hobj hints (Nat.le_trans hlen hn2) hr hF hb fun H o s => hsp _ H a ns hlen o s
end GL
namespace GL
open PySem PySem.Spec PyProof.Rows L2
section
variable {K : PySem.W.Frag} {H H' : Hp}
theorem dpa_ints : ∀ ns : List Int, DpAll K H (ns.map V.int) (ns.map PyData.int)
  | [] => .nil
  | n :: r => .cons (.int n) (dpa_ints r)
theorem dpa_strs : ∀ ns : List Str, DpAll K H (ns.map V.str) (ns.map PyData.str)
  | [] => .nil
  | n :: r => .cons (.str n) (dpa_strs r)
theorem dpa_bls : ∀ ns : List Bool, DpAll K H (ns.map V.bl) (ns.map PyData.bool)
  | [] => .nil
  | n :: r => .cons (.bl n) (dpa_bls r)
theorem lay_ints : ∀ ns : List Int, PyData.canLayAll0 (ns.map PyData.int) = true
  | [] => rfl
  | n :: r => by
    show (PyData.canLay0 (.int n) && PyData.canLayAll0 (r.map PyData.int)) = true
    rw [lay_ints r]; rfl
theorem depth_ints : ∀ ns : List Int, PyData.depthAll (ns.map PyData.int) = 0
  | [] => rfl
  | n :: r => by
    show max (PyData.depth (.int n)) (PyData.depthAll (r.map PyData.int)) = 0
    rw [depth_ints r]; rfl
theorem depth_strs : ∀ ns : List Str, PyData.depthAll (ns.map PyData.str) = 0
  | [] => rfl
  | n :: r => by
    show max (PyData.depth (.str n)) (PyData.depthAll (r.map PyData.str)) = 0
    rw [depth_strs r]; rfl
theorem shaped_ints (ns : List Int) : SeqAt.shaped (.list (ns.map PyData.int)) = true := by
  unfold SeqAt.shaped
  rw [show PyData.canLay0 (.list (ns.map PyData.int)) = PyData.canLayAll0 (ns.map PyData.int) from rfl, lay_ints ns]
  rw [show PyData.depth (.list (ns.map PyData.int)) = PyData.depthAll (ns.map PyData.int) + 1 from rfl, depth_ints ns]
  rfl
theorem eqv_ints_nil : ∀ ns : List Int, PyData.eqv (.list (ns.map PyData.int)) (.list []) = decide (ns = [])
  | [] => rfl
  | n :: r => by
    rw [decide_eq_false (show ¬ (n :: r = []) from List.cons_ne_nil n r)]
    rfl

/-! ### what stays -/
theorem Same.new {p : Addr} {o : HO} (h : H p = none) : Same H (upd H p o) := fun b u e => by
  rw [upd_ne (ne_of_none e h)]; exact e
theorem Same.tup {a : Addr} {xs : List V} (e : Same H H') (h : SqT K H a xs) : SqT K H' a xs := by
  rcases h with (h | ⟨o, h⟩) | h
  · exact .inl (.inl (e _ _ h))
  · exact .inl (.inr ⟨o, e _ _ h⟩)
  · exact .inr h
theorem tofT {a : Addr} {xs : List V} (h : H a = some (.tup xs)) : SqT K H a xs := .inl (.inl h)
theorem tofL {a : Addr} {xs : List V} (h : H a = some (.lst xs)) : SqL K H a xs := .inl (.inl h)
theorem small {n : Nat} (h : n ≤ 100000) : n ≤ sizeLine := Nat.le_trans h (by decide)
theorem smallt {n : Nat} (h : n < 100000) : n < sizeLine := Nat.lt_of_lt_of_le h (by decide)

/-! ### the deck of the laws: a dict of a list of ints and an int -/
def deckD (g : Addr) (m : Int) : List (Key × V) := [(Sum.inr "great", .ref g), (Sum.inr "mixed", .int m)]
theorem gm0 : ¬ (("great" : Str) = "mixed") := by decide +kernel
theorem gm : ¬ ((Sum.inr ("great" : Str) : Key) = (Sum.inr ("mixed" : Str) : Key)) := by
  intro e
  injection e with e1
  exact gm0 e1
theorem deck_great (g : Addr) (m : Int) : valV (deckD g m) (Sum.inr "great" : Key) = some (.ref g) := valV_pos rfl
theorem deck_mixed (g : Addr) (m : Int) : valV (deckD g m) (Sum.inr "mixed" : Key) = some (.int m) := by
  unfold deckD
  rw [valV_neg gm, valV_pos rfl]
theorem deck_put (g : Addr) (m m' : Int) : putK (deckD g m) (Sum.inr "mixed" : Key) (.int m') = deckD g m' := by
  unfold putK deckD
  simp only [List.any_cons, List.any_nil, List.map_cons, List.map_nil, decide_eq_false gm, decide_true, Bool.or_true, Bool.false_or, Bool.or_false, if_true]
  rw [if_neg gm]
/-- all but the deck stays -/
structure Mv (d g : Addr) (H H' : Hp) : Prop where
  keep : ∀ b o, H b = some o → b ≠ d → b ≠ g → H' b = some o
structure Deck (H : Hp) (d g : Addr) : Prop where
  ex : ∃ (m : Int) (L : List Int), H d = some (.dK (deckD g m)) ∧ H g = some (.lst (L.map V.int)) ∧ L.length ≤ 63 ∧ 0 ≤ m ∧ m < 2147483587
theorem Deck.ne {d g : Addr} (D : Deck H d g) : d ≠ g := by
  obtain ⟨m, L, h1, h2, _⟩ := D.ex
  exact ne_of h1 h2 (fun z => nomatch z)
theorem Deck.same {d g : Addr} (D : Deck H d g) (s : Same H H') : Deck H' d g := by
  obtain ⟨m, L, h1, h2, r⟩ := D.ex
  exact ⟨⟨m, L, s _ _ h1, s _ _ h2, r⟩⟩
theorem Mv.refl {d g : Addr} : Mv d g H H := ⟨fun _ _ h _ _ => h⟩
theorem Mv.trans {d g : Addr} {H1 H2 H3 : Hp} (a : Mv d g H1 H2) (b : Mv d g H2 H3) : Mv d g H1 H3 := ⟨fun p o h n1 n2 => b.keep p o (a.keep p o h n1 n2) n1 n2⟩
theorem Mv.of {d g : Addr} (s : Same H H') : Mv d g H H' := ⟨fun p o h _ _ => s p o h⟩
theorem Mv.at {d g a : Addr} {o : HO} (m : Mv d g H H') (h : H a = some o) (n : a ≠ d ∧ a ≠ g) : H' a = some o := m.keep _ _ h n.1 n.2
/-- what is new stands apart from the deck -/
theorem Deck.off {d g p : Addr} (D : Deck H d g) (h : H p = none) : p ≠ d ∧ p ≠ g := by
  obtain ⟨m, L, h1, h2, r⟩ := D.ex
  exact ⟨(ne_of_none h1 h).symm, (ne_of_none h2 h).symm⟩
theorem Deck.new {d g p : Addr} {o : HO} (D : Deck H d g) (h : H p = none) : Deck (upd H p o) d g := D.same (Same.new h)
/-- what was new before is new or ours -/
theorem Mv.free {d g p : Addr} (D : Deck H d g) (m : Mv d g H H') (D' : Deck H' d g) (h : H' p = none) : H p = none := by
  have n := D'.off h
  cases e : H p with
  | none => rfl
  | some o => rw [m.keep p o e n.1 n.2] at h; cases h
/-- a change of what was not there -/
theorem Mv.mut {d g p : Addr} {o : HO} (m : Mv d g H H') (h : H p = none) : Mv d g H (upd H' p o) := ⟨fun b u hb n1 n2 => by
  rw [upd_ne (ne_of_none hb h)]
  exact m.keep b u hb n1 n2⟩
theorem Deck.mut {d g p : Addr} {o : HO} (D : Deck H d g) (n : p ≠ d ∧ p ≠ g) : Deck (upd H p o) d g := by
  obtain ⟨m, L, h1, h2, r⟩ := D.ex
  exact ⟨⟨m, L, by rw [upd_ne n.1.symm]; exact h1, by rw [upd_ne n.2.symm]; exact h2, r⟩⟩
def spDraw : Sp := fun vs H Q _ => ∃ (d g : Addr) (n : Int), vs = [.ref d, .int n] ∧ Deck H d g ∧ 0 < n ∧ n < 2 ^ 250 ∧
  ∀ (r : Int) (H' : Hp), 0 ≤ r → r < n → Deck H' d g → Mv d g H H' → Q (.int r) H'
end
def spPickL : Sp := fun vs H Q _ => ∃ (d g a : Addr) (xs : List V), vs = [.ref d, .ref a] ∧ Deck H d g ∧ H a = some (.lst xs) ∧ a ≠ g ∧ xs ≠ [] ∧ xs.length ≤ 1000 ∧
  ∀ (x : V) (H' : Hp), x ∈ xs → Deck H' d g → Mv d g H H' → Q x H'
def spPickS : Sp := fun vs H Q _ => ∃ (d g : Addr) (z : Str), vs = [.ref d, .str z] ∧ Deck H d g ∧ z.cps.toList ≠ [] ∧ z.length ≤ 1000 ∧
  ∀ (c : Nat) (H' : Hp), c ∈ z.cps.toList → Deck H' d g → Mv d g H H' → Q (.str ⟨#[c]⟩) H'
theorem at_in {α : Type} {xs : List α} {r : Int} (h0 : 0 ≤ r) (h1 : r < xs.length) : ∃ x, x ∈ xs ∧ atI xs r = some x := by
  obtain ⟨j, rfl⟩ : ∃ j : Nat, r = (j : Int) := ⟨r.toNat, by omega⟩
  have hj : j < xs.length := by omega
  exact ⟨xs[j], List.getElem_mem hj, atI_nat (List.getElem?_eq_getElem hj)⟩
theorem str_len (z : Str) : z.length = z.cps.toList.length := by
  rw [Array.length_toList]; rfl
theorem pop_at (L : List Int) (c : Int) : ((L ++ [c]).map V.int)[((L ++ [c]).map V.int).length - 1]? = some (.int c) := by
  rw [List.map_append, List.map_singleton, List.length_append, List.length_singleton, Nat.add_sub_cancel, List.getElem?_append_right (Nat.le_refl _), Nat.sub_self]
  rfl
theorem pop_left (L : List Int) (c : Int) : ((L ++ [c]).map V.int).dropLast = L.map V.int := by
  rw [List.map_append, List.map_singleton, List.dropLast_concat]
theorem snoc_of {L : List Int} (h : L ≠ []) : ∃ L0 c, L = L0 ++ [c] := ⟨L.dropLast, L.getLast h, (List.dropLast_concat_getLast h).symm⟩
theorem mul_small {i j : Int} (h0 : 0 ≤ i) (h1 : i < 2 ^ 64) : CMul i j := .inl ⟨by omega, h1⟩
theorem mul_smallR {i j : Int} (h0 : 0 ≤ j) (h1 : j < 2 ^ 64) : CMul i j := .inr ⟨by omega, h1⟩
theorem ty_l {K : PySem.W.Frag} {H : Hp} {a : Addr} {xs : List V} (h : SqL K H a xs) : tyV K "list" (.ref a) H := Or.inl ⟨rfl, xs, h⟩
theorem lt_c {a b : Int} (h : a < b) : a < b := h
theorem def_mk {P : Program} {w : World} {K : PySem.W.Frag} {mg : Str → Option Value} {base : Heap} {k : Nat} {x : Str} {st : Stmt} {f : Addr} {fd : FuncData} {ps : List Str} {sp : Sp} (F : Fun K x x st f fd) (gl : mg x = some (.ref f)) (b : Binds K fd ps []) (h : FnG P w K mg base CX0 k f fd ps sp) : DefG P w K mg base k x ps sp :=
  ⟨⟨f, fd, h, gl, F.kp, b⟩⟩
end GL
namespace GL
open PySem PySem.Spec PyProof.Rows L2 RZ
theorem truth_intsG {prog : Program} {w : World} {A : Around} {ns : List Int} {its : List Value} (r : Vals (ns.map V.int) its) :
    TruthOf prog w A (fun i v => its.toArray[i]? = some v) (fun i => (ns.map fun n => n != 0).getD i false) := by
  intro i v s Q E hv hq
  have hv' : its[i]? = some v := by simpa using hv
  have li : i < ns.length := by
    have := (List.getElem?_eq_some_iff.mp hv').1
    have e := r.length
    rw [List.length_map] at e
    omega
  have e1 : (ns.map V.int)[i]? = some (.int ns[i]) := by rw [List.getElem?_map, List.getElem?_eq_getElem li]; rfl
  obtain ⟨u, hu, ru⟩ := r.get e1
  rw [hv'] at hu
  cases hu
  obtain ⟨t, rfl⟩ := ru
  have hg : (ns.map fun n => n != 0).getD i false = (ns[i] != 0) := by
    rw [List.getD_eq_getElem?_getD, List.getElem?_map, List.getElem?_eq_getElem li]; rfl
  have hq' : Q ((ns.map fun n => n != 0).getD i false) s := hq
  rw [hg] at hq'
  exact PySem.P.truthy_int hq'
section
variable {X : Cx}
theorem walk_zipT {K : PySem.W.Frag} {a b : Addr} {xs ys : List V} {n : Nat} (hn : n = min xs.length ys.length) : Walk (ItzT K a b) n (fun H => SqT K H a xs ∧ SqT K H b ys) (YPair (fun i => xs[i]?) (fun i => ys[i]?)) where
  goes := fun i H hi h => ⟨xs, ys, xs[i]'(by omega), ys[i]'(by omega), h.1, h.2, List.getElem?_eq_getElem _, List.getElem?_eq_getElem _⟩
  stops := fun H h => ⟨xs, ys, h.1, h.2, by omega⟩
  yields := fun i H x H' _ h y => by
    obtain ⟨T, u, v, e1, e2, e3, f1, f2⟩ := y
    exact ⟨T, u, v, e1, e2, e3, f1 _ h.1, f2 _ h.2⟩
theorem op_inK {K : PySem.W.Frag} (h : X.K = K := by rfl) : OpR X (compareOp .In) (rIn K false) := h ▸ op_in_seq
theorem op_notInK {K : PySem.W.Frag} (h : X.K = K := by rfl) : OpR X (compareOp .NotIn) (rIn K true) := h ▸ op_notIn_seq
/-- any of a list of ints -/
def rAnyI (K : PySem.W.Frag) : List V → Hp → VK → Prop := fun vs H Q => ∃ (a : Addr) (ns : List Int), vs = [V.ref a] ∧ SqL K H a (ns.map V.int) ∧ Q (.bl (ns.any fun n => n != 0)) H
theorem cr_anyI (calm : X.calm = true) : CallR X (.builtin "any") (rAnyI X.K) := by
  intro pins s σ H vs us Q I r h
  obtain ⟨a, ns, rfl, hs, q⟩ := h
  obtain ⟨its, rv, hl, _⟩ := I.list hs
  have en : its.length = ns.length := by rw [← rv.length, List.length_map]
  rw [Vals.ref1 r]
  refine call_any_walk (iter_any hl.isList ?_)
  rintro s₂ rfl st hne
  refine ⟨_, _, _, _, _, _, _, rfl, Walks.list (A := X.A.in1) (I.ok.hd calm) _ a hne its.toArray, st, truth_intsG rv, ?_⟩
  intro h' tk hk
  refine ⟨.bl _, H, I.kept (fun b o eo => hk b o (fun hm => ?_) (Heap.get?_push_of_some _ eo)), ?_, q⟩
  · rcases List.mem_cons.mp hm with e1 | hm
    · exact absurd (e1 ▸ Heap.lt_size eo) (Nat.lt_irrefl _)
    · cases hm
  · have ea := any_range (ns.map fun n => n != 0)
    rw [List.length_map] at ea
    show Value.bool _ = Value.bool _
    rw [List.size_toArray, en, ea, List.any_map]
    rfl
end

/-! ### data that may be shown: at most B signs, at most k deep -/
structure Nice (B k : Nat) (d : PyData) : Prop where
  sh : d.showable = true
  nd : d.hasDict = false
  dp : d.depth ≤ k
  sz : d.shown.length ≤ B
theorem Nice.mono {B B' k k' : Nat} {d : PyData} (h : Nice B k d) (hb : B ≤ B') (hk : k ≤ k') : Nice B' k' d := ⟨h.sh, h.nd, Nat.le_trans h.dp hk, Nat.le_trans h.sz hb⟩
theorem shownAll_len : ∀ ds : List PyData, (PyData.shownAll ds).length = ds.length
  | [] => rfl
  | d :: r => by
    show (PyData.shownAll r).length + 1 = r.length + 1
    rw [shownAll_len r]
theorem shownAll_sum {B : Nat} : ∀ ds : List PyData, (∀ d ∈ ds, d.shown.length ≤ B) → ((PyData.shownAll ds).map (·.length)).sum ≤ ds.length * B
  | [], _ => by simp [PyData.shownAll]
  | d :: r, h => by
    have ih := shownAll_sum (B := B) r fun x hx => h x (List.mem_cons_of_mem _ hx)
    have h1 := h d List.mem_cons_self
    show ((d.shown :: PyData.shownAll r).map (·.length)).sum ≤ (r.length + 1) * B
    rw [List.map_cons, List.sum_cons, Nat.succ_mul]
    omega
theorem showableAll_of : ∀ ds : List PyData, (∀ d ∈ ds, d.showable = true) → PyData.showableAll ds = true
  | [], _ => rfl
  | d :: r, h => by
    show (d.showable && PyData.showableAll r) = true
    rw [h d List.mem_cons_self, showableAll_of r fun x hx => h x (List.mem_cons_of_mem _ hx)]; rfl
theorem hasDictAll_of : ∀ ds : List PyData, (∀ d ∈ ds, d.hasDict = false) → PyData.hasDictAll ds = false
  | [], _ => rfl
  | d :: r, h => by
    show (d.hasDict || PyData.hasDictAll r) = false
    rw [h d List.mem_cons_self, hasDictAll_of r fun x hx => h x (List.mem_cons_of_mem _ hx)]; rfl
theorem depthAll_of {k : Nat} : ∀ ds : List PyData, (∀ d ∈ ds, d.depth ≤ k) → PyData.depthAll ds ≤ k
  | [], _ => Nat.zero_le _
  | d :: r, h => by
    show max d.depth (PyData.depthAll r) ≤ k
    have h1 := h d List.mem_cons_self
    have h2 := depthAll_of (k := k) r fun x hx => h x (List.mem_cons_of_mem _ hx)
    omega
theorem Nice.tup {B k n : Nat} {ds : List PyData} (h : ∀ d ∈ ds, Nice B k d) (hn : ds.length ≤ n) : Nice (n * (B + 2) + 3) (k + 1) (.tuple ds) where
  sh := showableAll_of ds fun d hd => (h d hd).sh
  nd := hasDictAll_of ds fun d hd => (h d hd).nd
  dp := by
    show PyData.depthAll ds + 1 ≤ k + 1
    have := depthAll_of ds fun d hd => (h d hd).dp
    omega
  sz := by
    show (tupleText (PyData.shownAll ds)).length ≤ _
    have h1 := tupleText_len_le (PyData.shownAll ds)
    have h2 := shownAll_sum ds fun d hd => (h d hd).sz
    rw [shownAll_len] at h1
    have h3 : ds.length * B + 2 * ds.length ≤ n * (B + 2) := by
      have : ds.length * (B + 2) ≤ n * (B + 2) := Nat.mul_le_mul_right _ hn
      rw [Nat.mul_add] at this
      omega
    omega
theorem Nice.lst {B k n : Nat} {ds : List PyData} (h : ∀ d ∈ ds, Nice B k d) (hn : ds.length ≤ n) : Nice (n * (B + 2) + 3) (k + 1) (.list ds) where
  sh := showableAll_of ds fun d hd => (h d hd).sh
  nd := hasDictAll_of ds fun d hd => (h d hd).nd
  dp := by
    show PyData.depthAll ds + 1 ≤ k + 1
    have := depthAll_of ds fun d hd => (h d hd).dp
    omega
  sz := by
    show (listText (PyData.shownAll ds)).length ≤ _
    have h1 := listText_len_le (PyData.shownAll ds)
    have h2 := shownAll_sum ds fun d hd => (h d hd).sz
    rw [shownAll_len] at h1
    have h3 : ds.length * B + 2 * ds.length ≤ n * (B + 2) := by
      have : ds.length * (B + 2) ≤ n * (B + 2) := Nat.mul_le_mul_right _ hn
      rw [Nat.mul_add] at this
      omega
    omega
theorem Nice.bl (b : Bool) : Nice 5 0 (.bool b) := by
  cases b
  · exact ⟨rfl, rfl, Nat.le_refl _, by decide +kernel⟩
  · exact ⟨rfl, rfl, Nat.le_refl _, by decide +kernel⟩
theorem small_ints : ∀ i : Fin 401, (Str.ofString (toString ((i.val : Int) - 200))).length ≤ 5 ∧ ((i.val : Int) - 200).natAbs.log2 < 1920 := by decide +kernel
theorem Nice.int {i : Int} (h0 : -200 ≤ i) (h1 : i ≤ 200) : Nice 5 0 (.int i) := by
  have h := small_ints ⟨(i + 200).toNat, by omega⟩
  have e : (((i + 200).toNat : Nat) : Int) - 200 = i := by omega
  simp only [e] at h
  exact ⟨decide_eq_true h.2, rfl, Nat.le_refl _, h.1⟩
theorem Nice.str {z : Str} {n : Nat} (hl : z.cps.toList.length ≤ n) (hc : ∀ c ∈ z.cps.toList, c < 128) : Nice (10 * n + 2) 0 (.str z) := by
  refine ⟨rfl, rfl, Nat.le_refl _, ?_⟩
  have h := StrLaws.reprText_len z fun c hm => Nat.lt_trans (hc c hm) (by decide)
  rw [str_len z] at h
  show (reprText z).length ≤ _
  omega
section
variable {X : Cx}
theorem call_reprN (hc : Calm X.A) (hu : X.A.units + 100 < cLine) : CallR X (.builtin "repr") (fun xs H Q => ∃ (a : Addr) (d : PyData) (B k : Nat), xs = [.ref a] ∧ Dp X.K H (.ref a) d ∧ Nice B k d ∧ B ≤ 100000 ∧ k ≤ 60 ∧ Q (.str d.shown) H) := by
  intro pins s σ H xs us Q I r h
  obtain ⟨a, d, B, k, e, hd, hn, hb, hk, q⟩ := h
  exact call_reprD hc hu pins s σ H xs us Q I r ⟨a, d, e, hd, hn.sh, hn.nd, Nat.le_trans hn.dp (by omega), small (Nat.le_trans hn.sz hb), q⟩
end
theorem sq_mv {K : PySem.W.Frag} {H H' : Hp} {d g a : Addr} {xs : List V} (D : Deck H d g) (m : Mv d g H H') (h : SqT K H a xs) : SqT K H' a xs := by
  obtain ⟨k, L, h1, h2, _⟩ := D.ex
  rcases h with (h | ⟨o, h⟩) | h
  · exact .inl (.inl (m.keep _ _ h (ne_of h h1 (fun z => nomatch z)) (ne_of h h2 (fun z => nomatch z))))
  · exact .inl (.inr ⟨o, m.keep _ _ h (ne_of h h1 (fun z => nomatch z)) (ne_of h h2 (fun z => nomatch z))⟩)
  · exact .inr h
/-- t + u, whatever they are -/
theorem catA_of {K : PySem.W.Frag} {H : Hp} {a b : Addr} {xs ys : List V} {Q : VK} (ha : SqT K H a xs) (hb : SqT K H b ys) (hl : xs.length + ys.length ≤ 100000) (q : ∀ p H', Same H H' → SqT K H' p (xs ++ ys) → Q (.ref p) H') : rCatA K (.ref a) (.ref b) H Q := by
  refine ⟨a, b, xs, ys, rfl, rfl, ha, hb, small hl, fun e => ?_, fun _ e => ?_, fun _ _ p np => ?_⟩
  · refine q b H (Same.refl H) ?_
    rw [e, List.nil_append]; exact hb
  · refine q a H (Same.refl H) ?_
    rw [e, List.append_nil]; exact ha
  · exact q p _ (Same.new np) (tofT upd_same)
theorem slA_of {K : PySem.W.Frag} {H : Hp} {a : Addr} {xs : List V} {lo hi : Option Int} {Q : VK} (ha : SqT K H a xs) (q : ∀ p H', Same H H' → SqT K H' p (cutV xs lo hi) → Q (.ref p) H') : rSlA K (.ref a) lo hi H Q := by
  refine ⟨a, xs, rfl, ha, fun e => ?_, fun _ p np => ?_⟩
  · refine q a H (Same.refl H) ?_
    unfold cutV
    rw [e.1, e.2, Nat.sub_zero, List.drop_zero, List.take_length]; exact ha
  · exact q p _ (Same.new np) (tofT upd_same)
end GL
/-! the deck of the later laws: a dict of a list of ints and two ints, the second one counts the draws -/
namespace G3
open PySem PySem.Spec PyProof.Rows L2 GL
structure Keys where
  c : Str
  b : Str
  n : Str
  cb : ¬ c = b
  cn : ¬ c = n
  bn : ¬ b = n
theorem inr_ne {x y : Str} (h : ¬ x = y) : ¬ ((Sum.inr x : Key) = (Sum.inr y : Key)) := fun e => by
  injection e with e1
  exact h e1
def deckD (k : Keys) (g : Addr) (m n : Int) : List (Key × V) := [(Sum.inr k.c, .ref g), (Sum.inr k.b, .int m), (Sum.inr k.n, .int n)]
theorem deck_c (k : Keys) (g : Addr) (m n : Int) : valV (deckD k g m n) (Sum.inr k.c : Key) = some (.ref g) := valV_pos rfl
theorem deck_b (k : Keys) (g : Addr) (m n : Int) : valV (deckD k g m n) (Sum.inr k.b : Key) = some (.int m) := by
  unfold deckD
  rw [valV_neg (inr_ne k.cb), valV_pos rfl]
theorem deck_n (k : Keys) (g : Addr) (m n : Int) : valV (deckD k g m n) (Sum.inr k.n : Key) = some (.int n) := by
  unfold deckD
  rw [valV_neg (inr_ne k.cn), valV_neg (inr_ne k.bn), valV_pos rfl]
theorem deck_put (k : Keys) (g : Addr) (m n n' : Int) : putK (deckD k g m n) (Sum.inr k.n : Key) (.int n') = deckD k g m n' := by
  unfold putK deckD
  simp only [List.any_cons, List.any_nil, List.map_cons, List.map_nil, decide_eq_false (inr_ne k.cn), decide_eq_false (inr_ne k.bn), decide_true, Bool.or_true, Bool.false_or, Bool.or_false, if_true]
  rw [if_neg (inr_ne k.cn), if_neg (inr_ne k.bn)]
theorem get_c {k : Keys} {H : Hp} {d g : Addr} {m n : Int} (h : H d = some (.dK (deckD k g m n))) : DGet H d (.str k.c) (some (.ref g)) := deck_c k g m n ▸ DGet.k (k := Sum.inr k.c) h
theorem get_b {k : Keys} {H : Hp} {d g : Addr} {m n : Int} (h : H d = some (.dK (deckD k g m n))) : DGet H d (.str k.b) (some (.int m)) := deck_b k g m n ▸ DGet.k (k := Sum.inr k.b) h
theorem get_n {k : Keys} {H : Hp} {d g : Addr} {m n : Int} (h : H d = some (.dK (deckD k g m n))) : DGet H d (.str k.n) (some (.int n)) := deck_n k g m n ▸ DGet.k (k := Sum.inr k.n) h
theorem put_n {k : Keys} {H : Hp} {d g : Addr} {m n n' : Int} (h : H d = some (.dK (deckD k g m n))) : DPut H d (.str k.n) (.int n') (upd H d (.dK (deckD k g m n'))) := deck_put k g m n n' ▸ DPut.k (k := Sum.inr k.n) h (show 3 < sizeLine from smallt (by omega))
theorem deck_merge (k : Keys) (g : Addr) (m n : Int) : mergeK [] (deckD k g m n) = deckD k g m n := by
  have e1 : putK ([] : List (Key × V)) (Sum.inr k.c : Key) (V.ref g) = [((Sum.inr k.c : Key), V.ref g)] := rfl
  have e2 : putK [((Sum.inr k.c : Key), V.ref g)] (Sum.inr k.b : Key) (V.int m) = [((Sum.inr k.c : Key), V.ref g), ((Sum.inr k.b : Key), V.int m)] := by
    unfold putK
    simp only [List.any_cons, List.any_nil, decide_eq_false (inr_ne k.cb), Bool.or_false]
    rfl
  have e3 : putK [((Sum.inr k.c : Key), V.ref g), ((Sum.inr k.b : Key), V.int m)] (Sum.inr k.n : Key) (V.int n) = deckD k g m n := by
    unfold putK
    simp only [List.any_cons, List.any_nil, decide_eq_false (inr_ne k.cn), decide_eq_false (inr_ne k.bn), Bool.or_false]
    rfl
  show putK (putK (putK ([] : List (Key × V)) (Sum.inr k.c : Key) (V.ref g)) (Sum.inr k.b : Key) (V.int m)) (Sum.inr k.n : Key) (V.int n) = _
  rw [e1, e2, e3]
section
variable {K : PySem.W.Frag} {H H' : Hp} {k : Keys} {d g : Addr} {b b' : Nat}
/-- the deck, from which b more draws may be made -/
structure Dk (k : Keys) (H : Hp) (d g : Addr) (b : Nat) : Prop where
  ex : ∃ (m n : Int) (L : List Int), H d = some (.dK (deckD k g m n)) ∧ H g = some (.lst (L.map V.int)) ∧ L.length ≤ 63 ∧ 0 ≤ m ∧ m < 2147483587 ∧ 0 ≤ n ∧ n + b ≤ 1000000000000
theorem Dk.ne (D : Dk k H d g b) : d ≠ g := by
  obtain ⟨m, n, L, h1, h2, _⟩ := D.ex
  exact ne_of h1 h2 (fun z => nomatch z)
theorem Dk.same (D : Dk k H d g b) (s : Same H H') : Dk k H' d g b := by
  obtain ⟨m, n, L, h1, h2, r⟩ := D.ex
  exact ⟨⟨m, n, L, s _ _ h1, s _ _ h2, r⟩⟩
theorem Dk.mono (D : Dk k H d g b) (h : b' ≤ b) : Dk k H d g b' := by
  obtain ⟨m, n, L, h1, h2, h3, h4, h5, h6, h7⟩ := D.ex
  exact ⟨⟨m, n, L, h1, h2, h3, h4, h5, h6, by omega⟩⟩
theorem Dk.off {p : Addr} (D : Dk k H d g b) (h : H p = none) : p ≠ d ∧ p ≠ g := by
  obtain ⟨m, n, L, h1, h2, r⟩ := D.ex
  exact ⟨(ne_of_none h1 h).symm, (ne_of_none h2 h).symm⟩
theorem Dk.new {p : Addr} {o : HO} (D : Dk k H d g b) (h : H p = none) : Dk k (upd H p o) d g b := D.same (Same.new h)
theorem Dk.mut {p : Addr} {o : HO} (D : Dk k H d g b) (n : p ≠ d ∧ p ≠ g) : Dk k (upd H p o) d g b := by
  obtain ⟨m, n', L, h1, h2, r⟩ := D.ex
  exact ⟨⟨m, n', L, by rw [upd_ne n.1.symm]; exact h1, by rw [upd_ne n.2.symm]; exact h2, r⟩⟩
theorem Mv.free3 {p : Addr} (m : Mv d g H H') (D' : Dk k H' d g b) (h : H' p = none) : H p = none := by
  have n := D'.off h
  cases e : H p with
  | none => rfl
  | some o => rw [m.keep p o e n.1 n.2] at h; cases h
def spDrw (k : Keys) : Sp := fun vs H Q _ => ∃ (d g : Addr) (n : Int) (b : Nat), vs = [.ref d, .int n] ∧ Dk k H d g (b + 1) ∧ 0 < n ∧ n.natAbs < 2 ^ 8000 ∧
  ∀ (r : Int) (H' : Hp), 0 ≤ r → r < n → Dk k H' d g b → Mv d g H H' → Q (.int r) H'
def spDck (K : PySem.W.Frag) (k : Keys) : Sp := fun vs H Q _ => ∃ (a : Addr) (ns : List Int), vs = [.ref a] ∧ SqL K H a (ns.map V.int) ∧ ns.length ≤ 63 ∧
  ∀ (d g : Addr) (H' : Hp), Same H H' → H d = none → H g = none → Dk k H' d g 1000000000000 → Q (.ref d) H'
def spPck (k : Keys) : Sp := fun vs H Q _ => ∃ (d g a : Addr) (xs : List V) (b : Nat), vs = [.ref d, .ref a] ∧ Dk k H d g (b + 1) ∧ H a = some (.lst xs) ∧ a ≠ g ∧ xs ≠ [] ∧ xs.length ≤ 1000 ∧
  ∀ (x : V) (H' : Hp), x ∈ xs → Dk k H' d g b → Mv d g H H' → Q x H'
theorem cut_map (ns : List Int) (lo hi : Option Int) : cutV (ns.map V.int) lo hi = ((ns.drop (HT.sIx ns.length 0 lo)).take (HT.sIx ns.length ns.length hi - HT.sIx ns.length 0 lo)).map V.int := by
  unfold cutV
  rw [List.length_map, List.map_take, List.map_drop]
theorem cut_ints (ns : List Int) (lo hi : Option Int) : ∃ ms : List Int, cutV (ns.map V.int) lo hi = ms.map V.int ∧ ms.length ≤ ns.length := by
  refine ⟨_, cut_map ns lo hi, ?_⟩
  rw [List.length_take, List.length_drop]
  omega
theorem ints_at {ns : List Int} {i : Nat} {x : V} (h : (ns.map V.int)[i]? = some x) : ∃ n, x = .int n ∧ i < ns.length := by
  rw [List.getElem?_map] at h
  cases e : ns[i]? with
  | none => rw [e] at h; cases h
  | some n =>
    rw [e] at h
    exact ⟨n, (Option.some.inj h).symm, (List.getElem?_eq_some_iff.mp e).1⟩
theorem vals_rev : ∀ {xs : List V} {us : List Value}, Vals xs us → Vals xs.reverse us.reverse
  | _, _, .nil => .nil
  | _, _, .cons r t => by
    rw [List.reverse_cons, List.reverse_cons]
    exact Vals.append (vals_rev t) (.cons r .nil)
def spLaw (K : PySem.W.Frag) : Sp := fun vs H Q _ => ∃ (a : Addr) (ns : List Int), vs = [.ref a] ∧ SqL K H a (ns.map V.int) ∧ ns.length ≤ 63 ∧ ∀ H', Q (.bl true) H'
theorem walk {l : PySem.W.OpenLaw} {k : Nat} {q : Program} {loose : List Str} {XP : (Str → Option Value) → Heap → Prop} {YP : World → Heap → Prop} {d : DefRec} {K : Params → PySem.W.Frag} (hn : l.most = some 63) (hdf : d.params.defaults = []) (hr : Room k callerA)
    (hY : ∀ (w : World) (h : Heap), YP w h → (K w.params).In h)
    (F : ∀ (w : World) (mg : Str → Option Value) (fa : Addr) (h : Heap), (K w.params).In h → h.Ns mainGlobals mg → mg d.name = some (.ref fa) →
      ∃ fd : FuncData, (∀ (s : Shared) (u : Value), BindsTo s fd ⟨[u], []⟩ [("_law_script", u)]) ∧ ∀ base : Heap, (K w.params).In base → base.Ns mainGlobals mg → FnG l.prog w (K w.params) mg base CX0 k fa fd ["_law_script"] (spLaw (K w.params))) :
    PySem.W.WalkO q loose XP YP l.row.toRowW d [] (fun f vs => PySem.call f vs) :=
  walkG (n := 63) (k := k) (x := "_law_script") (sp := spLaw) hn (by decide) hdf hr hY F (fun _ _ a ns hl _ hS => ⟨a, ns, rfl, hS, hl, fun _ => rfl⟩)
end
section
variable {X : Cx} {k n : Nat} {f : Addr} {fd : FuncData} {ps ks : List Str} {sp : Sp} {x : Str} {p pos : Pos} {e : Expr} {es : List Expr} {t tk : TA} {kws : List Keyword} {g : List Value → List Value → List Value} {gV : List V → List V → List V}
/-- what is known of a def that is called with keywords -/
structure DefKG (P : Program) (w : World) (K : PySem.W.Frag) (mg : Str → Option Value) (base : Heap) (k : Nat) (x : Str) (ps : List Str) (n : Nat) (ks : List Str) (gV : List V → List V → List V) (sp : Sp) : Prop where
  ex : ∃ (f : Addr) (fd : FuncData) (g : List Value → List Value → List Value), FnG P w K mg base CX0 k f fd ps sp ∧ mg x = some (.ref f) ∧ PySem.W.keepIn K (.ref f) = true ∧ KBn K fd ps n ks g gV
def tCallKG (sp : Sp) (n m : Nat) (gV : List V → List V → List V) (E : XK) (ta tk : TA) : TE := fun σ H Q => ta σ H fun vs H1 => tk σ H1 fun zs H2 => vs.length = n ∧ zs.length = m ∧ sp (gV vs zs) H2 Q E
/-- f(a=.., b=..) -/
theorem pe_defK0 (D : DefKG X.prog X.w X.K X.mg X.base k x ps 0 ks gV sp) (hr : Room k X.A) (hc : Calm X.A) (hg : Gl X x) (hkw : PK X kws tk)
    (hall : (backToKw pos (keywordEach kws X.env)).all (·.1.isSome) = true := by rfl) (hks : (backToKw pos (keywordEach kws X.env)).filterMap (·.1) = ks := by rfl) (hdb : (x == ("__debug__" : Str)) = false := by decide)
    (hpl : ((backTo pos (starEach [] X.env)).any (·.1) || (backToKw pos (keywordEach kws X.env)).any (·.1.isNone)) = false := by rfl) :
    PE X (.Call (.Name x p) [] kws pos) (tCallKG sp 0 ks.length gV E0 tNil tk) := by
  obtain ⟨f, fd, g, F, hm, hk, hb⟩ := D.ex
  constructor
  intro pins s σ H Q I h
  refine wpAny_Call_Name_kw (ld_glob I hg hm (PySem.W.callWith_KW0 (h₀ := X.base) I.ok.mod.kin hk hall (thn (hkw.run pos pins s σ H _ I h) ?_) hpl) hdb)
  rintro ws s2 ⟨zs, H2, I2, rz, l1, l2, q2⟩
  refine ⟨I2.kIn, ?_⟩
  rw [hks]
  exact runKG (us := []) (vs := []) F hr hc hb pass0 I2 .nil rz rfl l2 q2
end
theorem Nice.intW {i : Int} (h : i.natAbs < 2 ^ 1920) : Nice 1921 0 (.int i) := by
  have l : i.natAbs.log2 < 1920 := PySem.Flt.log2_lt_of (by decide) h
  exact ⟨decide_eq_true l, rfl, Nat.le_refl _, PyProof.Rows.int_text_len_1921 l⟩
theorem Nice.natW {n : Nat} (h : n < 2 ^ 1920) : Nice 1921 0 (.int (n : Int)) := Nice.intW (by rw [Int.natAbs_natCast]; exact h)
theorem defK_mk {P : Program} {w : World} {K : PySem.W.Frag} {mg : Str → Option Value} {base : Heap} {k n : Nat} {x : Str} {st : Stmt} {f : Addr} {fd : FuncData} {ps ks : List Str} {gV : List V → List V → List V} {g : List Value → List Value → List Value} {sp : Sp} (F : Fun K x x st f fd) (gl : mg x = some (.ref f)) (b : KBn K fd ps n ks g gV) (h : FnG P w K mg base CX0 k f fd ps sp) : DefKG P w K mg base k x ps n ks gV sp :=
  ⟨⟨f, fd, g, h, gl, F.kp, b⟩⟩
end G3
namespace GL
open PySem PySem.Spec PyProof.Rows L2 PySem.W PySem.Calls
/-! ### tuples whose own methods are called: it is known that they have no dict -/
def SqZ (K : PySem.W.Frag) (H : Hp) (a : Addr) (xs : List V) : Prop :=
  (∃ o : Obj, H a = some (.frz o (.tup xs)) ∧ o.dict = none) ∨
    ∃ (o : Obj) (its : Array Value) (n : Nat), K.lookup a = some o ∧ o.cls = .type "tuple" ∧ o.dict = none ∧ o.data = .seq its n ∧ its.size ≤ sizeLine ∧ Vals xs its.toList
theorem SqZ.t {K : PySem.W.Frag} {H : Hp} {a : Addr} {xs : List V} (h : SqZ K H a xs) : SqT K H a xs := by
  rcases h with ⟨o, h, _⟩ | ⟨o, its, n, h1, h2, _, h3, h4, h5⟩
  · exact .inl (.inr ⟨o, h⟩)
  · exact .inr ⟨o, its, n, h1, h2, h3, h4, h5⟩
theorem SqZ.to {K : PySem.W.Frag} {H H' : Hp} {a : Addr} {xs : List V} (k : ∀ o, H a = some (.frz o (.tup xs)) → H' a = some (.frz o (.tup xs))) (h : SqZ K H a xs) : SqZ K H' a xs :=
  h.imp (fun ⟨o, h, d⟩ => ⟨o, k o h, d⟩) id
theorem SqZ.same {K : PySem.W.Frag} {H H' : Hp} {a : Addr} {xs : List V} (s : Same H H') (h : SqZ K H a xs) : SqZ K H' a xs := h.to fun _ e => s _ _ e
/-- what is said of a new tuple -/
def NewZ (H : Hp) (xs : List V) (Q : VK) : Prop := ∀ (p : Addr) (o : Obj), H p = none → o.dict = none → Q (.ref p) (upd H p (.frz o (.tup xs)))
section
variable {X : Cx} {pins : List (Addr × Obj)} {σ : L2.St} {H : Hp} {s : Shared}
theorem newZ {xs : List V} {its : List Value} {Q : VK} (I : Inv X pins σ H s) (r : Vals xs its) (hz : xs.length ≤ sizeLine) (q : NewZ H xs Q) : EP X pins σ Q (.ref s.heap.objs.size) { s with heap := s.heap.push { cls := .type "tuple", data := .seq its.toArray } } :=
  ⟨.ref s.heap.objs.size, upd H s.heap.objs.size (.frz ({ cls := .type "tuple", data := .seq its.toArray } : Obj) (.tup xs)),
    I.laid (t' := s.toks) (fun b ob e => Heap.get?_push_of_some _ e) (Nat.le_refl _) (show ObjOk X.prog X.w _ _ _ (.frz _ (.tup xs)) from ⟨Heap.get?_push_size _ rfl, hz, its, r, IsTup.new _ _⟩), rfl, q _ _ (I.hok.fresh (Nat.le_refl _)) rfl⟩
/-- tuple(a list) -/
def kTupZ (K : PySem.W.Frag) : V → Hp → VK → Prop := fun x H Q => ∃ p xs, x = .ref p ∧ SqL K H p xs ∧ NewZ H xs Q
theorem pe_tupleZ {a : Expr} {ta : TE} {p pos : Pos} (hg : Gl X "tuple") (hm : X.mg "tuple" = none) (ha : PE X a ta) (na : starEach [a] X.env = (false, eval a X.env) :: starEach [] X.env := by rfl) :
    PE X (.Call (.Name "tuple" p) [a] [] pos) (tThen ta (kTupZ X.K)) := by
  constructor
  intro pins s σ H Q I h
  refine Call_ (ld_blt I hg hm boot_tuple (PyProof.Rows.callWith_type1 (one_arg ha I h (fun v s2 x H2 I2 r q => ?_) na) na))
  obtain ⟨p, xs, rfl, hs, q⟩ := q
  obtain rfl : v = .ref p := r
  obtain ⟨its, rv, pl, hz⟩ := I2.list hs
  refine call_tuple_list pl.isList (fun h' hk => ?_) (by rw [List.size_toArray, ← rv.length]; exact hz)
  exact newZ (s := { s2 with heap := h' }) (I2.kept (t' := s2.toks) hk) rv hz q
/-- t + u -/
def rCatZ (K : PySem.W.Frag) : R2 := fun x y H Q => ∃ a b xs ys, x = .ref a ∧ y = .ref b ∧ SqT K H a xs ∧ SqT K H b ys ∧ xs.length + ys.length ≤ sizeLine ∧ (xs = [] → Q (.ref b) H) ∧ (xs ≠ [] → ys = [] → Q (.ref a) H) ∧ (xs ≠ [] → ys ≠ [] → NewZ H (xs ++ ys) Q)
theorem op_catZ : OpR X (binaryOp .Add) (rCatZ X.K) := by
  intro pins s σ H x y v u Q I rx ry h
  obtain ⟨a, b, xs, ys, rfl, rfl, ha, hb, hz, q0, q1, q2⟩ := h
  obtain rfl : v = .ref a := rx
  obtain rfl : u = .ref b := ry
  obtain ⟨its, r1, p1, _⟩ := I.tuple ha
  obtain ⟨its2, r2, p2, _⟩ := I.tuple hb
  by_cases hx : xs = []
  · subst hx
    cases r1
    exact cat_tup0 p1 p2 ⟨.ref b, H, I, rfl, q0 rfl⟩
  · refine HT.cat_tup p1 p2 (fun z => hx (r1.nil_iff.mp z)) (fun z => ⟨.ref a, H, I, rfl, q1 hx (r2.nil_iff.mp z)⟩) (fun z => ?_) (by rw [← r1.length, ← r2.length]; exact hz)
    exact newZ I (r1.append r2) (by rw [List.length_append]; exact hz) (q2 hx fun w => z (r2.nil_iff.mpr w))
/-- t[lo:hi] -/
def rSlZ (K : PySem.W.Frag) : V → Option Int → Option Int → Hp → VK → Prop := fun x lo hi H Q => ∃ a xs, x = .ref a ∧ SqT K H a xs ∧
  (HT.sIx xs.length 0 lo = 0 ∧ HT.sIx xs.length xs.length hi = xs.length → Q (.ref a) H) ∧ (¬ (HT.sIx xs.length 0 lo = 0 ∧ HT.sIx xs.length xs.length hi = xs.length) → NewZ H (cutV xs lo hi) Q)
theorem sl_tupZ : SlR X (rSlZ X.K) := by
  intro pins s σ H x v vl vu lo hi sl Q I rx hs pl pu h
  obtain ⟨a, xs, rfl, hx, q1, q2⟩ := h
  obtain rfl : v = .ref a := rx
  obtain ⟨its, r, ht, hz⟩ := I.tuple hx
  have hlen : its.toArray.size = xs.length := by rw [List.size_toArray]; exact r.length.symm
  refine ⟨"tuple", _, PyProof.Rows.slot_tuple_getitem.lookup, ht.typeIs, ?_⟩
  by_cases hw : HT.sIx xs.length 0 lo = 0 ∧ HT.sIx xs.length xs.length hi = xs.length
  · exact getItem_tuple_whole ht hs pl pu (by rw [hlen]; exact hw) ⟨.ref a, H, I, rfl, q1 hw⟩
  · refine HT.getItem_tuple_cut ht hs pl pu (by rw [hlen]; exact hw) ?_ (by rw [hlen]; exact hz)
    rw [hlen]
    exact newZ I ((r.drop (HT.sIx xs.length 0 lo)).take (HT.sIx xs.length xs.length hi - HT.sIx xs.length 0 lo)) (Nat.le_trans (cutV_length xs lo hi) hz) (q2 hw)
variable {o e : Expr} {es : List Expr} {to : TE} {t : TA} {name : Str} {apos cpos : Pos} {id : String} {r : V → List V → Hp → VK → Prop}
/-- t.m(e, ..), m a method of tuples -/
def tBMZ (K : PySem.W.Frag) (r : V → List V → Hp → VK → Prop) (to : TE) (t : TA) : TE := fun σ H Q => to σ H fun x H1 => (∃ a xs, x = .ref a ∧ SqZ K H1 a xs) ∧ t σ H1 fun xs H2 => r x xs H2 Q
theorem pe_bmZ (slot : Slot "tuple" name id) (hty : typeOf (.builtin id) = pure (.type "method_descriptor")) (hm : MtR X id r) (ho : PE X o to) (ha : PA X (e :: es) t)
    (hbase : attributeBase o name X.env (eval o X.env) = eval o X.env := by rfl)
    (hfew : ((backTo cpos (starEach (e :: es) X.env)).all (fun x => !x.1) && (backToKw cpos (keywordEach [] X.env)).all (fun x => x.1.isSome)
      && decide ((e :: es).length + ([] : List Keyword).length + (if ([] : List Keyword).isEmpty then 0 else 1) < 30)) = true := by rfl)
    (hline : (apos.endLine == cpos.line) = true := by rfl) (hs : starEach (e :: es) X.env = (false, eval e X.env) :: starEach es X.env := by rfl) (hplain : (backTo cpos (starEach es X.env)).any (·.1) = false := by rfl) :
    PE X (.Call (.Attribute o name apos) (e :: es) [] cpos) (tBMZ X.K r to t) := by
  constructor
  intro pins s σ H Q I h
  refine wpAny_Call_method_late hbase hfew hline rfl (thn (ho.run pins s σ H _ I h) fun v s1 ⟨x, H1, I1, r1, ty, q1⟩ => ?_)
  obtain ⟨a, xs, rfl, hz⟩ := ty
  obtain rfl : v = .ref a := r1
  have tp : s1.TypeIs (.ref a) "tuple" ∧ ∃ ob, s1.heap.get? a = some ob ∧ ob.dict = none := by
    obtain ⟨its, _, ht, _⟩ := I1.tuple hz.t
    refine ⟨ht.typeIs, ?_⟩
    rcases hz with ⟨ob, e, d⟩ | ⟨ob, _, _, e, _, d, _⟩
    · exact ⟨ob, ((show ObjOk X.prog X.w H1 s1.heap a (.frz ob (.tup xs)) from I1.hok a _ e)).1, d⟩
    · exact ⟨ob, I1.kIn a ob e, d⟩
  refine ⟨"tuple", id, PySem.F.plainAttrs_tuple, slot, hty, tp.1, fun b e => ?_, ?_⟩
  · cases e
    exact tp.2
  have hA := ha.run cpos pins s1 σ H1 _ I1 q1
  rw [hs] at hA ⊢
  refine Calls.callWith_builtin (by show (false || (backTo cpos (starEach es X.env)).any (·.1)) = false; rw [hplain] <;> rfl) (Calls.evalArgs_plain ?_)
  exact thn hA fun us s2 ⟨vs, H2, I2, r2, q2⟩ => hm pins s2 σ H2 (V.ref a) vs _ us Q I2 rfl r2 q2
end

/-! ### t[::-1] -/
section
variable {prog : Program} {w : World} {A : Around} {E : Value → Shared → Prop} {s : Shared}
theorem fm_congr {α β : Type} {f g : α → Option β} : ∀ l : List α, (∀ k ∈ l, f k = g k) → l.filterMap f = l.filterMap g
  | [], _ => rfl
  | a :: r, h => by
    rw [List.filterMap_cons, List.filterMap_cons, h a List.mem_cons_self, fm_congr r fun k hk => h k (List.mem_cons_of_mem _ hk)]
theorem back_list (xs : Array Value) : ((List.range xs.size).filterMap fun (k : Nat) => xs[((xs.size : Int) - 1 + (k : Int) * (-1)).toNat]?).toArray = xs.toList.reverse.toArray := by
  congr 1
  have e : (List.range xs.size).filterMap (fun (k : Nat) => xs[((xs.size : Int) - 1 + (k : Int) * (-1)).toNat]?) = ((List.range xs.size).map fun k => xs.size - 1 - k).filterMap (xs[·]?) := by
    rw [List.filterMap_map]
    refine fm_congr _ fun k hk => ?_
    have := List.mem_range.mp hk
    show xs[((xs.size : Int) - 1 + (k : Int) * (-1)).toNat]? = xs[xs.size - 1 - k]?
    rw [show ((xs.size : Int) - 1 + (k : Int) * (-1)).toNat = xs.size - 1 - k by omega]
  rw [e, krv_range, List.filterMap_reverse, krv_all]
theorem getItem_tuple_back {t sl : Addr} {items : Array Value} {vs : Value} {Q : Value → Shared → Prop} (ht : IsTup s.heap t items) (hs : s.heap.IsSliceOf sl .none .none vs) (ps : IsPart vs (some (-1)))
    (h : Q (.ref s.heap.objs.size) { s with heap := s.heap.push { cls := .type "tuple", data := .seq items.toList.reverse.toArray } })
    (hsz : items.size ≤ sizeLine) : wpAny (model prog w) A (getItem (.ref t) (.ref sl)) Q E s := by
  have fit : sizeOk (.seq items.toList.reverse.toArray) := by
    show items.toList.reverse.toArray.size ≤ sizeLine
    rw [List.size_toArray, List.length_reverse, Array.length_toList]
    exact hsz
  obtain ⟨os, hos, hcs, hds⟩ := id hs
  have hTs : s.TypeIs (.ref sl) "slice" := ⟨os, hos, hcs⟩
  unfold getItem
  try with_reducible refine wpAny_holding ?_
  first | refine wpAny_bind (wpAny_pure ?_) | skip
  refine wpAny_bind (wpAny_sequenceKey ht.typeIs (by decide) ?_)
  refine wpAny_bind (wpAny_callSpecial?_slot (name := Str.ofString "__getitem__") ht.typeIs PyProof.Rows.slot_tuple_getitem
    (wpAny_call_entry PyProof.Rows.slot_tuple_getitem ht.typeIs entry_tuple_getitem ?_ (args_tuple_getitem _ _)))
  show wpAny _ _ (Builtin.Tuple.tupleItemsOf (.ref t) >>= _) _ _ s
  refine wpAny_bind (tupleItemsOf_ ht (wpAny_bind (wpAny_typeOf hTs ?_)))
  rw [if_pos (by decide)]
  have places : Builtin.Slice.slicePlaces ((items.size : Int) - 1) (-1) (-1) = items.size := by
    unfold Builtin.Slice.slicePlaces
    rw [if_neg (by decide)]
    by_cases z : items.size = 0
    · rw [z]; decide
    · rw [if_pos (by omega), show (-(-1 : Int)) = 1 by decide, Int.ediv_one]
      omega
  have app : wpAny (model prog w) A.in1 (Builtin.Slice.sliceApplied (.ref sl) (pure (items.size : Int))) (fun r s' => r = (((items.size : Int) - 1), -1, items.size) ∧ s' = s) (fun _ _ => False) s := by
    unfold Builtin.Slice.sliceApplied Builtin.Slice.sliceFields
    refine wpAny_bind (wpAny_bind (wpAny_field hos hds (x := .none) rfl (wpAny_bind (wpAny_field hos hds (x := .none) rfl (wpAny_bind (wpAny_field hos hds (x := vs) rfl (wpAny_pure ?_)))))))
    refine wpAny_bind (HT.slicePart_ ps ?_)
    show wpAny _ _ (if ((-1 : Int) == 0) = true then _ else _) _ _ s
    rw [if_neg (by decide)]
    refine wpAny_bind (slicePart_none (wpAny_bind (slicePart_none (wpAny_bind (wpAny_pure ?_)))))
    show wpAny _ _ (pure (((items.size : Int) - 1), (-1 : Int), Builtin.Slice.slicePlaces ((items.size : Int) - 1) (-1) (-1))) _ _ s
    rw [places]
    exact wpAny_pure ⟨rfl, rfl⟩
  refine wpAny_bind (wpAny_mono app (fun r s' hr => ?_) fun _ _ z => z.elim)
  obtain ⟨rfl, rfl⟩ := hr
  have no : ¬ ((((items.size : Int) - 1) == 0 && (-1 : Int) == 1 && items.size == items.size) = true) := by
    intro q
    rw [Bool.and_eq_true, Bool.and_eq_true] at q
    exact absurd q.1.2 (by decide)
  show wpAny _ _ (if (((items.size : Int) - 1) == 0 && (-1 : Int) == 1 && items.size == items.size) = true then _ else _) _ _ s'
  rw [if_neg no, back_list]
  first
    | exact wpAny_bind (m := Builtin.Tuple.tupleExact _) (wpAny_newObj_type (wpAny_pure ⟨_, rfl, wpAny_pure h⟩) fit)
    | exact wpAny_bind (m := Builtin.Tuple.tupleExact _) (wpAny_newObj_type (wpAny_bind (wpAny_pure (wpAny_pure ⟨_, rfl, wpAny_pure h⟩))) fit)
    | exact wpAny_bind (wpAny_bind (m := Builtin.Tuple.tupleExact _) (wpAny_newObj_type (wpAny_pure (wpAny_pure ⟨_, rfl, wpAny_pure h⟩)) fit))
    | exact wpAny_bind (wpAny_bind (m := Builtin.Tuple.tupleExact _) (wpAny_newObj_type (wpAny_pure ⟨_, rfl, wpAny_pure h⟩) fit))
end
section
variable {X : Cx}
def tRevZ (K : PySem.W.Frag) (te : TE) : TE := fun σ H Q => te σ H fun x H1 => ∃ a xs, x = .ref a ∧ SqT K H1 a xs ∧ NewZ H1 xs.reverse Q
theorem pe_revZ {e : Expr} {te : TE} {k : Nat} {p1 p2 p3 pos : Pos} (he : PE X e te) : PE X (.Subscript e (.Slice none none (some (.UnaryOp .USub (.Constant (.int 1) k p1) p2)) p3) pos) (tRevZ X.K te) := by
  constructor
  intro pins s σ H Q I h
  refine Subscript_ (thn (he.run pins s σ H _ I h) fun v s1 hv => ?_)
  obtain ⟨x, H1, I1, r1, a, xs, rfl, hx, q⟩ := hv
  obtain rfl : v = .ref a := r1
  have part : PO X (some (.UnaryOp .USub (.Constant (.int 1) k p1) p2)) (tPart (tUn (rU fun i => .int (-i)) (tC (.int 1)))) := po_some (pe_un un_neg pe_int)
  refine wpAny_Slice (thn (po_none.run pins s1 σ H1 (fun o H2 => o = none ∧ H2 = H1) I1 ⟨rfl, rfl⟩) fun vl s2 hl => ?_)
  obtain ⟨l, H2, I2, pl, rfl, rfl⟩ := hl
  refine thn (po_none.run pins s2 σ H2 (fun o H3 => o = none ∧ H3 = H2) I2 ⟨rfl, rfl⟩) fun vu s3 hu => ?_
  obtain ⟨u, H3, I3, pu, rfl, rfl⟩ := hu
  refine thn (part.run pins s3 σ H3 (fun o H4 => o = some (-1) ∧ H4 = H3) I3 ⟨1, rfl, -1, rfl, rfl, rfl⟩) fun vs s4 hp => ?_
  obtain ⟨o, H4, I4, ps, rfl, rfl⟩ := hp
  cases pl
  cases pu
  have I5 : Inv X pins σ H4 { s4 with heap := s4.heap.push { cls := .type "slice", data := .fields #[.none, .none, vs] } } := I4.kept (t' := s4.toks) fun b ob q => Heap.get?_push_of_some _ q
  obtain ⟨its, r, ht, hz⟩ := I5.tuple hx
  show wpAny (model X.prog X.w) X.A (subscriptTail e (.Slice none none (some (.UnaryOp .USub (.Constant (.int 1) k p1) p2)) p3) (.ref a) (.ref s4.heap.objs.size)) (EP X pins σ Q) X.xe { s4 with heap := s4.heap.push { cls := .type "slice", data := .fields #[.none, .none, vs] } }
  refine tail_any (ops := [.ref a, .ref s4.heap.objs.size]) ht.typeIs (PyProof.Rows.slot_tuple_getitem.lookup) ?_ (by with_unfolding_all rfl)
  refine getItem_tuple_back ht (Heap.IsSliceOf.new _ .none .none vs) ps ?_ (by rw [List.size_toArray, ← r.length]; exact hz)
  have e1 : its.toArray.toList.reverse.toArray = its.reverse.toArray := by simp
  rw [e1]
  exact newZ I5 r.reverse (by rw [List.length_reverse]; exact hz) q
end
/-! ### t * 0, t * 1 -/
section
theorem tuple_mul1 (l : Addr) (items : Array Value) (n : Nat) (dd : Option Addr) (sl : Array (Option Value)) (u : Tok) :
    Meets (Builtin.«tuple.__mul__» ⟨[.ref l, .int 1 u], []⟩) (fun _ R s => s.heap.get? l = some { cls := .type "tuple", dict := dd, data := .seq items n, slots := sl } ∧ R (.ok (.ret (Value.ref l))) s) :=
  .of_wp fun prog w A R s h => by
    obtain ⟨hp, g, d, tk, os⟩ := s
    obtain ⟨hl, h⟩ := h
    have f1 := AutoSeq1.idx_int
    have c1 : (items.isEmpty || (1 : Int) == 1) = true := by rw [Bool.or_eq_true]; exact Or.inr (by decide)
    wp_walk using wpAny_loadPart' hl
    repeat (first
      | (refine wpAny_ite_true (decide_eq_true c1) ?_; wp_walk using wpAny_loadPart' hl)
      | (refine wpAny_ite_false (by decide) ?_; wp_walk using wpAny_loadPart' hl))
    exact ⟨_, rfl, h⟩
theorem tuple_mul0 (l : Addr) (items : Array Value) (n : Nat) (dd : Option Addr) (sl : Array (Option Value)) (u : Tok) (ne : items.isEmpty = false) :
    Meets (Builtin.«tuple.__mul__» ⟨[.ref l, .int 0 u], []⟩) (fun _ R s => s.heap.get? l = some { cls := .type "tuple", dict := dd, data := .seq items n, slots := sl } ∧
      R (.ok (.ret (Value.ref s.heap.objs.size))) { s with heap := s.heap.push { cls := Value.type "tuple", data := Data.seq #[] }, toks := s.toks }) :=
  .of_wp fun prog w A R s h => by
    obtain ⟨hp, g, d, tk, os⟩ := s
    obtain ⟨hl, h⟩ := h
    have f1 := AutoSeq1.idx_int
    have c1 : (items.isEmpty || (0 : Int) == 1) = false := by rw [ne, Bool.false_or]; decide
    have c2 : (decide ((0 : Int) ≤ 0) || items.isEmpty) = true := by rw [Bool.or_eq_true]; exact Or.inl (by decide)
    wp_walk using wpAny_loadPart' hl
    repeat (first
      | (refine wpAny_ite_false (decide_eq_false (by rw [c1]; exact Bool.false_ne_true)) ?_; wp_walk using wpAny_loadPart' hl)
      | (refine wpAny_ite_true (decide_eq_true c2) ?_; wp_walk using wpAny_loadPart' hl)
      | (refine wpAny_ite_false (by decide) ?_; wp_walk using wpAny_loadPart' hl))
    exact ⟨_, rfl, h⟩
end
section
variable {X : Cx}
def rRep01 (K : PySem.W.Frag) : R2 := fun x y H Q => ∃ l k xs, x = .ref l ∧ y = .int k ∧ SqT K H l xs ∧ xs ≠ [] ∧ (k = 0 ∨ k = 1) ∧ (k = 0 → NewZ H [] Q) ∧ (k = 1 → Q (.ref l) H)
theorem op_rep01 : OpR X (binaryOp .Mult) (rRep01 X.K) := by
  intro pins s σ H x y v u Q I rx ry h
  obtain ⟨l, k, xs, rfl, rfl, hT, ne, hk, q0, q1⟩ := h
  obtain rfl : v = .ref l := rx
  obtain ⟨t, rfl⟩ := ry
  obtain ⟨its, r, ⟨⟨cls, dd, data, sl⟩, ho, hc, n, hd⟩, hs⟩ := I.tuple hT
  simp only at hc hd
  subst hc hd
  have em : its.toArray.isEmpty = false := by
    cases its with
    | nil => cases r; exact absurd rfl ne
    | cons a b => rfl
  refine wpAny_binaryOp_repeat_ref (T := "tuple") (U := "int") (by decide) ⟨_, ho, rfl⟩ (fun s' => typeIs_int s' k t) noFill_tuple_mul F.fills_int_mul F.slot_int_rmul repeat_tuple F.slot_int_index.lookup
    (call_meets F.slot_int_rmul (typeIs_int s k t) F.entry_int_rmul (F.args_int_rmul_2 _ _) (int_rmul_tuple k t l its.toArray n dd sl) ⟨ho, rfl, ⟨_, ho, rfl⟩, ?_⟩)
  rcases hk with rfl | rfl
  · exact call_meets F.slot_tuple_mul ⟨_, ho, rfl⟩ F.entry_tuple_mul (F.args_tuple_mul_2 _ _) (tuple_mul0 l its.toArray n dd sl t em) ⟨ho, newZ I (its := []) .nil (Nat.zero_le _) (q0 rfl)⟩
  · exact call_meets F.slot_tuple_mul ⟨_, ho, rfl⟩ F.entry_tuple_mul (F.args_tuple_mul_2 _ _) (tuple_mul1 l its.toArray n dd sl t) ⟨ho, ⟨.ref l, H, I, rfl, q1 rfl⟩⟩
end
end GL
/-! an instance that is called: own __call__, where nothing that guards itself is under way -/
namespace G3
open PySem PySem.Spec PyProof.Rows L2 GL StX PySem.W PySem.Calls
theorem callO_ofK {M : Model} {A : Around} {E : Value → Shared → Prop} {s : Shared} {a : Addr} {pos : Pos} {Q : Value → Shared → Prop} {args : List (Bool × Sem Value)} {kws : List (Option Str × Sem Value)} (hplain : (args.any (·.1) || kws.any (·.1.isNone)) = false)
    (h : wpAny M A (evalArgs (.ref a) true args kws) (fun z s₁ => (∃ C ox od, PySem.W.InstAt s₁.heap a ox C od ∧ ox.data = .plain) ∧ wpAny M A (call (.ref a) ([] ++ z.pos) z.kw) Q E s₁) E s) : wpAny M A (callWith pos (.ref a) [] args kws) Q E s := by
  unfold callWith
  refine wpAny_bind (wpAny_holding (wpAny_mono h (fun z s₁ h₁ => wpAny_bind (wpAny_standAt ?_)) fun _ _ y => y))
  obtain ⟨⟨C, ox, od, J, hd⟩, h₁⟩ := h₁
  have L := PySem.W.kco_keeper (M := M) J hd
  simp only [hplain]
  refine wpAny_bind (L.here ?_)
  have tail : ∀ {t : Sem Value}, wpAny M A t Q E s₁ → wpAny M A (t >>= fun r => holding [r] point >>= fun _ => pure r) Q E s₁ :=
    fun ht => wpAny_bind (wpAny_mono ht (fun r s₂ hr => wpAny_bind (wpAny_holding (wpAny_point (wpAny_pure hr)))) fun _ _ y => y)
  exact tail (wpAny_operateT h₁)
section
variable {X : Cx} {CX : CXT} {k n : Nat} {f C : Addr} {fd : FuncData} {ps ks : List Str} {sp : Sp} {E : XK} {e fe : Expr} {es : List Expr} {tf : TE} {t tk : TA} {p pos : Pos} {ds : List Value} {dvs : List V} {kws : List Keyword} {g : List Value → List Value → List Value} {gV : List V → List V → List V}
def tCallOG (C : Addr) (sp : Sp) (E : XK) (tf : TE) (t : TA) : TE := fun σ H Q => tf σ H fun y H1 => ∃ a, y = V.ref a ∧ t σ H1 fun vs H2 => (∃ dx fs, H2 a = some (.ins C dx fs)) ∧ sp (V.ref a :: vs) H2 Q E
/-- f(e, ..), f an expression that gives an instance -/
theorem pe_callOG (hf : PE X fe tf) (c : CallO X.K C f) (F : FnG X.prog X.w X.K X.mg X.base CX k f fd ps sp) (hb : Binds X.K fd ps []) (hr : Room k X.A) (hc : Calm X.A) (hx : Passes CX X E) (ha : PA X (e :: es) t)
    (ht : eval (.Call fe (e :: es) [] pos) X.env = (do callWith pos (← eval fe X.env) [] (backTo pos (starEach (e :: es) X.env)) (backToKw pos (keywordEach [] X.env))) := by rfl)
    (he : starEach (e :: es) X.env = (false, eval e X.env) :: starEach es X.env := by rfl) (hpl : (backTo pos (starEach es X.env)).any (·.1) = false := by rfl) : PE X (.Call fe (e :: es) [] pos) (tCallOG C sp E tf t) := by
  refine ⟨fun pins s σ H Q I h => ?_⟩
  refine Call_ (thn (hf.run pins s σ H _ I h) fun u s1 ⟨y, H1, I1, ry, a, ey, q⟩ => ?_) ht
  subst ey
  obtain rfl : u = Value.ref a := ry
  refine callO_with (thn (ha.run pos pins s1 σ H1 _ I1 q) fun us s2 ⟨vs, H2, I2, r, hi, q2⟩ => ?_) he hpl
  obtain ⟨ox, od, J, hd⟩ := insC_at I2 (.inr hi)
  refine ⟨⟨C, ox, od, J, hd⟩, ?_⟩
  have both : Vals (V.ref a :: vs) (Value.ref a :: us) := .cons rfl r
  have long : (Value.ref a :: us).length = ps.length := both.length.symm.trans (F.len _ _ _ _ q2)
  have go := F.run X.A X.stack s2 H2 ⟨Value.ref a :: us, []⟩ (Value.ref a :: us) (V.ref a :: vs) Q E hr hc I2.env0 (by simpa using hb s2 (Value.ref a :: us) I2.kIn (by simpa using long)) both q2
  refine wpAny_call (PySem.W.kco_code (a := ⟨us, []⟩) I2.kIn J hd c.at_ c.fn c.fi (codeAny_mono go fun r' s' q => ?_))
  have z := out_of hx I2 r' s' q
  match r', z with
  | .error _, z => exact z
  | .ok (.ret _), z => exact z
def tCallOKG (C : Addr) (sp : Sp) (n : Nat) (gV : List V → List V → List V) (E : XK) (tf : TE) (tk : TA) : TE := fun σ H Q => tf σ H fun y H1 => ∃ a, y = V.ref a ∧ tk σ H1 fun zs H2 => zs.length = n ∧ (∃ dx fs, H2 a = some (.ins C dx fs)) ∧ sp (gV [V.ref a] zs) H2 Q E
/-- f(k=e, ..) -/
theorem pe_callOKG (hf : PE X fe tf) (c : CallO X.K C f) (F : FnG X.prog X.w X.K X.mg X.base CX k f fd ps sp) (hb : KBn X.K fd ps 1 ks g gV) (hr : Room k X.A) (hc : Calm X.A) (hx : Passes CX X E) (hkw : PK X kws tk)
    (hall : (backToKw pos (keywordEach kws X.env)).all (·.1.isSome) = true := by rfl) (hks : (backToKw pos (keywordEach kws X.env)).filterMap (·.1) = ks := by rfl)
    (hpl : ((backTo pos (starEach [] X.env)).any (·.1) || (backToKw pos (keywordEach kws X.env)).any (·.1.isNone)) = false := by rfl)
    (ht : eval (.Call fe [] kws pos) X.env = (do callWith pos (← eval fe X.env) [] (backTo pos (starEach [] X.env)) (backToKw pos (keywordEach kws X.env))) := by rfl) : PE X (.Call fe [] kws pos) (tCallOKG C sp ks.length gV E tf tk) := by
  refine ⟨fun pins s σ H Q I h => ?_⟩
  rw [ht]
  refine wpAny_bind (thn (hf.run pins s σ H _ I h) fun u s1 ⟨y, H1, I1, ry, a, ey, q⟩ => ?_)
  subst ey
  obtain rfl : u = Value.ref a := ry
  refine callO_ofK hpl (evalArgs_kw2_nil hall (thn (hkw.run pos pins s1 σ H1 _ I1 q) fun ws s2 ⟨zs, H2, I2, rz, l2, hi, q2⟩ => ?_))
  obtain ⟨ox, od, J, hd⟩ := insC_at I2 (.inr hi)
  refine ⟨⟨C, ox, od, J, hd⟩, ?_⟩
  rw [hks]
  have go := F.run X.A X.stack s2 H2 ⟨[Value.ref a], ks.zip ws⟩ (g [Value.ref a] ws) (gV [V.ref a] zs) Q E hr hc I2.env0 (hb.to s2 [Value.ref a] ws I2.kIn rfl (rz.length.symm.trans l2)) (hb.rel (.cons rfl .nil) rz) q2
  refine wpAny_call (PySem.W.kco_code (a := ⟨[], ks.zip ws⟩) I2.kIn J hd c.at_ c.fn c.fi (codeAny_mono go fun r' s' q => ?_))
  have z := out_of hx I2 r' s' q
  match r', z with
  | .error _, z => exact z
  | .ok (.ret _), z => exact z
end
/-! ### C.m(..), m a static method of the class at C -/
structure StatM (K : PySem.W.Frag) (C : Addr) (m : Str) (f : Addr) : Prop where
  ga : PySem.W.specialIn K (.ref C) "__getattribute__" = some (some (.builtin "type.__getattribute__"))
  rd : PySem.W.readsIn K C (.type "type") = true
  fc : ∃ (p : Addr) (rest : List Value), PySem.W.findCls K (.ref C) (.type "type") m = some (.get (.builtin "staticmethod.__get__") (.ref p) .none (.ref C)) ∧ PySem.W.recIn K p "staticmethod" = some (.ref f :: rest)
  kp : PySem.W.keepIn K (.ref f) = true
theorem getstat {X : Cx} {pins : List (Addr × Obj)} {σ : L2.St} {H : Hp} {s : Shared} {A : Around} {E : Value → Shared → Prop} {C f : Addr} {m : Str} {pl : Sem Bool} {Q : Value × List Value → Shared → Prop} (I : Inv X pins σ H s) (S : StatM X.K C m f)
    (h : ∀ s', Inv X pins σ H s' → Q (.ref f, []) s') : wpAny (model X.prog X.w) A (getMethod (.ref C) m pl) Q E s := by
  obtain ⟨p, rest, e1, e2⟩ := S.fc
  refine PySem.W.method_cls I.kIn S.ga (PySem.W.cls_bind (mc := .type "type") I.kIn S.rd e1 (wpAny_call (PySem.W.sm_get (s := { s with toks := s.toks + 1 }) I.kIn e2 (PySem.W.handed_on rfl ?_))))
  exact h _ (I.tok _)
section
variable {X : Cx} {CX : CXT} {k n : Nat} {f C : Addr} {fd : FuncData} {ps ks : List Str} {sp : Sp} {x m : Str} {e : Expr} {es : List Expr} {t tk : TA} {p pos apos : Pos} {ds : List Value} {dvs : List V} {kws : List Keyword} {g : List Value → List Value → List Value} {gV : List V → List V → List V}
theorem pe_statG {pl : Sem Bool} (S : StatM X.K C m f) (F : FnG X.prog X.w X.K X.mg X.base CX0 k f fd ps sp) (hb : Binds X.K fd ps ds) (hd : Vals dvs ds) (hr : Room k X.A) (hc : Calm X.A) (hg : Gl X x) (hm : X.mg x = some (.ref C)) (ha : PA X (e :: es) t) (hdb : (x == ("__debug__" : Str)) = false := by decide)
    (hst : starEach (e :: es) X.env = (false, eval e X.env) :: starEach es X.env := by rfl) (hpl : (backTo pos (starEach es X.env)).any (·.1) = false := by rfl)
    (ht : eval (.Call (.Attribute (.Name x p) m apos) (e :: es) [] pos) X.env = (eval (.Name x p) X.env >>= fun ov => standAt apos.atName >>= fun _ => holding [ov] (getMethod ov m pl) >>= fun fx =>
      callWith pos fx.1 fx.2 (backTo pos (starEach (e :: es) X.env)) (backToKw pos (keywordEach [] X.env))) := by rfl) :
    PE X (.Call (.Attribute (.Name x p) m apos) (e :: es) [] pos) (tCall sp dvs E0 t) := by
  constructor
  intro pins s σ H Q I h
  refine PySem.W.methodCall_KW (pl := pl) (ld_glob I hg hm ?_ hdb) ht
  refine getstat I S fun s1 I1 => ?_
  refine PySem.W.callWith_K (first := []) (h₀ := X.base) I1.ok.mod.kin S.kp (thn (ha.run pos pins s1 σ H _ I1 h) ?_) hst hpl
  rintro us s2 ⟨vs, H2, I2, r, q2⟩
  exact ⟨I2.kIn, runG F hr hc hb hd pass0 I2 r q2⟩
theorem pe_statKG0 {pl : Sem Bool} (S : StatM X.K C m f) (F : FnG X.prog X.w X.K X.mg X.base CX0 k f fd ps sp) (hb : KBn X.K fd ps 0 ks g gV) (hr : Room k X.A) (hc : Calm X.A) (hg : Gl X x) (hm : X.mg x = some (.ref C)) (hkw : PK X kws tk) (hdb : (x == ("__debug__" : Str)) = false := by decide)
    (hall : (backToKw pos (keywordEach kws X.env)).all (·.1.isSome) = true := by rfl) (hks : (backToKw pos (keywordEach kws X.env)).filterMap (·.1) = ks := by rfl)
    (hpl : ((backTo pos (starEach [] X.env)).any (·.1) || (backToKw pos (keywordEach kws X.env)).any (·.1.isNone)) = false := by rfl)
    (ht : eval (.Call (.Attribute (.Name x p) m apos) [] kws pos) X.env = (eval (.Name x p) X.env >>= fun ov => standAt apos.atName >>= fun _ => holding [ov] (getMethod ov m pl) >>= fun fx =>
      callWith pos fx.1 fx.2 (backTo pos (starEach [] X.env)) (backToKw pos (keywordEach kws X.env))) := by rfl) :
    PE X (.Call (.Attribute (.Name x p) m apos) [] kws pos) (tCallKG sp 0 ks.length gV E0 tNil tk) := by
  constructor
  intro pins s σ H Q I h
  refine PySem.W.methodCall_KW (pl := pl) (ld_glob I hg hm ?_ hdb) ht
  refine getstat I S fun s1 I1 => ?_
  refine PySem.W.callWith_KW0 (first := []) (h₀ := X.base) I1.ok.mod.kin S.kp hall (thn (hkw.run pos pins s1 σ H _ I1 h) ?_) hpl
  rintro ws s2 ⟨zs, H2, I2, rz, l1, l2, q2⟩
  refine ⟨I2.kIn, ?_⟩
  rw [hks]
  exact runKG (us := []) (vs := []) F hr hc hb pass0 I2 .nil rz rfl l2 q2
theorem pe_statKG1 {pl : Sem Bool} (S : StatM X.K C m f) (F : FnG X.prog X.w X.K X.mg X.base CX0 k f fd ps sp) (hb : KBn X.K fd ps n ks g gV) (hr : Room k X.A) (hc : Calm X.A) (hg : Gl X x) (hm : X.mg x = some (.ref C)) (ha : PA X (e :: es) t) (hkw : PK X kws tk) (hdb : (x == ("__debug__" : Str)) = false := by decide)
    (hall : (backToKw pos (keywordEach kws X.env)).all (·.1.isSome) = true := by rfl) (hks : (backToKw pos (keywordEach kws X.env)).filterMap (·.1) = ks := by rfl)
    (hpl : ((backTo pos (starEach (e :: es) X.env)).any (·.1) || (backToKw pos (keywordEach kws X.env)).any (·.1.isNone)) = false := by rfl)
    (hst : starEach (e :: es) X.env = (false, eval e X.env) :: starEach es X.env := by rfl)
    (ht : eval (.Call (.Attribute (.Name x p) m apos) (e :: es) kws pos) X.env = (eval (.Name x p) X.env >>= fun ov => standAt apos.atName >>= fun _ => holding [ov] (getMethod ov m pl) >>= fun fx =>
      callWith pos fx.1 fx.2 (backTo pos (starEach (e :: es) X.env)) (backToKw pos (keywordEach kws X.env))) := by rfl) :
    PE X (.Call (.Attribute (.Name x p) m apos) (e :: es) kws pos) (tCallKG sp n ks.length gV E0 t tk) := by
  constructor
  intro pins s σ H Q I h
  refine PySem.W.methodCall_KW (pl := pl) (ld_glob I hg hm ?_ hdb) ht
  refine getstat I S fun s1 I1 => ?_
  refine PySem.W.callWith_KW (first := []) (h₀ := X.base) I1.ok.mod.kin S.kp hall (thn (ha.run pos pins s1 σ H _ I1 h) ?_) hpl hst
  rintro us s2 ⟨vs, H2, I2, r, q2⟩
  refine thn (hkw.run pos pins s2 σ H2 _ I2 q2) ?_
  rintro ws s3 ⟨zs, H3, I3, rz, l1, l2, q3⟩
  refine ⟨I3.kIn, ?_⟩
  rw [hks]
  exact runKG (us := us) (vs := vs) F hr hc hb pass0 I3 r rz l1 l2 q3
end
/-! ### rules told with the written part itself: a comprehension's element may then use them -/
section
variable {X : Cx} {K : PySem.W.Frag} {a e o : Expr} {ta : TE} {p pos : Pos} {f : Str}
theorem ix_tupK (h : X.K = K := by rfl) : IxR X (rIxT K) := h ▸ ix_tup
theorem ix_listK (h : X.K = K := by rfl) : IxR X (rIxL K) := h ▸ ix_list
theorem pe_fldK (he : PE X e ta) (hb : attributeBase e f X.env (eval e X.env) = eval e X.env) (h : X.K = K := by rfl) : PE X (.Attribute e f pos) (tFld K ta f) := h ▸ pe_fld he hb
theorem pe_tupleOfK (hg : Gl X "tuple") (hm : X.mg "tuple" = none) (ha : PE X a ta) (h : X.K = K := by rfl) (na : starEach [a] X.env = (false, eval a X.env) :: starEach [] X.env := by rfl) :
    PE X (.Call (.Name "tuple" p) [a] [] pos) (tThen ta (kTup K)) := h ▸ pe_tupleOf hg hm ha na
theorem op_catAK (h : X.K = K := by rfl) : OpR X (binaryOp .Add) (rCatA K) := h ▸ op_catA
/-- t * k, k from 1 on -/
def rRepP (K : PySem.W.Frag) : R2 := fun x y H Q => ∃ l k xs, x = .ref l ∧ y = .int k ∧ SqT K H l xs ∧ xs ≠ [] ∧ 1 ≤ k ∧ k ≤ 1000 ∧ xs.length ≤ 1000 ∧ (k = 1 → Q (.ref l) H) ∧ (2 ≤ k → ∀ p, H p = none → Q (.ref p) (upd H p (.tup (List.replicate k.toNat xs).flatten)))
theorem op_repPK (h : X.K = K := by rfl) : OpR X (binaryOp .Mult) (rRepP K) := by
  subst h
  intro pins s σ H x y v u Q I rx ry hh
  obtain ⟨l, k, xs, rfl, rfl, hT, ne, h1, h2, hl, q1, q2⟩ := hh
  by_cases e : k = 1
  · exact op_rep01 pins s σ H _ _ v u Q I rx ry ⟨l, k, xs, rfl, rfl, hT, ne, .inr e, fun z => absurd z (by omega), q1⟩
  · exact op_repT pins s σ H _ _ v u Q I rx ry ⟨l, k, xs, rfl, rfl, hT, ne, by omega, h2, hl, q2 (by omega)⟩
def rLenSeq (K : PySem.W.Frag) : List V → Hp → VK → Prop := fun xs H Q => ∃ p ys, xs = [.ref p] ∧ (SqL K H p ys ∨ SqT K H p ys) ∧ Q (.int (ys.length : Nat)) H
theorem call_len_seqK (h : X.K = K := by rfl) : CallR X (.builtin "len") (rLenSeq K) := h ▸ call_len_seq
end
end G3
/-! tables of steps, what they reach, what they read; how they lie -/
namespace MA
open PySem PySem.Spec PyProof.Rows L2 GL G3
abbrev Tab := List (List Nat)
def vI (x : Nat) : V := V.int (x : Int)
def row (S : Tab) (s : Nat) : List Nat := (S[s]?).getD []
def stp (S : Tab) (s d : Nat) : Nat := ((row S s)[d]?).getD 0
structure Wf (S : Tab) (n b : Nat) : Prop where
  len : S.length = n
  wid : ∀ r ∈ S, r.length = b
  ent : ∀ r ∈ S, ∀ x ∈ r, x < n
inductive Rch (S : Tab) : Nat → Prop
  | zero : Rch S 0
  | step {s x : Nat} : Rch S s → x ∈ row S s → Rch S x
theorem row_mem {S : Tab} {s : Nat} (h : s < S.length) : row S s ∈ S := by
  unfold row
  rw [List.getElem?_eq_getElem h]
  exact List.getElem_mem h
theorem row_at {S : Tab} {s : Nat} (h : s < S.length) : S[s]? = some (row S s) := by
  unfold row
  rw [List.getElem?_eq_getElem h]; rfl
section
variable {S : Tab} {n b : Nat}
theorem Wf.rlen (W : Wf S n b) {s : Nat} (h : s < n) : (row S s).length = b := W.wid _ (row_mem (by rw [W.len]; exact h))
theorem Wf.rlt (W : Wf S n b) {s x : Nat} (h : x ∈ row S s) : x < n := by
  by_cases hs : s < S.length
  · exact W.ent _ (row_mem hs) x h
  · unfold row at h
    rw [List.getElem?_eq_none (by omega)] at h
    cases h
theorem stp_at (W : Wf S n b) {s d : Nat} (h : s < n) (hd : d < b) : (row S s)[d]? = some (stp S s d) := by
  unfold stp
  have := W.rlen h
  rw [List.getElem?_eq_getElem (show d < (row S s).length by omega)]; rfl
theorem stp_mem (W : Wf S n b) {s d : Nat} (h : s < n) (hd : d < b) : stp S s d ∈ row S s := List.mem_of_getElem? (stp_at W h hd)
theorem stp_lt (W : Wf S n b) {s d : Nat} (h : s < n) (hd : d < b) : stp S s d < n := W.rlt (stp_mem W h hd)
theorem Rch.lt (W : Wf S n b) (h0 : 0 < n) {s : Nat} (h : Rch S s) : s < n := by
  cases h with
  | zero => exact h0
  | step _ h => exact W.rlt h
/-- the state to which the digits lead -/
def runs (S : Tab) (b s m : Nat) : Nat := if h : 2 ≤ b ∧ 0 < m then runs S b (stp S s (m % b)) (m / b) else s
termination_by m
decreasing_by exact Nat.div_lt_self h.2 h.1
theorem runs_go {s m : Nat} (hb : 2 ≤ b) (hm : 0 < m) : runs S b s m = runs S b (stp S s (m % b)) (m / b) := by rw [runs, dif_pos ⟨hb, hm⟩]
theorem runs_end {s : Nat} : runs S b s 0 = s := by rw [runs, dif_neg (fun z => absurd z.2 (by decide))]
theorem runs_lt (W : Wf S n b) (hb : 2 ≤ b) : ∀ (m s : Nat), s < n → runs S b s m < n := by
  intro m
  induction m using Nat.strongRecOn with
  | ind m ih =>
    intro s hs
    rcases Nat.eq_zero_or_pos m with rfl | hm
    · rw [runs_end]; exact hs
    · rw [runs_go hb hm]
      exact ih _ (Nat.div_lt_self hm hb) _ (stp_lt W hs (Nat.mod_lt _ (by omega)))
/-! ### rounds -/
def it (S : Tab) : Nat → Nat → Nat
  | 0, s => s
  | k + 1, s => it S k (stp S s 0)
theorem it_succ : ∀ (k s : Nat), it S (k + 1) s = stp S (it S k s) 0
  | 0, _ => rfl
  | k + 1, s => it_succ k (stp S s 0)
theorem it_add : ∀ (j k s : Nat), it S (j + k) s = it S j (it S k s)
  | j, 0, s => rfl
  | j, k + 1, s => by
    show it S (j + k) (stp S s 0) = it S j (it S k (stp S s 0))
    exact it_add j k _
theorem it_lt (W : Wf S n b) (hb : 0 < b) : ∀ (k s : Nat), s < n → it S k s < n
  | 0, _, h => h
  | k + 1, s, h => it_lt W hb k _ (stp_lt W h hb)
/-- the least one of s and of the k next ones -/
def low (S : Tab) : Nat → Nat → Nat
  | 0, s => s
  | k + 1, s => min (low S k s) (it S (k + 1) s)
theorem low_le : ∀ (k s j : Nat), j ≤ k → low S k s ≤ it S j s
  | 0, s, j, h => by rw [show j = 0 by omega]; exact Nat.le_refl _
  | k + 1, s, j, h => by
    rcases Nat.lt_or_ge j (k + 1) with l | l
    · exact Nat.le_trans (Nat.min_le_left _ _) (low_le k s j (by omega))
    · rw [show j = k + 1 by omega]; exact Nat.min_le_right _ _
theorem low_is : ∀ (k s : Nat), ∃ j, j ≤ k ∧ low S k s = it S j s
  | 0, s => ⟨0, Nat.le_refl _, rfl⟩
  | k + 1, s => by
    obtain ⟨j, hj, e⟩ := low_is k s
    rcases Nat.le_total (low S k s) (it S (k + 1) s) with l | l
    · exact ⟨j, by omega, by show min _ _ = _; rw [Nat.min_eq_left l, e]⟩
    · exact ⟨k + 1, Nat.le_refl _, Nat.min_eq_right l⟩
def rnd (S : Tab) (n s : Nat) : Nat := low S n (it S n s)
/-- two alike among more than there are -/
theorem pigeon : ∀ (n : Nat) (f : Nat → Nat), (∀ i, i ≤ n → f i < n) → ∃ i j, i < j ∧ j ≤ n ∧ f i = f j
  | 0, f, h => absurd (h 0 (Nat.le_refl _)) (Nat.not_lt_zero _)
  | n + 1, f, h => by
    by_cases e : ∃ i, i < n + 1 ∧ f i = f (n + 1)
    · obtain ⟨i, hi, e⟩ := e
      exact ⟨i, n + 1, hi, Nat.le_refl _, e⟩
    · have ne : ∀ i, i ≤ n → f i ≠ f (n + 1) := fun i hi z => e ⟨i, by omega, z⟩
      let g : Nat → Nat := fun i => if f i < f (n + 1) then f i else f i - 1
      have hg : ∀ i, i ≤ n → g i < n := by
        intro i hi
        have h1 := h i (by omega)
        have h2 := h (n + 1) (Nat.le_refl _)
        have h3 := ne i hi
        show (if f i < f (n + 1) then f i else f i - 1) < n
        split <;> omega
      obtain ⟨i, j, hij, hj, eg⟩ := pigeon n g hg
      refine ⟨i, j, hij, by omega, ?_⟩
      have h3 := ne i (by omega)
      have h4 := ne j hj
      have eg' : (if f i < f (n + 1) then f i else f i - 1) = (if f j < f (n + 1) then f j else f j - 1) := eg
      split at eg' <;> split at eg' <;> omega
theorem back (W : Wf S n b) (hb : 0 < b) {s : Nat} (h : s < n) : ∃ p, 1 ≤ p ∧ p ≤ n ∧ it S p (it S n s) = it S n s := by
  obtain ⟨i, j, hij, hj, e⟩ := pigeon n (fun k => it S k s) (fun k _ => it_lt W hb k s h)
  refine ⟨j - i, by omega, by omega, ?_⟩
  have e1 : it S n s = it S (n - i) (it S i s) := by rw [← it_add]; congr 1; omega
  have e2 : it S n s = it S (n - i) (it S i s) := e1
  rw [← it_add, show j - i + n = (n - i) + j by omega, it_add, ← e, ← it_add]
  congr 1
  omega
/-- a round is the same from the next one -/
theorem rnd_step (W : Wf S n b) (hb : 0 < b) {s : Nat} (h : s < n) : rnd S n (stp S s 0) = rnd S n s := by
  obtain ⟨p, p1, pn, ep⟩ := back W hb h
  have e0 : it S n (stp S s 0) = it S 1 (it S n s) := by rw [← it_add, Nat.add_comm]; rfl
  unfold rnd
  rw [e0]
  generalize it S n s = t at *
  refine Nat.le_antisymm ?_ ?_
  · obtain ⟨j, hj, e⟩ := low_is (S := S) n t
    rw [e]
    rcases Nat.eq_zero_or_pos j with rfl | j0
    · have := low_le (S := S) n (it S 1 t) (p - 1) (by omega)
      rw [← it_add, show p - 1 + 1 = p by omega, ep] at this
      exact this
    · have := low_le (S := S) n (it S 1 t) (j - 1) (by omega)
      rw [← it_add, show j - 1 + 1 = j by omega] at this
      exact this
  · obtain ⟨j, hj, e⟩ := low_is (S := S) n (it S 1 t)
    rw [e, ← it_add]
    rcases Nat.lt_or_ge j n with l | l
    · exact low_le n t (j + 1) (by omega)
    · have := low_le (S := S) n t (j + 1 - p) (by omega)
      have e2 : it S (j + 1) t = it S (j + 1 - p) t := by
        rw [show j + 1 = (j + 1 - p) + p by omega, it_add, ep]
        congr 1
        omega
      rw [e2]
      exact this
theorem rnd_lt (W : Wf S n b) (hb : 0 < b) {s : Nat} (h : s < n) : rnd S n s < n := by
  unfold rnd
  obtain ⟨j, _, e⟩ := low_is (S := S) n (it S n s)
  rw [e]
  exact it_lt W hb _ _ (it_lt W hb _ _ h)
end
/-! ### how tables lie -/
section
variable {K : PySem.W.Frag} {H H' : Hp} {a d g : Addr} {S : Tab} {b c : Nat} {k : Keys}
structure Grid (K : PySem.W.Frag) (H : Hp) (a : Addr) (S : Tab) : Prop where
  ex : ∃ rs : List Addr, SqT K H a (rs.map V.ref) ∧ rs.length = S.length ∧ ∀ (i : Nat) (r : Addr) (w : List Nat), rs[i]? = some r → S[i]? = some w → SqT K H r (w.map vI)
theorem Grid.to (h : Grid K H a S) (t : ∀ {p : Addr} {xs : List V}, SqT K H p xs → SqT K H' p xs) : Grid K H' a S := by
  obtain ⟨rs, h1, h2, h3⟩ := h.ex
  exact ⟨rs, t h1, h2, fun i r w e1 e2 => t (h3 i r w e1 e2)⟩
theorem Grid.same (h : Grid K H a S) (s : Same H H') : Grid K H' a S := h.to fun q => Same.tup s q
theorem SqT.mv3 {p : Addr} {xs : List V} (D : Dk k H d g b) (m : Mv d g H H') (h : SqT K H p xs) : SqT K H' p xs := by
  obtain ⟨x, y, L, h1, h2, _⟩ := D.ex
  rcases h with (h | ⟨o, h⟩) | h
  · exact .inl (.inl (m.keep _ _ h (ne_of h h1 (fun z => nomatch z)) (ne_of h h2 (fun z => nomatch z))))
  · exact .inl (.inr ⟨o, m.keep _ _ h (ne_of h h1 (fun z => nomatch z)) (ne_of h h2 (fun z => nomatch z))⟩)
  · exact .inr h
theorem Dk.tup {r : Addr} {xs : List V} (D : Dk k H d g b) (h : H r = some (.tup xs)) : r ≠ d ∧ r ≠ g := by
  obtain ⟨x, y, L, h1, h2, _⟩ := D.ex
  exact ⟨ne_of h h1 (fun z => nomatch z), ne_of h h2 (fun z => nomatch z)⟩
theorem Dk.ins {r C dx : Addr} {fs : List (Str × V)} (D : Dk k H d g b) (h : H r = some (.ins C dx fs)) : r ≠ d ∧ r ≠ g := by
  obtain ⟨x, y, L, h1, h2, _⟩ := D.ex
  exact ⟨ne_of h h1 (fun z => nomatch z), ne_of h h2 (fun z => nomatch z)⟩
theorem Grid.mv3 (h : Grid K H a S) (D : Dk k H d g b) (m : Mv d g H H') : Grid K H' a S := h.to fun q => SqT.mv3 D m q
theorem SqT.upd {p q : Addr} {xs ys : List V} (hq : H q = some (.lst ys)) {o : HO} (h : SqT K H p xs) : SqT K (upd H q o) p xs := by
  rcases h with (h | ⟨o', h⟩) | h
  · exact .inl (.inl (by rw [upd_ne (ne_of h hq (fun z => nomatch z))]; exact h))
  · exact .inl (.inr ⟨o', by rw [upd_ne (ne_of h hq (fun z => nomatch z))]; exact h⟩)
  · exact .inr h
theorem Grid.len {n w : Nat} (W : Wf S n w) (h : Grid K H a S) : ∃ xs, SqT K H a xs ∧ xs.length = n := by
  obtain ⟨rs, h1, h2, _⟩ := h.ex
  exact ⟨_, h1, by rw [List.length_map, h2, W.len]⟩
theorem Grid.row {n w : Nat} (W : Wf S n w) (h : Grid K H a S) {s : Nat} (hs : s < n) : ∃ (xs : List V) (r : Addr), SqT K H a xs ∧ atI xs (s : Int) = some (.ref r) ∧ SqT K H r ((MA.row S s).map vI) := by
  obtain ⟨rs, h1, h2, h3⟩ := h.ex
  have l : s < rs.length := by rw [h2, W.len]; exact hs
  refine ⟨_, rs[s], h1, atI_nat (by rw [List.getElem?_map, List.getElem?_eq_getElem l]; rfl), h3 s _ _ (List.getElem?_eq_getElem l) (row_at (by rw [W.len]; exact hs))⟩
theorem at_vI {L : List Nat} {i x : Nat} (h : L[i]? = some x) : atI (L.map vI) (i : Int) = some (vI x) := atI_nat (by rw [List.getElem?_map, h]; rfl)
end
/-! ### what is reached -/
def kvT (L : List Nat) : List (Key × V) := L.map fun (x : Nat) => ((Sum.inl (x : Int) : Key), V.bl true)
theorem kvT_has (L : List Nat) (x : Nat) : (valV (kvT L) (Sum.inl (x : Int) : Key)).isSome = decide (x ∈ L) := by
  induction L with
  | nil => simp [kvT, valV]
  | cons y r ih =>
    by_cases e : y = x
    · subst e
      rw [show valV (kvT (y :: r)) (Sum.inl (y : Int) : Key) = some (.bl true) from valV_pos rfl, decide_eq_true (List.mem_cons_self)]; rfl
    · have ne : ¬ ((Sum.inl (y : Int) : Key) = Sum.inl (x : Int)) := fun z => e (by injection z with z; omega)
      rw [show valV (kvT (y :: r)) (Sum.inl (x : Int) : Key) = valV (kvT r) (Sum.inl (x : Int) : Key) from valV_neg ne, ih]
      refine decide_eq_decide.mpr ?_
      rw [List.mem_cons]
      exact ⟨fun h => .inr h, fun h => h.resolve_left fun z => e z.symm⟩
theorem kvT_put {L : List Nat} {x : Nat} (h : x ∉ L) : putK (kvT L) (Sum.inl (x : Int) : Key) (.bl true) = kvT (L ++ [x]) := by
  unfold putK
  have : ((kvT L).any fun kv => decide (kv.1 = (Sum.inl (x : Int) : Key))) = false := by
    rw [List.any_eq_false]
    intro p hp
    obtain ⟨y, hy, rfl⟩ := List.mem_map.mp hp
    refine fun z => h ?_
    have z' := of_decide_eq_true z
    injection z' with z'
    rw [show x = y by omega]; exact hy
  rw [this, if_neg (by decide)]
  unfold kvT
  rw [List.map_append]; rfl
theorem nodup_len : ∀ (n : Nat) (L : List Nat), L.Nodup → (∀ x ∈ L, x < n) → L.length ≤ n
  | 0, [], _, _ => Nat.le_refl _
  | 0, x :: r, _, h => absurd (h x List.mem_cons_self) (Nat.not_lt_zero _)
  | n + 1, L, hn, h => by
    have h1 : (L.filter fun x => x != n).length ≤ n := nodup_len n _ (hn.filter _) fun x hx => by
      obtain ⟨a, b⟩ := List.mem_filter.mp hx
      have := h x a
      have : x ≠ n := by simpa using b
      omega
    have h2 : L.length ≤ (L.filter fun x => x != n).length + 1 := by
      clear h1 h
      induction L with
      | nil => exact Nat.zero_le _
      | cons y r ih =>
        obtain ⟨n1, n2⟩ := List.nodup_cons.mp hn
        by_cases e : y = n
        · subst e
          rw [List.filter_cons_of_neg (by simp)]
          have : r.filter (fun x => x != y) = r := List.filter_eq_self.mpr fun x hx => by
            have : x ≠ y := fun z => n1 (z ▸ hx)
            simpa using this
          rw [this]; exact Nat.le_refl _
        · rw [List.filter_cons_of_pos (by simpa using e)]
          have := ih n2
          rw [List.length_cons, List.length_cons]; omega
    omega
/-- states found so far, each of them reached -/
structure Fnd (S : Tab) (L : List Nat) : Prop where
  nd : L.Nodup
  zr : 0 ∈ L
  rc : ∀ x ∈ L, Rch S x
theorem Fnd.add {S : Tab} {L : List Nat} {s x : Nat} (f : Fnd S L) (hs : s ∈ L) (hx : x ∈ row S s) (h : x ∉ L) : Fnd S (L ++ [x]) where
  nd := List.nodup_append.mpr ⟨f.nd, List.pairwise_singleton _ _, fun a ha b hb z => by
    rw [List.mem_singleton.mp hb] at z
    exact h (z ▸ ha)⟩
  zr := List.mem_append_left _ f.zr
  rc := fun y hy => by
    rcases List.mem_append.mp hy with hy | hy
    · exact f.rc y hy
    · rw [List.mem_singleton.mp hy]; exact .step (f.rc s hs) hx
theorem Fnd.all {S : Tab} {L : List Nat} (f : Fnd S L) (h : ∀ s ∈ L, ∀ x ∈ row S s, x ∈ L) (s : Nat) : s ∈ L ↔ Rch S s := by
  refine ⟨f.rc s, fun r => ?_⟩
  induction r with
  | zero => exact f.zr
  | step _ hx ih => exact h _ ih _ hx
theorem Fnd.len {S : Tab} {L : List Nat} {n b : Nat} (f : Fnd S L) (W : Wf S n b) (h0 : 0 < n) : L.length ≤ n := nodup_len n L f.nd fun x hx => (f.rc x hx).lt W h0
theorem perm_nat {ms : List Int} {L : List Nat} (h : ms.Perm (L.map fun x : Nat => (x : Int))) : ∃ M : List Nat, ms = M.map (fun x : Nat => (x : Int)) ∧ M.Perm L := by
  refine ⟨ms.map Int.toNat, ?_, ?_⟩
  · rw [List.map_map]
    have : ∀ x ∈ ms, ((fun x : Nat => (x : Int)) ∘ Int.toNat) x = x := fun x hx => by
      obtain ⟨y, _, rfl⟩ := List.mem_map.mp (h.mem_iff.mp hx)
      rfl
    rw [List.map_congr_left this, List.map_id']
  · have := h.map Int.toNat
    rw [List.map_map] at this
    have e : L.map (Int.toNat ∘ fun x : Nat => (x : Int)) = L := by
      have : ∀ x ∈ L, (Int.toNat ∘ fun x : Nat => (x : Int)) x = x := fun x _ => rfl
      rw [List.map_congr_left this, List.map_id']
    rw [e] at this
    exact this
theorem map_vI (L : List Nat) : (L.map fun x : Nat => (x : Int)).map V.int = L.map vI := by rw [List.map_map]; rfl
theorem dpa_nats {K : PySem.W.Frag} {H : Hp} : ∀ L : List Nat, DpAll K H (L.map vI) (L.map fun x : Nat => PyData.int (x : Int))
  | [] => .nil
  | x :: r => .cons (.int _) (dpa_nats r)
theorem map_dI (L : List Nat) : (L.map fun x : Nat => PyData.int (x : Int)) = (L.map fun x : Nat => (x : Int)).map PyData.int := by rw [List.map_map]; rfl
theorem shaped_nats (L : List Nat) : SeqAt.shaped (.list (L.map fun x : Nat => PyData.int (x : Int))) = true := by rw [map_dI]; exact shaped_ints _
theorem eqv_nats_nil (L : List Nat) : PyData.eqv (.list (L.map fun x : Nat => PyData.int (x : Int))) (.list []) = decide (L = []) := by
  rw [map_dI, eqv_ints_nil]
  exact decide_eq_decide.mpr List.map_eq_nil_iff
theorem pop_nat (L : List Nat) (c : Nat) : ((L ++ [c]).map vI)[((L ++ [c]).map vI).length - 1]? = some (vI c) := by
  rw [List.map_append, List.map_singleton, List.length_append, List.length_singleton, Nat.add_sub_cancel, List.getElem?_append_right (Nat.le_refl _), Nat.sub_self]
  rfl
theorem pop_natL (L : List Nat) (c : Nat) : ((L ++ [c]).map vI).dropLast = L.map vI := by
  rw [List.map_append, List.map_singleton, List.dropLast_concat]
theorem snoc_at {α : Type} {xs : List α} {x y : α} {i : Nat} (h : (xs ++ [x])[i]? = some y) : (i < xs.length ∧ xs[i]? = some y) ∨ (i = xs.length ∧ y = x) := by
  rcases Nat.lt_or_ge i xs.length with l | l
  · rw [List.getElem?_append_left l] at h
    exact .inl ⟨l, h⟩
  · rw [List.getElem?_append_right l] at h
    rcases Nat.eq_zero_or_pos (i - xs.length) with z | z
    · rw [z] at h
      exact .inr ⟨by omega, (Option.some.inj h).symm⟩
    · rw [List.getElem?_eq_none (by show 1 ≤ _; omega)] at h
      cases h
def rowD (r : List Nat) : PyData := .tuple (r.map fun x : Nat => PyData.int (x : Int))
theorem dpa_grid {K : PySem.W.Frag} {H : Hp} : ∀ (rs : List Addr) (S : Tab), rs.length = S.length → (∀ (i : Nat) (r : Addr) (w : List Nat), rs[i]? = some r → S[i]? = some w → SqT K H r (w.map vI)) → DpAll K H (rs.map V.ref) (S.map rowD)
  | [], [], _, _ => .nil
  | r :: rs, w :: S, l, h => .cons (.tup (h 0 r w rfl rfl) (dpa_nats w)) (dpa_grid rs S (by simpa using l) fun i r w e1 e2 => h (i + 1) r w e1 e2)
theorem Grid.dp {K : PySem.W.Frag} {H : Hp} {a : Addr} {S : Tab} (h : Grid K H a S) : Dp K H (.ref a) (.tuple (S.map rowD)) := by
  obtain ⟨rs, h1, h2, h3⟩ := h.ex
  exact .tup h1 (dpa_grid rs S h2 h3)
theorem nice_row {r : List Nat} {n w : Nat} (hl : r.length = w) (hw : w ≤ 10) (h : ∀ x ∈ r, x < n) (hn : n ≤ 200) : Nice 73 1 (rowD r) := by
  have h1 : ∀ d ∈ r.map (fun x : Nat => PyData.int (x : Int)), Nice 5 0 d := fun d hd => by
    obtain ⟨x, hx, rfl⟩ := List.mem_map.mp hd
    have := h x hx
    exact Nice.int (by omega) (by omega)
  exact (Nice.tup (n := 10) h1 (by rw [List.length_map]; omega)).mono (by decide) (by decide)
theorem nice_grid {S : Tab} {n w : Nat} (W : Wf S n w) (hw : w ≤ 10) (hn : n ≤ 100) : Nice 8000 2 (.tuple (S.map rowD)) := by
  have h1 : ∀ d ∈ S.map rowD, Nice 73 1 d := fun d hd => by
    obtain ⟨r, hr, rfl⟩ := List.mem_map.mp hd
    exact nice_row (W.wid r hr) hw (W.ent r hr) (by omega)
  exact (Nice.tup (n := 100) h1 (by rw [List.length_map, W.len]; exact hn)).mono (by decide) (by decide)
theorem nice_nats {B : List Nat} {n : Nat} (hl : B.length = n) (hn : n ≤ 100) (h : ∀ x ∈ B, x ≤ 200) : Nice 800 1 (.tuple (B.map fun x : Nat => PyData.int (x : Int))) := by
  have h1 : ∀ d ∈ B.map (fun x : Nat => PyData.int (x : Int)), Nice 5 0 d := fun d hd => by
    obtain ⟨x, hx, rfl⟩ := List.mem_map.mp hd
    have := h x hx
    exact Nice.int (by omega) (by omega)
  exact (Nice.tup (n := 100) h1 (by rw [List.length_map]; omega)).mono (by decide) (by decide)
end MA
namespace GL
open PySem PySem.Spec PyProof.Rows L2
section
variable {P : Program} {w : World} {K : PySem.W.Frag} {mg : Str → Option Value} {base : Heap}
/-- a def that may raise keeps its promise wherever no guard is under way -/
theorem okGX {x qual : Str} {st : Stmt} {f : Addr} {fd : FuncData} {N ps : List Str} {k : Nat} {sp : Sp} (F : Fun K x qual st f fd) (S : FnScope N ps (defScope st)) (len : ∀ vs H Q E, sp vs H Q E → vs.length = ps.length)
    (walk : ∀ (cdv : Value) (A : Around) (outer : List Env) (s : Shared) (H : Hp) (vs : List V) (Q : VK) (E : XK), Room k (A.deeper (envOfC qual (defScope st) s.heap.objs.size f cdv)) → Calm (A.deeper (envOfC qual (defScope st) s.heap.objs.size f cdv)) → sp vs H Q E →
      ∃ t, PSs (cxOf (L2.CX P w) P w K mg base N qual (defScope st) f cdv A outer s H E) (defBody st) t ∧ t { nx := fun _ H' => Q .non H', rt := Q } (start N vs) H) : FnG P w K mg base (L2.CX P w) (k + 1) f fd ps sp := by
  obtain ⟨oc, od, kV, doc, pm, an, cdv, ct, osl, rfl, lk, code⟩ := F.ex
  refine ⟨len, ?_⟩
  intro A outer s H args us vs Q E room calm e0 bnd rel want
  have long := len _ _ _ _ want
  have up : ∀ b o, base.get? b = some o → s.heap.get? b = some o := fun b o e => (e0.bs b o e).1
  have kin : K.In s.heap := e0.mod.kin.keeps up
  have lim : s.heap.NoLimit := e0.mod.nolimit.keeps up
  have kinds : ∀ y ∈ ps.zip us, (defScope st).names.lookup y.1 = some .local ∨ ((defScope st).names.lookup y.1 = some .cell ∧ ((cellsFrom (s.heap.objs.size + 1) (defScope st).names []).lookup y.1).isSome = true) := by
    rintro ⟨n, v⟩ hy
    exact (S.par n (List.of_mem_zip hy).1).imp id fun q => ⟨q, PySem.W.cellsFrom_some _ _ _ (.inl q)⟩
  refine codeAny_call_function room.depth (kin _ _ lk) rfl S.co S.gen rfl (PySem.W.codeRec_of kin code) (bnd _ _ _ _ (wpAny_newFunctionEnv_cells S.kind kinds ?_))
  rintro env rfl s1 x
  obtain ⟨t, deriv, reads⟩ := walk cdv A outer s H vs Q E (room.deeper _) (calm.deeper _) want
  have I : Inv (cxOf (L2.CX P w) P w K mg base N qual (defScope st) f cdv A outer s H E) [] (start N vs) H s1 := inv_start S room.hd e0 long rel x
  refine ⟨lim.keeps x.toInCall.keep, codeAny_func (wpAny_mono (deriv.run [] s1 (start N vs) H _ I reads) ?_ fun _ _ z => z)⟩
  intro fl s' hs
  match fl, hs with
  | .ret u, ⟨v, _, H', J, rv, q⟩ => exact ⟨v, H', J.os, J.bare, J.base, J.hok, rv, q⟩
  | .next, ⟨_, H', J, q⟩ => exact ⟨V.non, H', J.os, J.bare, J.base, J.hok, rfl, q⟩
  | .brk, ⟨_, _, _, q⟩ => exact q.elim
  | .cont, ⟨_, _, _, q⟩ => exact q.elim
end
section
variable {X : Cx} {CX : CXT} {k : Nat} {f C : Addr} {fd : FuncData} {ps : List Str} {sp : Sp} {ds : List Value} {dvs : List V} {E : L2.St → XK} {x : Str} {p pos : Pos} {e : Expr} {es : List Expr} {t : TA}
/-- a new instance whose __init__ may raise -/
def tMakeS (C : Addr) (sp : Sp) (E : L2.St → XK) (t : TA) : TE := fun σ H Q => t σ H fun vs H1 => ∀ x dx, H1 x = none → H1 dx = none → dx ≠ x →
  sp (.ref x :: vs) (upd (upd H1 dx (.own x)) x (.ins C dx [])) (fun v H2 => v = .non ∧ Q (.ref x) H2) (E σ)
theorem pe_makeS (M : Mk X.K C f) (F : FnG X.prog X.w X.K X.mg X.base CX k f fd ps sp) (hr : Room (k + 1) X.A) (hc : Calm X.A) (hg : Gl X x) (hm : X.mg x = some (.ref C)) (hb : Binds X.K fd ps []) (hx : ∀ σ, PassesAt CX X σ (E σ))
    (ha : PA X (e :: es) t) (hdb : (x == ("__debug__" : Str)) = false := by decide) (he : starEach (e :: es) X.env = (false, eval e X.env) :: starEach es X.env := by rfl) (hpl : (backTo pos (starEach es X.env)).any (·.1) = false := by rfl) :
    PE X (.Call (.Name x p) (e :: es) [] pos) (tMakeS C sp E t) := by
  constructor
  intro pins s σ H Q I h
  refine wpAny_Call_Name_kw (ld_glob I hg hm (PySem.W.callWith_K (h₀ := X.base) I.ok.mod.kin M.kp (thn (ha.run pos pins s σ H _ I h) ?_) he hpl) hdb)
  rintro us s1 ⟨vs, H1, I1, r, q⟩
  have r2 : Vals (V.ref (s1.heap.objs.size + 1) :: vs) (Value.ref (s1.heap.objs.size + 1) :: us) := .cons rfl r
  have q0 := q (s1.heap.objs.size + 1) s1.heap.objs.size (I1.hok.fresh (Nat.le_succ _)) (I1.hok.fresh (Nat.le_refl _)) (Nat.ne_of_lt (Nat.lt_succ_self _))
  have J := Inv.made (C := C) I1
  have bnd := fun s' X' => hb s' (Value.ref (s1.heap.objs.size + 1) :: us) X' (by rw [List.append_nil]; exact r2.length.symm.trans (F.len _ _ _ _ q0))
  have go := F.run _ X.stack _ _ ⟨Value.ref (s1.heap.objs.size + 1) :: us, []⟩ _ _ _ _ (hr.make C us []) (hc.make C us []) (J.env0.make C us []) (by have := bnd _ J.kIn; rw [List.append_nil] at this; exact this) r2 q0
  refine ⟨I1.kIn, wpAny_call (make_map (f := f) I1.kIn M.makes M.init (beq_iff_eq.mp M.fn) (codeAny_mono go fun r' s' q => ?_))⟩
  match r', q with
  | .error e, q => exact hx σ pins _ _ e s' J q
  | .ok (.ret u), q =>
    obtain ⟨v, H', I3, rv, ev, q3⟩ := J.after q
    cases ev
    exact ⟨rv, ⟨V.ref (s1.heap.objs.size + 1), H', I3, rfl, q3⟩⟩
end
end GL
namespace GX
open PySem PySem.Spec PyProof.Rows L2 PySem.W PySem.Calls PySem.HandSPX PySem.ESX Builtin Builtin.ObjectAttr
/-- the line of an own class that stands on one other own class, and that on Exception -/
abbrev two (B : Addr) : List Value := .ref B :: exTail
theorem two_has (B : Addr) (X : String) : (two B).contains (.type X) = exTail.contains (.type X) := by
  rw [List.contains_cons]
  rfl
section
variable {prog : Program} {w : World} {A : Around} {R : Result → Shared → Prop} {hp : Heap} {g : Array GenState} {d : Drawn} {t : Nat} {os : OsState}
theorem osa2 {K : W.Frag} {name : Str} {tk : Tok} {v : Value} {x C B : Addr} {fv : Array Value} {cd : ClassData}
    (kin : K.In hp) (at_ : hp.get? x = some { cls := .ref C, data := .fields fv })
    (known : W.clsIn K C = some cd) (line : cd.mro = .ref C :: two B) (own : cd.hasDict = true)
    (none_ : W.findIn K (.ref C) name = some none)
    (then_ : ∀ h' tk' dx, (∀ b o, b ≠ x → hp.get? b = some o → h'.get? b = some o) → hp.objs.size ≤ dx → dx ≠ x →
      h'.get? x = some { cls := .ref C, dict := some dx, data := .fields fv } →
      h'.Ns1 dx (fun y => if y = name then some v else none) → R (.ok (.ret .none)) ⟨h', g, d, tk', os⟩) :
    codeAny (model prog w) A (.call (.builtin "object.__setattr__") ⟨[.ref x, .str name tk, v], []⟩) R ⟨hp, g, d, t, os⟩ := by
  have inst : W.InstAt hp x { cls := .ref C, data := .fields fv } C none := ⟨at_, rfl, rfl, trivial⟩
  have apart : x ≠ hp.objs.size := Nat.ne_of_lt (Heap.lt_size at_)
  have facts := F.store_object
  have obj : W.mroIn K C (.type "object") = some true := by
    unfold W.mroIn
    rw [known, Option.bind_some, line]
    rfl
  have is_ : W.Looks (model prog w) hp (isInstance (.ref x) (.type "object")) true :=
    inst.type.andThen (W.looks_mroIn kin obj)
  refine codeAny_call_builtin facts.slot.plain facts.entry
    (@W.check_slot (model prog w) _ _ ⟨hp, g, d, t, os⟩ "object.__setattr__" "object" "__setattr__" (.ref x)
      [.str name tk, v] [] _ facts.kind facts.split is_ (facts.args (.ref x) (.str name tk) v) ?_)
  have up : W.Looks (model prog w) hp (mroOf (.ref C)) cd.mro := (W.looks_clsIn kin known).andThen .now
  have taker : W.Looks (model prog w) hp (storeTaker? none) none := .now
  have quiet : refuseLoop (.ref x) "__setattr__" cd.mro = pure () := by
    rw [line, refuseLoop_ref, refuseLoop_ref]
    exact F.store_Exception.passes _
  rw [W.osa_eq, refuse_eq]
  refine wpAny_bind (wpAny_bind (inst.type.at (wpAny_bind (up.at ?_))))
  rw [quiet]
  refine wpAny_pure (wpAny_bind (inst.type.at
    (wpAny_bind ((W.looks_findIn kin none_).at (wpAny_bind (taker.at ?_))))))
  show wpAny _ _ (storeInOwnDict (.ref x) (.ref C) (.str name tk) name v false) _ _ _
  have cls_ : W.Looks (model prog w) hp (classData C) cd := W.looks_clsIn kin known
  rcases cd with ⟨c1, c2, c3, c4, c5, c6, c7, c8, c9, c10, c11⟩
  replace own : c6 = true := own
  cases own
  unfold storeInOwnDict ownDictForStores
  repeat (first
    | with_reducible refine HandSPX.store_in_new ?_ ?_
    | with_reducible refine wpAny_loadPart_at at_ ?_
    | with_reducible refine cls_.at ?_
    | wp_step)
  · exact ⟨_, #[], _, (Heap.get?_update_ne _ _ _ _ apart.symm).trans
      (Heap.get?_push_at rfl rfl), rfl, fun e he => absurd he (by simp), fun _ => rfl⟩
  · intro h' tk' named same
    have still : (hp.push { cls := .type "dict", data := .dict #[] }).get? x =
      some { cls := .ref C, data := .fields fv } := Heap.get?_push_of_some _ at_
    refine then_ h' tk' hp.objs.size (fun b o hb ho => ?_) (Nat.le_refl _) apart.symm ?_ named
    · exact (same.2 b (Nat.ne_of_lt (Heap.lt_size ho))).trans
        ((Heap.get?_update_ne _ _ _ _ hb).trans (Heap.get?_push_of_some _ ho))
    · exact (same.2 x apart).trans (Heap.get?_update_self _ still rfl)
end
end GX
namespace GX
open PySem PySem.Spec PyProof.Rows L2 GL
/-- what the written part says of an own error at C, over the own one at B -/
structure OexE (K : PySem.W.Frag) (C B : Addr) : Prop where
  cls : ∃ nm q N bs sn sub ab col dd k0 k1 k2 k3 k5,
    K.lookup C = some (excClassObj nm q C N bs (two B) true sn sub ab col dd k0 k1 k2 k3 k5 "Exception.__new__")
  sa : PySem.W.findIn K (.ref C) "__setattr__" = some (some (.builtin "object.__setattr__"))
  base : PySem.W.subIn K (.ref C) (.type "BaseException") = some true
  type : PySem.W.typeIn K (.ref C) = some (.type "type")
  kept : PySem.W.keepIn K (.ref C) = true
theorem known {K : PySem.W.Frag} {C B : Addr} (T : OexE K C B) : ∃ cd : ClassData, PySem.W.clsIn K C = some cd ∧ cd.mro = .ref C :: two B ∧ cd.hasDict = true := by
  obtain ⟨nm, q, N, bs, sn, sub, ab, col, dd, k0, k1, k2, k3, k5, at_⟩ := T.cls
  refine ⟨{ name := nm, bases := bs, mro := .ref C :: two B, ns := N, qualname := q, hasDict := true, slotNames := sn, subclasses := sub, «abstract» := ab, collection := col, hasDel := false }, ?_, rfl, rfl⟩
  unfold PySem.W.clsIn
  rw [at_]
section
variable {X : Cx} {pins : List (Addr × Obj)} {σ : L2.St} {H : Hp} {s : Shared} {a C B dx : Addr} {f : Str} {y : V} {u : Value} {fs : List (Str × V)} {E : Value → Shared → Prop} {A : Around}
theorem put_first {Q : Unit → Shared → Prop} (T : OexE X.K C B) (I : Inv X pins σ H s) (e : H a = some (exo a C none))
    (hno : PySem.W.findIn X.K (.ref C) f = some none) (ry : RelV y u)
    (h : ∀ dx s', H dx = none → dx ≠ a → Inv X pins σ (upd (upd H dx (exd dx [(f, y)])) a (exo a C (some dx))) s' → Q () s') :
    wpAny (model X.prog X.w) A (setAttr (.ref a) f u) Q E s := by
  obtain ⟨cd, c1, c2, c3⟩ := known T
  obtain ⟨t1, old⟩ := exo_at I.hok e
  obtain ⟨hp, g, d, t, os⟩ := s
  refine PySem.W.set_plain I.kIn (od := none)
    (ox := { cls := .ref C, dict := none, data := .fields #[.ref t1, .none, .none, .none, .bool false, .none] })
    ⟨old, rfl, rfl, trivial⟩ T.sa ?_
  refine osa2 I.kIn old c1 c2 c3 hno (fun h' tk' dx keep new apart now named => ?_)
  have free : H dx = none := I.hok.fresh new
  have early : ∀ {b : Addr} {o : Obj}, hp.get? b = some o → b ≠ dx :=
    fun {b o} q => Nat.ne_of_lt (Nat.lt_of_lt_of_le (Heap.lt_size q) new)
  have off : ∀ {b : Addr}, H b = none → b ≠ a := fun {b} n z => by
    rw [z] at n
    exact nomatch e.symm.trans n
  refine h dx _ free apart (I.un (t' := tk') ?_ ?_)
  · constructor
    · exact fun b o q n _ _ => keep b o (off n) q
    · exact fun b o q n _ _ => ⟨o.slots, keep b o (off n) q⟩
    · intro b o q n _
      rw [upd_ne (off n), upd_ne (early q)]
      exact n
    · intro b o q _
      by_cases same : b = a
      · rw [same]
        exact ⟨_, now⟩
      · exact ⟨o, keep b o same q⟩
    · intro b xs q
      rw [upd_ne (at_ne e q exo_tup), upd_ne (ne_of_none q free)]
      exact q
    · intro b o v q
      rw [upd_ne (at_ne e q exo_frz), upd_ne (ne_of_none q free)]
      exact q
    · intro b ps q
      refine ⟨#[], ?_⟩
      rw [upd_ne (at_ne e q exo_tbl), upd_ne (ne_of_none q free), q]
      simp
  · intro b o q
    by_cases isA : b = a
    · subst isA
      rw [upd_same] at q
      cases q
      exact exo_ok now
    rw [upd_ne isA] at q
    by_cases isD : b = dx
    · subst isD
      rw [upd_same] at q
      cases q
      exact exd_ok named (relO_put (fs := []) ry fun g => True.intro)
    rw [upd_ne isD] at q
    refine (I.hok b o q).stay (fun c v hc z => keep c v ?_ z) (fun c hc => ?_) (fun c xs hc => ?_)
    · rcases hc with hc | hc
      · rw [hc]
        exact isA
      · exact at_ne e hc exo_own
    · rw [upd_ne (at_ne e hc exo_own), upd_ne (ne_of_none hc free)]
      exact hc
    · rw [upd_ne (at_ne e hc exo_tup), upd_ne (ne_of_none hc free)]
      exact hc
/-- Exception.__init__(self, ..): nothing of it is told -/
theorem base_init {us : List Value} {Q : Value → Shared → Prop} (T : OexE X.K C B) (I : Inv X pins σ H s) (e : H a = some (exo a C none))
    (hl : us.length ≤ sizeLine) (h : ∀ s', Inv X pins σ H s' → Q .none s') :
    wpAny (model X.prog X.w) A (call (.builtin "Exception.__init__") (.ref a :: us)) Q E s := by
  obtain ⟨nm, q, N, bs, sn, sub, ab, col, dd, k0, k1, k2, k3, k5, at_⟩ := T.cls
  obtain ⟨t1, old⟩ := exo_at I.hok e
  obtain ⟨hp, g, d, t, os⟩ := s
  refine wpAny_call (PySem.HandSPX.init_base F.excBase_Exception (two_has B) (I.kIn _ _ at_) old hl fun h' t2 keep now => ?_)
  have next := I.write (t' := t) (x := a) (e := a) (o := exo a C none) (by rw [e]; exact True.intro) (.inl rfl) keep ⟨_, now⟩ (exo_ok now)
  have as_is : upd H a (exo a C none) = H := funext fun b => by
    by_cases same : b = a
    · rw [same, upd_same, e]
    · rw [upd_ne same]
  rw [as_is] at next
  exact h _ next
end
/-- Base.__init__(self, ..), Base an own class that has no __init__ of its own -/
def tBase (K : PySem.W.Frag) (ta : TA) : TE := fun σ H Q => ta σ H fun vs H1 => ∃ (a C B : Addr) (ws : List V), vs = .ref a :: ws ∧ ws.length ≤ 1000 ∧ OexE K C B ∧ H1 a = some (exo a C none) ∧ Q .non H1
/-- self.f = e, the first one -/
def tPut (K : PySem.W.Frag) (f : Str) (to te : TE) : TS := fun D σ H => te σ H fun y H1 => to σ H1 fun x H2 => ∃ a C B : Addr, x = .ref a ∧ OexE K C B ∧ PySem.W.findIn K (.ref C) f = some none ∧
  H2 a = some (exo a C none) ∧ ∀ dx, H2 dx = none → dx ≠ a → D.nx σ (upd (upd H2 dx (exd dx [(f, y)])) a (exo a C (some dx)))
section
variable {X : Cx} {o e : Expr} {es : List Expr} {to te : TE} {ta : TA} {f : Str} {p p' p1 p2 pos : Pos} {B : Addr} {x : Str}
theorem pe_base {pl : Sem Bool} (hg : Gl X x) (hm : X.mg x = some (.ref B))
    (ga : PySem.W.specialIn X.K (.ref B) "__getattribute__" = some (some (.builtin "type.__getattribute__"))) (rd : PySem.W.readsIn X.K B (.type "type") = true)
    (fi : PySem.W.findCls X.K (.ref B) (.type "type") "__init__" = some (.val (.builtin "Exception.__init__"))) (ha : PA X (e :: es) ta)
    (hd : (x == ("__debug__" : Str)) = false := by decide)
    (hc : eval (.Call (.Attribute (.Name x p1) "__init__" p2) (e :: es) [] pos) X.env = (eval (.Name x p1) X.env >>= fun ov => standAt p2.atName >>= fun _ =>
      holding [ov] (getMethod ov "__init__" pl) >>= fun fx => callWith pos fx.1 fx.2 (backTo pos (starEach (e :: es) X.env)) (backToKw pos (keywordEach [] X.env))) := by rfl)
    (he : starEach (e :: es) X.env = (false, eval e X.env) :: starEach es X.env := by rfl) (hpl : (backTo pos (starEach es X.env)).any (·.1) = false := by rfl) :
    PE X (.Call (.Attribute (.Name x p1) "__init__" p2) (e :: es) [] pos) (tBase X.K ta) := by
  constructor
  intro pins s σ H Q I h
  refine PySem.W.methodCall_KW (pl := pl) (ld_glob I hg hm ?_ hd) hc
  refine PySem.W.method_cls I.kIn ga (PySem.W.cls_value I.kIn rd fi (by decide +kernel) ?_)
  show wpAny _ _ (callWith pos (Value.builtin "Exception.__init__") [] (backTo pos (starEach (e :: es) X.env)) []) _ _ _
  refine PyProof.Rows.callWith_method1 (thn (ha.run pos pins _ σ H _ (I.tok _) h) ?_) he hpl
  rintro us s1 ⟨vs, H1, I1, r1, a, C, B', ws, rfl, hl, T, ea, q⟩
  cases r1 with
  | @cons _ u0 _ ur ra rest =>
    obtain rfl : u0 = Value.ref a := ra
    refine base_init T I1 ea ?_ fun s' J => ⟨.non, H1, J, rfl, q⟩
    rw [← rest.length]
    exact Nat.le_trans hl (small (by decide))
theorem ps_put (ho : PE X o to) (he : PE X e te) (hs : swapsWith e (some (.Attribute o f p')) pos.line X.env = pure false := by rfl) : PS X (.Assign [.Attribute o f p'] e pos) (tPut X.K f to te) := by
  constructor
  intro pins s σ H D I h
  refine plainObj_wpAny_Assign_Attribute (thn (he.run pins s σ H _ I h) ?_) hs
  rintro v s1 ⟨y, H1, I1, r1, q1⟩
  refine thn (ho.run pins s1 σ H1 _ I1 q1) ?_
  rintro u s2 ⟨x, H2, I2, r2, a, C, B, rfl, T, hno, ea, q⟩
  obtain rfl : u = Value.ref a := r2
  exact put_first T I2 ea hno r1 fun dx s' n ne J => ⟨σ, _, J, q dx n ne⟩
/-- C(e, ..), C's own __init__ keeping sp -/
theorem pmkE {CX : CXT} {C fI : Addr} {k : Nat} {fd : FuncData} {ps : List Str} {sp : Sp} (T : OexE X.K C B) (iC : PySem.W.findIn X.K (.ref C) "__init__" = some (some (.ref fI)))
    (tI : PySem.W.typeIn X.K (.ref fI) = some (.type "function")) (F1 : FnG X.prog X.w X.K X.mg X.base CX k fI fd ps sp) (hr : Room (k + 1) X.A) (hcalm : Calm X.A) (hb : Binds X.K fd ps [])
    (hx : Passes CX X (fun _ _ _ => False)) (hg : Gl X x) (hm : X.mg x = some (.ref C)) (ha : PA X (e :: es) ta) (hdb : (x == ("__debug__" : Str)) = false := by decide)
    (he : starEach (e :: es) X.env = (false, eval e X.env) :: starEach es X.env := by rfl) (hpl : (backTo pos (starEach es X.env)).any (·.1) = false := by rfl) :
    PMk X (.Call (.Name x p) (e :: es) [] pos) (tMkO C sp [] ta) := by
  intro pins s σ H Q I h
  obtain ⟨nm, q, N, bs, sn, sub, ab, col, dd, k0, k1, k2, k3, k5, at_⟩ := T.cls
  refine wpAny_Call_Name_kw (ld_glob I hg hm (PySem.W.callWith_K (h₀ := X.base) I.ok.mod.kin T.kept (thn (ha.run pos pins s σ H _ I h) ?_) he hpl) hdb)
  rintro us s1 ⟨vs, H1, I1, r1, hz, q1⟩
  refine ⟨I1.kIn, ?_⟩
  show wpAny _ _ (call (.ref C) us) _ _ _
  obtain ⟨hp, g, dr, tk, os⟩ := s1
  have step : hp.objs.size ≤ hp.objs.size + 1 := Nat.le_succ _
  have free : H1 (hp.objs.size + 1) = none := I1.hok.fresh step
  have want := q1 (hp.objs.size + 1) free
  rw [List.append_nil] at want
  have keep : ∀ b o, hp.get? b = some o → ((hp.push (PySem.W.kdv_tup us)).push (PySem.HandSPX.excO C hp.objs.size)).get? b = some o :=
    fun b o e => Heap.get?_push_of_some _ (Heap.get?_push_of_some _ e)
  have there : ((hp.push (PySem.W.kdv_tup us)).push (PySem.HandSPX.excO C hp.objs.size)).get? (hp.objs.size + 1) =
    some (PySem.HandSPX.excO C hp.objs.size) := by heap_get
  have I2 : Inv X pins σ (upd H1 (hp.objs.size + 1) (exo (hp.objs.size + 1) C none))
      ⟨(hp.push (PySem.W.kdv_tup us)).push (PySem.HandSPX.excO C hp.objs.size), g, dr, tk, os⟩ :=
    I1.laid (t' := tk) (a := hp.objs.size + 1) (o := exo (hp.objs.size + 1) C none) keep step (exo_ok there)
  have r2 : Vals (V.ref (hp.objs.size + 1) :: vs) (Value.ref (hp.objs.size + 1) :: us) := .cons rfl r1
  have many : (Value.ref (hp.objs.size + 1) :: us).length = ps.length := r2.length.symm.trans (F1.len _ _ _ _ want)
  have few : us.length ≤ sizeLine := by
    rw [← r1.length]
    exact Nat.le_trans hz (small (by decide))
  have bnd := hb ⟨(hp.push (PySem.W.kdv_tup us)).push (PySem.HandSPX.excO C hp.objs.size), g, dr, tk, os⟩ (Value.ref (hp.objs.size + 1) :: us) I2.kIn (by rw [List.append_nil]; exact many)
  rw [List.append_nil] at bnd
  have go := F1.run _ X.stack _ _ ⟨Value.ref (hp.objs.size + 1) :: us, []⟩ _ _ _ (fun _ _ _ => False) (hr.make C us []) (hcalm.make C us []) (I2.env0.make C us []) bnd r2 want
  refine wpAny_call (PySem.HandSPX.call_own F.excBase_Exception (two_has B) (I1.kIn _ _ at_) (PySem.W.looks_findIn I1.kIn iC)
    (fun self => PySem.W.bind_fn I1.kIn self tI) few (codeAny_mono go fun r s' got => ?_))
  match r, got with
  | .error er, got => exact hx pins σ _ _ er s' I2 got
  | .ok (.ret u), got =>
    obtain ⟨v, H2, os2, bare2, un2, hok2, rv, rfl, d, fs, ea, ed, hd1, q2⟩ := got
    obtain ⟨h2, g2, d2, t2, os'⟩ := s'
    exact ⟨rv, mk_end (raises_own T.base T.type) I1 step keep un2 hok2 os2 bare2 ea ed hd1 q2⟩
end
end GX
namespace GX
open PySem PySem.Spec PyProof.Rows L2 GL
/-- what is asked of a held error of the class at C -/
structure HeldE (K : PySem.W.Frag) (C : Addr) : Prop where
  some_ : (PySem.W.clsIn K C).isSome = true
  ga : PySem.W.findIn K (.ref C) "__getattribute__" = some (some (.builtin "BaseException.__getattribute__"))
  gg : PySem.W.findIn K (.ref C) "__getattr__" = some none
  base : PySem.W.subIn K (.ref C) (.type "BaseException") = some true
  own : PySem.W.hasDictIn K C = true
  cl : PySem.W.findIn K (.ref C) "__class__" = some (some (.builtin "object.__class__"))
  get : PySem.W.specialIn K (.builtin "object.__class__") "__get__" = some (some (.builtin "getset_descriptor.__get__"))
  tk : PySem.W.takesIn K (.builtin "object.__class__") = some true
  obj : PySem.W.mroIn K C (.type "object") = some true
theorem kit_same {K : PySem.W.Frag} {C : Addr} : PySem.W.kitOne K (.ref C) (.ref C) = some true := by
  unfold PySem.W.kitOne
  exact if_pos (by first | exact beq_self_eq_true _ | rfl | simp | decide)
section
variable {X : Cx} {C a : Addr} {oe : Obj} {cls : Value} {d : Option Addr} {pn : List (Addr × Obj)} {e : Expr} {te : TE} {pos : Pos} {f : Str}
theorem held_at {pins : List (Addr × Obj)} {σ : L2.St} {H : Hp} {s : Shared} {dd : Addr} {fs : List (Str × V)} (hz : Zc (.ref C) (some dd) oe) (hf : ∃ vs, oe.data = .fields vs)
    (I : Inv (X.suite a ((a, oe) :: pn)) pins σ H s) (ea : H dd = some (.xd fs)) :
    ∃ od : Obj, PySem.W.InstAt s.heap a oe C (some od) ∧ ∀ g : Str, ∃ o, PySem.W.lookIn g od = some o ∧ RelO (fs.lookup g) o := by
  obtain ⟨at_, _⟩ := I.pin (a, oe) (List.mem_append_left _ List.mem_cons_self)
  obtain ⟨vs, hd⟩ := hf
  have there : ObjOk X.prog X.w H s.heap dd (.xd fs) := I.hok dd _ ea
  obtain ⟨mA, hns, hr⟩ := there
  obtain ⟨od, ho, hl⟩ := lookIn_ns hns
  exact ⟨od, ⟨at_, hz.1, by unfold PySem.W.notCls; rw [hd] <;> rfl, by rw [hz.2]; exact ho⟩, fun g => ⟨_, hl _, hr g⟩⟩
/-- e.f, e the error that the suite holds -/
def tHeld (C : Addr) (f : Str) (a : Addr) (cls : Value) (d : Option Addr) (te : TE) : TE := fun σ H Q => te σ H fun x H1 => x = .ref a ∧ cls = .ref C ∧
  ∃ (dd : Addr) (fs : List (Str × V)) (v : V), d = some dd ∧ H1 dd = some (.xd fs) ∧ fs.lookup f = some v ∧ Q v H1
theorem pe_held (T : HeldE X.K C) (no : PySem.W.findIn X.K (.ref C) f = some none) (hz : Zc cls d oe) (hf : ∃ vs, oe.data = .fields vs) (he : PE (X.suite a ((a, oe) :: pn)) e te)
    (hb : attributeBase e f X.env (eval e X.env) = eval e X.env := by rfl) :
    PE (X.suite a ((a, oe) :: pn)) (.Attribute e f pos) (tHeld C f a cls d te) := by
  constructor
  intro pins s σ H Q I h
  refine attr_of hb (thn (he.run pins s σ H _ I h) ?_)
  rintro u s1 ⟨x, H1, I1, rx, rfl, rfl, dd, fs, v, rfl, ea, el, q⟩
  obtain rfl : u = Value.ref a := rx
  obtain ⟨od, J, hl⟩ := held_at hz hf I1 ea
  obtain ⟨o, h1, h2⟩ := hl f
  rw [el] at h2
  obtain ⟨u, hu, ru⟩ := RelO.some_of (v := v) (o := o) h2
  exact HandSPX.exc_get I1.kIn J T.ga T.gg T.base (PySem.W.findObj_own T.own no rfl (by rw [h1, hu])) (handed_of ru) ⟨v, H1, I1.tok _, ru, q⟩
/-- isinstance(e, C), e the error that the suite holds, of just this class -/
theorem call_isE (T : HeldE X.K C) (hz : Zc cls d oe) (hf : ∃ vs, oe.data = .fields vs) : CallR (X.suite a ((a, oe) :: pn)) (.builtin "isinstance") (fun xs H Q => xs = [.ref a, .ref C] ∧ cls = .ref C ∧
    (∃ (dd : Addr) (fs : List (Str × V)), d = some dd ∧ H dd = some (.xd fs)) ∧ Q (.bl true) H) := by
  intro pins s σ H xs us Q I r h
  obtain ⟨rfl, rfl, ⟨dd, fs, rfl, ea⟩, q⟩ := h
  obtain ⟨u, w', rfl, ru, rw'⟩ := vals2 r
  obtain rfl : u = Value.ref a := ru
  obtain rfl : w' = Value.ref C := rw'
  obtain ⟨od, J, _⟩ := held_at hz hf I ea
  exact PySem.W.kia_one (PySem.W.kitx_exc T.some_ T.ga T.gg T.base T.cl T.get T.tk T.obj) I.kIn J kit_same (fun z => nomatch z) fun tk => ⟨.bl true, H, I.tok _, rfl, q⟩
end
end GX
namespace NK38
open PySem PySem.Spec PyProof.Rows L2 GL G3
def topS (i : Nat) : Stmt := PySem.Challenge.pw_whateverboxes_k38_machines_that_are_refu.main.body.getD i (.Pass ⟨0, 0, 0, 0⟩)
def ks : Keys := ⟨"cells", "blend", "draws", by decide +kernel, by decide +kernel, by decide +kernel⟩
/-! the built-ins that the text uses are still the built-ins -/
structure Bl (mg : Str → Option Value) : Prop where
  int : mg "int" = none
  len : mg "len" = none
  range : mg "range" = none
  list : mg "list" = none
  repr : mg "repr" = none
  max : mg "max" = none
  min : mg "min" = none
  sorted : mg "sorted" = none
  tuple : mg "tuple" = none
  isinstance : mg "isinstance" = none
section
variable {P : Program} {w : World} {K : PySem.W.Frag} {mg : Str → Option Value} {base : Heap}
abbrev s_draw : Stmt := topS 10
theorem sc_draw : FnScope ["_law_deck_here", "_law_many", "_law_turn", "_law_cell", "_law_held"] ["_law_deck_here", "_law_many"] (defScope s_draw) := ⟨rfl, rfl, rfl, by decide +kernel, rfl, by decide +kernel, by decide +kernel⟩
theorem ok_draw {f : Addr} {fd : FuncData} (F : Fun K "_law_draw" "_law_draw" s_draw f fd) (gl : mg "_law_draw" = some (.ref f)) (T : Bl mg) : DefG P w K mg base 1 "_law_draw" ["_law_deck_here", "_law_many"] (spDrw ks) := by
  refine def_mk F gl (F.binds fun _ _ _ _ _ _ us hl => match us, hl with | [_, _], _ => rfl) (okG F sc_draw (fun vs H Q E h => ?_) fun cdv A outer s H vs Q E hr hc h => ?_)
  · obtain ⟨d, g, n, b, rfl, _⟩ := h
    rfl
  · obtain ⟨d, g, many, b, rfl, D, n0, nB, q⟩ := h
    have nd := sc_draw.nd
    have hu := hu_of hr
    have hu64 := hr.units
    obtain ⟨m, n, L, hd, hg, hL, m0, mB, tn0, tnB⟩ := id D.ex
    have dg := D.ne
    refine ⟨_, (pss_cons (ps_dput hu (pv 0) pe_str (pe_op op_add (pe_dget hu (pv 0) pe_str (fun _ _ => rfl)) pe_int) rfl)
      (pss_cons (ps_par (i := 2) (j := 3) rfl nd rfl rfl (by decide) rfl rfl (pa_cons (pe_dget hu (pv 0) pe_str (fun _ _ => rfl)) (pa_cons (pe_dget hu (pv 0) pe_str (fun _ _ => rfl)) pa_nil)) rfl)
      (C8.pss_cut (ps_if (pt_cmpR (op_neD hu64) (pe_dget hu (pv 0) pe_str (fun _ _ => rfl)) (pe_lst pa_nil) (nomark _))
        (pss_cons (ps_set (i := 3) nd rfl (by first | exact Or.inl rfl | exact Or.inr rfl) (pe_bm0 PySem.F.plainAttrs_list PySem.F.slot_list_pop PySem.F.type_list_pop mt_pop (pe_dget hu (pv 0) pe_str (fun _ _ => rfl))))
        (pss_cons (ps_if (pt_cmpR op_ge (pv 3) (pe_op op_pow pe_int pe_int) (nomark _))
          (pss_cons (ps_expr (pe_bm PySem.F.plainAttrs_list PySem.F.slot_list_append PySem.F.type_list_append mt_append (pe_dget hu (pv 0) pe_str (fun _ _ => rfl)) (pa_cons (pe_op op_fdivW (pv 3) (pv 1)) pa_nil)))
          (pss_one (ps_ret (pe_op op_mod (pe_callTy call_int1 rfl T.int boot_int (pa_cons (pv 3) pa_nil)) (pv 1)))))
          pss_nil)
        (pss_one (ps_set (i := 3) nd rfl (by first | exact Or.inl rfl | exact Or.inr rfl) (pe_op op_add (pv 3) (pe_dget hu (pv 0) pe_str (fun _ _ => rfl)))))))
        pss_nil)
      (pss_cons (ps_set (i := 4) nd rfl (by first | exact Or.inl rfl | exact Or.inr rfl) (pe_op op_mul (pe_callTy call_int1 rfl T.int boot_int (pa_cons (pe_op op_add (pe_op op_add (pe_op op_mod (pe_callTy call_int1 rfl T.int boot_int (pa_cons (pv 3) pa_nil)) pe_int) (pe_op op_mul (pe_op op_mul pe_int (pv 2)) (pv 2))) pe_int) pa_nil)) pe_int))
      (pss_cons (ps_set (i := 4) nd rfl (by first | exact Or.inl rfl | exact Or.inr rfl) (pe_op op_mod (pe_callTy call_int1 rfl T.int boot_int (pa_cons (pv 4) pa_nil)) pe_int))
      (pss_cons (ps_set (i := 4) nd rfl (by first | exact Or.inl rfl | exact Or.inr rfl) (pe_op op_mod (pe_callTy call_int1 rfl T.int boot_int (pa_cons (pe_op op_add (pe_op op_add (pe_op op_mul (pv 4) (pv 4)) (pe_op op_mul pe_int (pv 2))) pe_int) pa_nil)) pe_int))
      (pss_one (ps_ret (pe_op op_mod (pe_op op_fdivW (pe_op op_mod (pe_callTy call_int1 rfl T.int boot_int (pa_cons (pe_op op_mul (pv 4) pe_int) pa_nil)) pe_int) pe_int) (pv 1)))))))))), ?_⟩
    refine ⟨_, rfl, d, _, rfl, get_n hd, n, 1, rfl, rfl, _, rfl, d, _, rfl, put_n hd, ?_⟩
    have xd : upd H d (.dK (deckD ks g m (n + 1))) d = _ := upd_same
    have xg : upd H d (.dK (deckD ks g m (n + 1))) g = some (.lst (L.map V.int)) := by rw [upd_ne dg.symm]; exact hg
    have mv0 : Mv d g H (upd H d (.dK (deckD ks g m (n + 1)))) := ⟨fun p o hp n1 _ => by rw [upd_ne n1]; exact hp⟩
    generalize upd H d (.dK (deckD ks g m (n + 1))) = Hz at *
    refine ⟨_, rfl, d, _, rfl, get_n xd, _, rfl, d, _, rfl, get_b xd, _, _, rfl, ?_⟩
    refine ⟨fun σ Hx => ∃ (c t m' n' : Int) (L' : List Int), σ = [some (.ref d), some (.int many), some (.int t), some (.int c), none] ∧ 0 ≤ t ∧ t ≤ 1000000000001 ∧ Hx d = some (.dK (deckD ks g m' n')) ∧ Hx g = some (.lst (L'.map V.int)) ∧ L'.length ≤ 63 ∧ 0 ≤ m' ∧ m' < 2147483587 ∧ 0 ≤ n' ∧ n' + b ≤ 1000000000000 ∧ Mv d g H Hx, ?_, ?_⟩
    · refine ⟨_, rfl, d, _, rfl, get_c xd, Nat.zero_le _, fun o no => ?_⟩
      have sm : Same Hz (upd Hz o (.lst [])) := Same.new no
      have mv1 : Mv d g H (upd Hz o (.lst [])) := mv0.trans (Mv.of sm)
      refine ⟨_, _, .lst (tofL (sm _ _ xg)) (dpa_ints L), .lst (tofL upd_same) .nil, shaped_ints L, shaped_ints [], _, rfl, ?_⟩
      rw [eqv_ints_nil]
      have yd := sm _ _ xd
      have yg := sm _ _ xg
      generalize upd Hz o (.lst []) = Hy at *
      refine ite2 (fun e => ?_) (fun e => ?_)
      · have hne : L ≠ [] := fun z => by rw [z] at e; exact absurd e (by decide)
        obtain ⟨L0, c, rfl⟩ := snoc_of hne
        rw [List.length_append, List.length_singleton] at hL
        refine ⟨_, rfl, d, _, rfl, get_c yd, ty_l (tofL yg), g, _, _, rfl, rfl, yg, pop_at L0 c, ?_⟩
        rw [pop_left]
        have zd : upd Hy g (.lst (L0.map V.int)) d = some (.dK (deckD ks g m (n + 1))) := by rw [upd_ne dg]; exact yd
        have mv2 : ∀ u : HO, Mv d g H (upd Hy g u) := fun u => ⟨fun p o hp n1 n2 => by rw [upd_ne n2]; exact mv1.keep p o hp n1 n2⟩
        refine ⟨_, rfl, 10, 18, rfl, rfl, ⟨by decide, by decide, by decide⟩, _, _, rfl, rfl, _, rfl, ?_⟩
        refine ite2 (fun _ => ?_) (fun _ => ?_)
        · refine ⟨_, rfl, d, _, rfl, get_c zd, ty_l (tofL upd_same), _, rfl, _, rfl, c, many, rfl, rfl, wide_div (b := 8000) n0 nB (by decide) (by decide), g, _, _, rfl, rfl, upd_same, ?_, ?_⟩
          · rw [List.length_map]; exact smallt (by omega)
          · rw [upd_upd]
            refine ⟨_, rfl, .inl ⟨c, rfl, _, rfl, c, many, rfl, rfl, n0, ?_⟩⟩
            refine q _ _ (Int.emod_nonneg _ (by omega)) (Int.emod_lt_of_pos _ n0) ⟨m, n + 1, L0 ++ [c / many], by rw [upd_ne dg]; exact yd, ?_, ?_, m0, mB, by omega, by omega⟩ (mv2 _)
            · rw [upd_same, List.map_append, List.map_singleton]
            · rw [List.length_append, List.length_singleton]; exact hL
        · exact ⟨_, rfl, _, rfl, d, _, rfl, get_b zd, c, m, rfl, rfl, _, _, _, _, _, rfl, by omega, by omega, zd, upd_same, by omega, m0, mB, by omega, by omega, mv2 _⟩
      · exact ⟨_, _, _, _, _, rfl, by omega, by omega, yd, yg, hL, m0, mB, by omega, by omega, mv1⟩
    · rintro σ Hx ⟨c, t, m', n', L', rfl, t0, tB, xd, xg, xL, xm0, xmB, xn0, xnB, mv⟩
      have a0 := Int.emod_nonneg c (show ((2147483629 : Int)) ≠ 0 by decide)
      have a1 := Int.emod_lt_of_pos c (show (0 : Int) < 2147483629 by decide)
      have p1 : CMul (60149 : Int) t := mul_small (by decide) (by decide)
      have p2 : CMul (60149 * t) t := mul_smallR t0 (by omega)
      have p3 : CMul (c % 2147483629 + 60149 * t * t + 37) 40692 := mul_smallR (by decide) (by decide)
      refine ⟨_, rfl, .inl ⟨c, rfl, c, 2147483629, rfl, rfl, (show (0 : Int) < 2147483629 by decide), _, rfl, 60149, t, rfl, rfl, p1, _, rfl, _, t, rfl, rfl, p2, _, _, rfl, rfl, _, 37, rfl, rfl, .inl ⟨_, rfl, _, 40692, rfl, rfl, p3, ?_⟩⟩⟩
      refine ⟨_, rfl, .inl ⟨_, rfl, _, 2147483647, rfl, rfl, (show (0 : Int) < 2147483647 by decide), ?_⟩⟩
      have h0 := Int.emod_nonneg ((c % 2147483629 + 60149 * t * t + 37) * 40692) (show ((2147483647 : Int)) ≠ 0 by decide)
      have h1 := Int.emod_lt_of_pos ((c % 2147483629 + 60149 * t * t + 37) * 40692) (show (0 : Int) < 2147483647 by decide)
      have i0 := fun h : Int => Int.emod_nonneg (h * h + 69621 * t + 223) (show ((2147483587 : Int)) ≠ 0 by decide)
      have i1 := fun h : Int => Int.emod_lt_of_pos (h * h + 69621 * t + 223) (show (0 : Int) < 2147483587 by decide)
      refine ⟨_, rfl, _, rfl, _, _, rfl, rfl, mul_small h0 (Int.lt_trans h1 (by decide)), _, rfl, 69621, t, rfl, rfl, mul_small (by decide) (by decide), _, _, rfl, rfl, _, 223, rfl, rfl, .inl ⟨_, rfl, _, 2147483587, rfl, rfl, (show (0 : Int) < 2147483587 by decide), ?_⟩⟩
      refine ⟨_, rfl, _, 39373, rfl, rfl, mul_small (i0 _) (Int.lt_trans (i1 _) (by decide)), .inl ⟨_, rfl, _, 2147483563, rfl, rfl, (show (0 : Int) < 2147483563 by decide), _, 64, rfl, rfl, wide_div (b := 8) (by decide) (by decide) (by decide) (by decide), _, rfl, _, many, rfl, rfl, n0, ?_⟩⟩
      exact q _ _ (Int.emod_nonneg _ (by omega)) (Int.emod_lt_of_pos _ n0) ⟨m', n', L', xd, xg, xL, xm0, xmB, xn0, by omega⟩ mv

abbrev s_deck : Stmt := topS 9
theorem sc_deck : FnScope ["_law_script", "_law_cells", "_law_blend", "_law_cell"] ["_law_script"] (defScope s_deck) := ⟨rfl, rfl, rfl, by decide +kernel, rfl, by decide +kernel, by decide +kernel⟩
theorem ok_deck {f : Addr} {fd : FuncData} (F : Fun K "_law_deck" "_law_deck" s_deck f fd) (gl : mg "_law_deck" = some (.ref f)) (T : Bl mg) : DefG P w K mg base 1 "_law_deck" ["_law_script"] (spDck K ks) := by
  refine def_mk F gl (F.binds fun _ _ _ _ _ _ us hl => match us, hl with | [_], _ => rfl) (okG F sc_deck (fun vs H Q E h => ?_) fun cdv A outer s H vs Q E hr hc h => ?_)
  · obtain ⟨a, ns, rfl, _⟩ := h
    rfl
  · obtain ⟨a, ns, rfl, hS, hl, q⟩ := h
    have nd := sc_deck.nd
    refine ⟨_, (pss_cons (ps_par (i := 1) (j := 2) rfl nd rfl rfl (by decide) rfl rfl (pa_cons (pe_callTy call_list_of (by rfl) T.list boot_list (pa_cons (pe_slice sl_list (pv 0) po_none (po_some pe_int)) pa_nil)) (pa_cons pe_int pa_nil)) rfl)
      (pss_cons (ps_for PassesOwn.never rfl (pi_list (pv 1)) (pg_name (i := 3) nd rfl (by first | exact Or.inl rfl | exact Or.inr rfl))
        (pss_one (ps_set (i := 2) nd rfl (by first | exact Or.inl rfl | exact Or.inr rfl) (pe_op op_mod (pe_callTy call_int1 (by rfl) T.int boot_int (pa_cons (pe_op op_add (pe_op op_add (pe_op op_mul (pv 2) pe_int) (pe_op op_mod (pe_callTy call_int1 (by rfl) T.int boot_int (pa_cons (pv 3) pa_nil)) pe_int)) pe_int) pa_nil)) pe_int))))
      (pss_one (ps_ret (pe_disp (pps_cons pe_str (pe_revL (pv 1)) (pps_cons pe_str (pv 2) (pps_cons pe_str pe_int pps_nil))) rfl rfl (by decide) (by decide)))))), ?_⟩
    refine ⟨_, rfl, 63, rfl, a, _, rfl, hS, fun c nc => ?_⟩
    obtain ⟨ms, em, lm⟩ := cut_ints ns none (some 63)
    rw [em]
    have s1 : Same H (upd H c (.lst (ms.map V.int))) := Same.new nc
    refine ⟨c, _, rfl, .inl (tofL upd_same), fun l nl => ?_⟩
    have s2 : Same H (upd (upd H c (.lst (ms.map V.int))) l (.lst (ms.map V.int))) := s1.trans (Same.new nl)
    have xl : upd (upd H c (.lst (ms.map V.int))) l (.lst (ms.map V.int)) l = _ := upd_same
    have fl : H l = none := s1.free nl
    revert s2 xl
    generalize upd (upd H c (.lst (ms.map V.int))) l (.lst (ms.map V.int)) = Hy
    intro s2 xl
    refine ⟨_, _, rfl, _, rfl, l, rfl, ⟨_, tofL xl⟩, for_list (K := K) (a := l) (xs := ms.map V.int) (fun i σ H2 => ∃ (m : Int) (v : Option V), σ = [some (.ref a), some (.ref l), some (.int m), v] ∧ H2 = Hy ∧ 0 ≤ m ∧ m < 2147483587)
      ⟨_, none, rfl, rfl, by decide, by decide⟩ (fun i σ H2 _ ⟨_, _, _, e, _⟩ => by rw [e]; exact tofL xl) ?_ ?_⟩
    · rintro i y σ H2 hi ⟨m, v, rfl, rfl, m0, m1⟩
      obtain ⟨x, rfl, _⟩ := ints_at hi
      refine ⟨_, rfl, m, 48271, rfl, rfl, mul_small m0 (by omega), _, rfl, .inl ⟨x, rfl, x, 2147483629, rfl, rfl, (show (0 : Int) < 2147483629 by decide), _, _, rfl, rfl, _, _, rfl, rfl, .inl ⟨_, rfl, _, 2147483587, rfl, rfl, (show (0 : Int) < 2147483587 by decide), _, _, rfl, rfl, Int.emod_nonneg _ (by decide), Int.emod_lt_of_pos _ (by decide)⟩⟩⟩
    · rintro σ H2 ⟨m, v, rfl, rfl, m0, m1⟩
      intro p np
      have s3 : Same H (upd H2 p (.dK [])) := s2.trans (Same.new np)
      have npl : l ≠ p := ne_of_none xl np
      refine ⟨_, rfl, l, _, rfl, tofL (by rw [upd_ne npl]; exact xl), fun g ng => ⟨_, rfl, ?_, deckD ks g m 0, rfl, (show 3 ≤ 15 by decide), ?_⟩⟩
      · rw [upd_ne (ne_of_none upd_same ng)]; exact upd_same
      · rw [deck_merge]
        have npg : p ≠ g := ne_of_none upd_same ng
        refine q p g _ (fun b u hb => ?_) (s2.free np) (s3.free ng) ⟨m, 0, ms.reverse, upd_same, ?_, ?_, m0, m1, by decide, by decide⟩
        · rw [upd_ne (ne_of_none hb (s2.free np)), upd_ne (ne_of_none hb (s3.free ng))]
          exact s3 _ _ hb
        · rw [upd_ne npg.symm, upd_same, List.map_reverse]
        · rw [List.length_reverse]
          omega

abbrev s_pick : Stmt := topS 11
theorem sc_pick : FnScope ["_law_deck_here", "_law_some"] ["_law_deck_here", "_law_some"] (defScope s_pick) := ⟨rfl, rfl, rfl, by decide +kernel, rfl, by decide +kernel, by decide +kernel⟩
theorem ok_pick {f : Addr} {fd : FuncData} (F : Fun K "_law_pick" "_law_pick" s_pick f fd) (gl : mg "_law_pick" = some (.ref f)) (T : Bl mg) (D_draw : DefG P w K mg base 1 "_law_draw" ["_law_deck_here", "_law_many"] (spDrw ks)) :
    DefG P w K mg base 2 "_law_pick" ["_law_deck_here", "_law_some"] (spPck ks) := by
  refine def_mk F gl (F.binds fun _ _ _ _ _ _ us hl => match us, hl with | [_, _], _ => rfl) (okG F sc_pick (fun vs H Q E h => ?_) fun cdv A outer s H vs Q E hr hc h => ?_)
  · obtain ⟨d, g, a, xs, b, rfl, _⟩ := h
    rfl
  · obtain ⟨d, g, a, xs, b, rfl, D, ha, nag, hne, hl, q⟩ := h
    have nd := sc_pick.nd
    refine ⟨_, (pss_one (ps_ret (pe_ix ix_list (pv 1) (pe_def D_draw (hr.mono (by decide)) hc (by rfl) (pa_cons (pv 0) (pa_cons (pe_callB call_len_seq (by rfl) T.len boot_len (pa_cons (pv 1) pa_nil)) pa_nil))) (fun _ _ => rfl)))), ?_⟩
    have nad : a ≠ d ∧ a ≠ g := ⟨by obtain ⟨m, n, L, h1, _⟩ := D.ex; exact (ne_of h1 ha (fun z => nomatch z)).symm, nag⟩
    have h0 : 0 < xs.length := List.length_pos_iff.mpr hne
    refine ⟨_, rfl, _, rfl, _, rfl, a, xs, rfl, .inl (tofL ha), d, g, _, b, rfl, D, by omega, by omega, fun r H' r0 r1 D' M => ?_⟩
    obtain ⟨x, hx, e⟩ := at_in (xs := xs) r0 r1
    exact ⟨a, xs, r, x, rfl, rfl, tofL (M.at ha nad), e, q x H' hx D' M⟩
end
end NK38
namespace NK38
open PySem PySem.Spec PyProof.Rows L2 GL G3 MA
def spReached (K : PySem.W.Frag) : Sp := fun vs H Q _ => ∃ (a : Addr) (S : Tab) (n b : Nat), vs = [.ref a] ∧ Grid K H a S ∧ Wf S n b ∧ 0 < n ∧ n ≤ 1000 ∧
  ∀ (p : Addr) (H' : Hp) (M : List Nat), Same H H' → H' p = some (.lst (M.map vI)) → H p = none → (∀ s, s ∈ M ↔ Rch S s) → M.Pairwise (· ≤ ·) → M.Nodup → Q (.ref p) H'
/-- between two turns: found so far, all looked at ahead of i -/
def WR (H : Hp) (a pf d : Addr) (S : Tab) (n m : Nat) (σ : L2.St) (Hx : Hp) : Prop := ∃ (L : List Nat) (i : Nat) (v4 : Option V), σ = [some (.ref a), some (.ref pf), some (.ref d), some (.int i), v4] ∧ Same H Hx ∧ Hx pf = some (.lst (L.map vI)) ∧ Hx d = some (.dK (kvT L)) ∧ Fnd S L ∧
  i ≤ L.length ∧ (∀ j s, j < i → L[j]? = some s → ∀ x ∈ row S s, x ∈ L) ∧ m + i = n
def WQ (H : Hp) (a pf d : Addr) (S : Tab) (n m : Nat) (σ : L2.St) (Hx : Hp) : Prop := ∃ (L Z : List Nat) (v3 v4 : Option V), σ = [some (.ref a), some (.ref d), some (.ref pf), v3, v4] ∧ Same H Hx ∧ Hx pf = some (.lst (Z.map vI)) ∧ Hx d = some (.dK (kvT L)) ∧ Fnd S L ∧
  (∀ x ∈ Z, x ∈ L) ∧ (∀ s ∈ L, s ∈ Z ∨ ∀ x ∈ row S s, x ∈ L) ∧ m + 2 * L.length = 2 * n + Z.length ∧ Z.length ≤ L.length
section
variable {P : Program} {w : World} {K : PySem.W.Frag} {mg : Str → Option Value} {base : Heap}
abbrev s_reached_states : Stmt := topS 6
theorem sc_reached_states : FnScope ["steps", "found", "seen", "at", "state"] ["steps"] (defScope s_reached_states) := ⟨rfl, rfl, rfl, by decide +kernel, rfl, by decide +kernel, by decide +kernel⟩
theorem ok_reached_states {f : Addr} {fd : FuncData} (F : Fun K "_reached_states" "_reached_states" s_reached_states f fd) (gl : mg "_reached_states" = some (.ref f)) (T : Bl mg) : DefG P w K mg base 1 "_reached_states" ["steps"] (spReached K) := by
  refine def_mk F gl (F.binds fun _ _ _ _ _ _ us hl => match us, hl with | [_], _ => rfl) (okG F sc_reached_states (fun vs H Q E h => ?_) fun cdv A outer s H vs Q E hr hc h => ?_)
  · obtain ⟨a, S, n, b, rfl, _⟩ := h
    rfl
  · obtain ⟨a, S, n, b, rfl, hG, W, n0, nB, q⟩ := h
    have nd := sc_reached_states.nd
    have hu := hu_of hr
    refine ⟨_, (pss_cons (ps_set (i := 1) nd rfl (by first | exact Or.inl rfl | exact Or.inr rfl) (pe_lst (pa_cons pe_int pa_nil)))
      (pss_cons (ps_set (i := 2) nd rfl (by first | exact Or.inl rfl | exact Or.inr rfl) (pe_disp (pps_cons pe_int pe_bl pps_nil) rfl rfl (by decide) (by decide)))
      (pss_cons (ps_set (i := 3) nd rfl (by first | exact Or.inl rfl | exact Or.inr rfl) pe_int)
      (pss_cons (ps_while PassesOwn.never (pt_cmpR op_lt (pv 3) (pe_callB call_len_seq (by rfl) T.len boot_len (pa_cons (pv 1) pa_nil)) (nomark _))
        (pss_cons (ps_for PassesOwn.never rfl (pi_tup (pe_ix ix_tup (pv 0) (pe_ix ix_list (pv 1) (pv 3) (fun _ _ => rfl)) (fun _ _ => rfl))) (pg_name (i := 4) nd rfl (by first | exact Or.inl rfl | exact Or.inr rfl))
          (pss_one (ps_if (pt_cmp (pc_dnotin hu (pv 4) (pv 2)))
            (pss_cons (ps_dput hu (pv 2) (pv 4) pe_bl rfl)
            (pss_one (ps_expr (pe_bm PySem.F.plainAttrs_list PySem.F.slot_list_append PySem.F.type_list_append mt_append (pv 1) (pa_cons (pv 4) pa_nil)))))
            pss_nil)))
        (pss_one (ps_aug (i := 3) nd rfl (by first | exact Or.inl rfl | exact Or.inr rfl) pe_int ip_add))))
      (pss_one (ps_ret (pe_callB cr_sortedI (by rfl) T.sorted (by decide +kernel) (pa_cons (pv 1) pa_nil)))))))), ?_⟩
    refine ⟨(show 1 ≤ sizeLine from small (by decide)), fun pf nf => ?_⟩
    have sf : Same H (upd H pf (.lst [.int 0])) := Same.new nf
    refine fun d nd' => ⟨upd_same, [((Sum.inl 0 : Key), .bl true)], rfl, (show 1 ≤ 15 by decide), ?_⟩
    rw [upd_upd]
    have nfd : pf ≠ d := ne_of_none upd_same nd'
    have s0 : Same H (upd (upd H pf (.lst [.int 0])) d (.dK (kvT [0]))) := sf.trans (Same.new nd')
    have hF0 : upd (upd H pf (.lst [.int 0])) d (.dK (kvT [0])) pf = some (.lst ([0].map vI)) := by rw [upd_ne nfd, upd_same]; rfl
    have hD0 : upd (upd H pf (.lst [.int 0])) d (.dK (kvT [0])) d = some (.dK (kvT [0])) := upd_same
    refine ⟨WR H a pf d S n, ⟨n, [0], 0, none, rfl, s0, hF0, hD0, ⟨List.pairwise_singleton _ _, List.mem_singleton_self _, fun x hx => by rw [List.mem_singleton.mp hx]; exact .zero⟩, Nat.zero_le _, fun j s h => absurd h (Nat.not_lt_zero _), rfl⟩, ?_⟩
    rintro m σ Hx ⟨L, i, v4, rfl, sx, hF, hD, fd, il, cl, em⟩
    have ln := fd.len W n0
    refine ⟨_, rfl, _, rfl, pf, _, rfl, .inl (tofL hF), _, _, rfl, rfl, _, rfl, ?_⟩
    rw [List.length_map]
    refine ite2 (fun e => ?_) (fun e => ?_)
    · have hi : i < L.length := by have := of_decide_eq_true e; omega
      have hs : L[i]? = some L[i] := List.getElem?_eq_getElem hi
      generalize hse : L[i] = s at hs
      have smem : s ∈ L := List.mem_of_getElem? hs
      have sn := (fd.rc s smem).lt W n0
      obtain ⟨xs, r, hA, hat, hR⟩ := hG.row W sn
      refine ⟨fun σ' H' => ∃ m', m' < m ∧ WR H a pf d S n m' σ' H', fun _ _ h => h, ?_⟩
      refine ⟨_, rfl, _, rfl, _, rfl, pf, _, i, vI s, rfl, rfl, tofL hF, at_vI hs, a, xs, (s : Int), .ref r, rfl, rfl, Same.tup sx hA, hat, r, rfl, ⟨_, Same.tup sx hR⟩, ?_⟩
      refine for_tup (K := K) (a := r) (xs := (row S s).map vI) (fun t σ Hy => ∃ (L' : List Nat) (v4 : Option V), σ = [some (.ref a), some (.ref pf), some (.ref d), some (.int i), v4] ∧ Same H Hy ∧ Hy pf = some (.lst (L'.map vI)) ∧ Hy d = some (.dK (kvT L')) ∧ Fnd S L' ∧ i < L'.length ∧ L'[i]? = some s ∧ (∀ x ∈ L, x ∈ L') ∧ (∀ j s, j < i → L'[j]? = some s → L[j]? = some s) ∧ (∀ x ∈ (row S s).take t, x ∈ L'))
        ⟨L, v4, rfl, sx, hF, hD, fd, hi, hs, fun x hx => hx, fun j s _ h => h, fun x hx => by cases hx⟩ (fun t σ Hy _ ⟨_, _, _, sy, _⟩ => Same.tup sy hR) ?_ ?_
      · rintro t y σ Hy ht ⟨L', v4', rfl, sy, hF', hD', fd', hi', hs', sub, old, got⟩
        rw [List.getElem?_map] at ht
        obtain ⟨x, hx, rfl⟩ := Option.map_eq_some_iff.mp ht
        have xr : x ∈ row S s := List.mem_of_getElem? hx
        have et : (row S s).take (t + 1) = (row S s).take t ++ [x] := by rw [List.take_add_one, hx]; rfl
        have ln' := fd'.len W n0
        refine ⟨_, rfl, _, rfl, d, _, rfl, DGet.k (k := Sum.inl (x : Int)) hD', _, rfl, ?_⟩
        rw [kvT_has]
        by_cases hin : x ∈ L'
        · rw [decide_eq_true hin]
          refine iteF ⟨L', _, rfl, sy, hF', hD', fd', hi', hs', sub, old, fun z hz => ?_⟩
          rw [et] at hz
          rcases List.mem_append.mp hz with hz | hz
          · exact got z hz
          · rw [List.mem_singleton.mp hz]; exact hin
        · rw [decide_eq_false hin]
          refine iteT ⟨_, rfl, _, rfl, d, _, rfl, DPut.k (k := Sum.inl (x : Int)) hD' (by unfold kvT; rw [List.length_map]; exact smallt (by omega)), ?_⟩
          rw [kvT_put hin]
          have npd : pf ≠ d := ne_of hF' hD' (fun z => nomatch z)
          have hF2 : upd Hy d (.dK (kvT (L' ++ [x]))) pf = some (.lst (L'.map vI)) := by rw [upd_ne npd]; exact hF'
          refine ⟨_, rfl, ty_l (tofL hF2), _, rfl, pf, _, _, rfl, rfl, hF2, by rw [List.length_map]; exact smallt (by omega), L' ++ [x], _, rfl, fun p o hp => ?_, ?_, ?_, fd'.add (List.mem_of_getElem? hs') xr hin, by rw [List.length_append]; omega, ?_, fun z hz => List.mem_append_left _ (sub z hz), fun j z hj hz => ?_, fun z hz => ?_⟩
          · rw [upd_ne (ne_of_none hp nf), upd_ne (ne_of_none hp (sf.free nd'))]
            exact sy _ _ hp
          · rw [upd_same, List.map_append]; rfl
          · rw [upd_ne npd.symm, upd_same]
          · rw [List.getElem?_append_left hi']; exact hs'
          · rw [List.getElem?_append_left (by omega)] at hz
            exact old j z hj hz
          · rw [et] at hz
            rcases List.mem_append.mp hz with hz | hz
            · exact List.mem_append_left _ (got z hz)
            · exact List.mem_append_right _ hz
      · rintro σ Hy ⟨L', v4', rfl, sy, hF', hD', fd', hi', hs', sub, old, got⟩
        rw [List.length_map, List.take_length] at got
        refine ⟨_, rfl, _, _, rfl, rfl, m - 1, by omega, L', i + 1, _, rfl, sy, hF', hD', fd', hi', fun j z hj hz => ?_, by omega⟩
        rcases Nat.lt_or_ge j i with l | l
        · exact fun x hx => sub x (cl j z l (old j z l hz) x hx)
        · rw [show j = i by omega, hs'] at hz
          cases hz
          exact got
    · have hi : i = L.length := by
        have : ¬ ((i : Int) < (L.length : Int)) := fun z => e (decide_eq_true z)
        omega
      subst hi
      have full : ∀ s ∈ L, ∀ x ∈ row S s, x ∈ L := fun s hs x hx => by
        obtain ⟨j, hj⟩ := List.getElem?_of_mem hs
        exact cl j s (List.getElem?_eq_some_iff.mp hj).1 hj x hx
      refine ⟨_, rfl, pf, L.map (fun x : Nat => (x : Int)), rfl, by rw [map_vI]; exact tofL hF, fun ns' p pm rise np => ?_⟩
      obtain ⟨M, rfl, pM⟩ := perm_nat pm
      refine q p _ M (sx.trans (Same.new np)) (by rw [upd_same, map_vI]) (sx.free np) (fun s => pM.mem_iff.trans (fd.all full s)) ?_ (pM.nodup_iff.mpr fd.nd)
      exact (List.pairwise_map.mp rise).imp fun h => by omega
abbrev s_reached : Stmt := topS 14
theorem sc_reached : FnScope ["_law_leads_here", "_law_seen", "_law_waiting", "_law_at", "_law_spot"] ["_law_leads_here"] (defScope s_reached) := ⟨rfl, rfl, rfl, by decide +kernel, rfl, by decide +kernel, by decide +kernel⟩
theorem ok_reached {f : Addr} {fd : FuncData} (F : Fun K "_law_reached" "_law_reached" s_reached f fd) (gl : mg "_law_reached" = some (.ref f)) (T : Bl mg) : DefG P w K mg base 1 "_law_reached" ["_law_leads_here"] (spReached K) := by
  refine def_mk F gl (F.binds fun _ _ _ _ _ _ us hl => match us, hl with | [_], _ => rfl) (okG F sc_reached (fun vs H Q E h => ?_) fun cdv A outer s H vs Q E hr hc h => ?_)
  · obtain ⟨a, S, n, b, rfl, _⟩ := h
    rfl
  · obtain ⟨a, S, n, b, rfl, hG, W, n0, nB, q⟩ := h
    have nd := sc_reached.nd
    have hu := hu_of hr
    have hu64 := hr.units
    refine ⟨_, (pss_cons (ps_par (i := 1) (j := 2) rfl nd rfl rfl (by decide) rfl rfl (pa_cons (pe_disp (pps_cons pe_int pe_bl pps_nil) rfl rfl (by decide) (by decide)) (pa_cons (pe_lst (pa_cons pe_int pa_nil)) pa_nil)) rfl)
      (pss_cons (ps_while PassesOwn.never (pt_cmpR (op_neD hu64) (pv 2) (pe_lst pa_nil) (nomark _))
        (pss_cons (ps_set (i := 3) nd rfl (by first | exact Or.inl rfl | exact Or.inr rfl) (pe_bm0 PySem.F.plainAttrs_list PySem.F.slot_list_pop PySem.F.type_list_pop mt_pop (pv 2)))
        (pss_one (ps_for PassesOwn.never rfl (pi_tup (pe_ix ix_tup (pv 0) (pv 3) (fun _ _ => rfl))) (pg_name (i := 4) nd rfl (by first | exact Or.inl rfl | exact Or.inr rfl))
          (pss_one (ps_if (pt_cmp (pc_dnotin hu (pv 4) (pv 1)))
            (pss_cons (ps_dput hu (pv 1) (pv 4) pe_bl rfl)
            (pss_one (ps_expr (pe_bm PySem.F.plainAttrs_list PySem.F.slot_list_append PySem.F.type_list_append mt_append (pv 2) (pa_cons (pv 4) pa_nil)))))
            pss_nil))))))
      (pss_one (ps_ret (pe_callB cr_sortedI (by rfl) T.sorted (by decide +kernel) (pa_cons (pe_callTy (call_list_dK rfl) (by rfl) T.list boot_list (pa_cons (pv 1) pa_nil)) pa_nil)))))), ?_⟩
    refine fun d nd' => ⟨upd_same, [((Sum.inl 0 : Key), .bl true)], rfl, (show 1 ≤ 15 by decide), (show 1 ≤ sizeLine from small (by decide)), fun pf nf => ⟨_, _, rfl, ?_⟩⟩
    rw [upd_upd]
    rw [upd_upd] at nf
    have nfd : d ≠ pf := ne_of_none upd_same nf
    have sd : Same H (upd H d (.dK (kvT [0]))) := Same.new nd'
    have s0 : Same H (upd (upd H d (.dK (kvT [0]))) pf (.lst ([0].map vI))) := sd.trans (Same.new nf)
    have hD0 : upd (upd H d (.dK (kvT [0]))) pf (.lst ([0].map vI)) d = some (.dK (kvT [0])) := by rw [upd_ne nfd, upd_same]
    refine ⟨WQ H a pf d S n, ⟨2 * n - 1, [0], [0], none, none, rfl, s0, upd_same, hD0, ⟨List.pairwise_singleton _ _, List.mem_singleton_self _, fun x hx => by rw [List.mem_singleton.mp hx]; exact .zero⟩, fun x hx => hx, fun s hs => .inl hs, by simp; omega, Nat.le_refl _⟩, ?_⟩
    rintro m σ Hx ⟨L, Z, v3, v4, rfl, sx, hF, hD, fd, zs, cl, em, zl⟩
    have ln := fd.len W n0
    refine ⟨_, rfl, Nat.zero_le _, fun o no => ?_⟩
    have so : Same Hx (upd Hx o (.lst [])) := Same.new no
    refine ⟨_, _, .lst (tofL (so _ _ hF)) (dpa_nats Z), .lst (tofL upd_same) .nil, shaped_nats Z, shaped_ints [], _, rfl, ?_⟩
    rw [eqv_nats_nil]
    have hF := so _ _ hF
    have hD := so _ _ hD
    have sx := sx.trans so
    revert hF hD sx
    generalize upd Hx o (.lst []) = Hx
    intro hF hD sx
    refine ite2 (fun e => ?_) (fun e => ?_)
    · have hne : Z ≠ [] := fun z => by rw [z] at e; exact absurd e (by decide)
      obtain ⟨Z0, s, rfl⟩ : ∃ Z0 s, Z = Z0 ++ [s] := ⟨Z.dropLast, Z.getLast hne, (List.dropLast_concat_getLast hne).symm⟩
      have smem : s ∈ L := zs s (List.mem_append_right _ (List.mem_singleton_self _))
      have sn := (fd.rc s smem).lt W n0
      obtain ⟨xs, r, hA, hat, hR⟩ := hG.row W sn
      refine ⟨fun σ' H' => ∃ m', m' < m ∧ WQ H a pf d S n m' σ' H', fun _ _ h => h, ?_⟩
      refine ⟨_, rfl, ty_l (tofL hF), pf, _, _, rfl, rfl, hF, pop_nat Z0 s, ?_⟩
      rw [pop_natL]
      have hD2 : upd Hx pf (.lst (Z0.map vI)) d = some (.dK (kvT L)) := by rw [upd_ne (ne_of hD hF (fun z => nomatch z))]; exact hD
      have sx2 : Same H (upd Hx pf (.lst (Z0.map vI))) := fun p o hp => by
        rw [upd_ne (ne_of_none hp (sd.free nf))]
        exact sx _ _ hp
      refine ⟨_, rfl, _, rfl, a, xs, (s : Int), .ref r, rfl, rfl, Same.tup sx2 hA, hat, r, rfl, ⟨_, Same.tup sx2 hR⟩, ?_⟩
      refine for_tup (K := K) (a := r) (xs := (row S s).map vI) (fun t σ Hy => ∃ (L' Z' : List Nat) (v4 : Option V), σ = [some (.ref a), some (.ref d), some (.ref pf), some (.int s), v4] ∧ Same H Hy ∧ Hy pf = some (.lst (Z'.map vI)) ∧ Hy d = some (.dK (kvT L')) ∧ Fnd S L' ∧ s ∈ L' ∧ (∀ x ∈ L, x ∈ L') ∧ (∀ x ∈ Z', x ∈ L') ∧ (∀ z ∈ L', z = s ∨ z ∈ Z' ∨ ∀ x ∈ row S z, x ∈ L') ∧ (∀ x ∈ (row S s).take t, x ∈ L') ∧ L'.length + Z0.length = L.length + Z'.length ∧ L.length ≤ L'.length)
        ⟨L, Z0, v4, rfl, sx2, upd_same, hD2, fd, smem, fun x hx => hx, fun x hx => zs x (List.mem_append_left _ hx), fun z hz => ?_, fun x hx => (by cases hx), rfl, Nat.le_refl _⟩ (fun t σ Hy _ ⟨_, _, _, _, sy, _⟩ => Same.tup sy hR) ?_ ?_
      · rcases cl z hz with q1 | q1
        · rcases List.mem_append.mp q1 with q1 | q1
          · exact .inr (.inl q1)
          · exact .inl (List.mem_singleton.mp q1)
        · exact .inr (.inr q1)
      · rintro t y σ Hy ht ⟨L', Z', v4', rfl, sy, hF', hD', fd', hs', sub, zs', cl', got, len', lel⟩
        rw [List.getElem?_map] at ht
        obtain ⟨x, hx, rfl⟩ := Option.map_eq_some_iff.mp ht
        have xr : x ∈ row S s := List.mem_of_getElem? hx
        have et : (row S s).take (t + 1) = (row S s).take t ++ [x] := by rw [List.take_add_one, hx]; rfl
        have ln' := fd'.len W n0
        rw [List.length_append, List.length_singleton] at zl
        refine ⟨_, rfl, _, rfl, d, _, rfl, DGet.k (k := Sum.inl (x : Int)) hD', _, rfl, ?_⟩
        rw [kvT_has]
        by_cases hin : x ∈ L'
        · rw [decide_eq_true hin]
          refine iteF ⟨L', Z', _, rfl, sy, hF', hD', fd', hs', sub, zs', cl', fun z hz => ?_, len', lel⟩
          rw [et] at hz
          rcases List.mem_append.mp hz with hz | hz
          · exact got z hz
          · rw [List.mem_singleton.mp hz]; exact hin
        · rw [decide_eq_false hin]
          refine iteT ⟨_, rfl, _, rfl, d, _, rfl, DPut.k (k := Sum.inl (x : Int)) hD' (by unfold kvT; rw [List.length_map]; exact smallt (by omega)), ?_⟩
          rw [kvT_put hin]
          have npd : pf ≠ d := ne_of hF' hD' (fun z => nomatch z)
          have hF2 : upd Hy d (.dK (kvT (L' ++ [x]))) pf = some (.lst (Z'.map vI)) := by rw [upd_ne npd]; exact hF'
          refine ⟨_, rfl, ty_l (tofL hF2), _, rfl, pf, _, _, rfl, rfl, hF2, by rw [List.length_map]; exact smallt (by omega), L' ++ [x], Z' ++ [x], _, rfl, fun p o hp => ?_, ?_, ?_, fd'.add hs' xr hin, List.mem_append_left _ hs', fun z hz => List.mem_append_left _ (sub z hz), fun z hz => ?_, fun z hz => ?_, fun z hz => ?_, by rw [List.length_append, List.length_append]; omega, by rw [List.length_append]; omega⟩
          · rw [upd_ne (ne_of_none hp (sd.free nf)), upd_ne (ne_of_none hp nd')]
            exact sy _ _ hp
          · rw [upd_same, List.map_append]; rfl
          · rw [upd_ne npd.symm, upd_same]
          · rcases List.mem_append.mp hz with hz | hz
            · exact List.mem_append_left _ (zs' z hz)
            · exact List.mem_append_right _ hz
          · rcases List.mem_append.mp hz with hz | hz
            · rcases cl' z hz with q1 | q1 | q1
              · exact .inl q1
              · exact .inr (.inl (List.mem_append_left _ q1))
              · exact .inr (.inr fun u hu => List.mem_append_left _ (q1 u hu))
            · exact .inr (.inl (List.mem_append_right _ hz))
          · rw [et] at hz
            rcases List.mem_append.mp hz with hz | hz
            · exact List.mem_append_left _ (got z hz)
            · exact List.mem_append_right _ hz
      · rintro σ Hy ⟨L', Z', v4', rfl, sy, hF', hD', fd', hs', sub, zs', cl', got, len', lel⟩
        rw [List.length_map, List.take_length] at got
        have ln' := fd'.len W n0
        rw [List.length_append, List.length_singleton] at em zl
        refine ⟨2 * n - 2 * L'.length + Z'.length, by omega, L', Z', _, _, rfl, sy, hF', hD', fd', zs', fun z hz => ?_, by omega, by omega⟩
        rcases cl' z hz with rfl | q1 | q1
        · exact .inr got
        · exact .inl q1
        · exact .inr q1
    · have hZ : Z = [] := Classical.byContradiction fun z => e (by rw [decide_eq_false z]; rfl)
      subst hZ
      have full : ∀ s ∈ L, ∀ x ∈ row S s, x ∈ L := fun s hs => (cl s hs).resolve_left (fun z => nomatch z)
      refine ⟨_, rfl, d, kvT L, rfl, hD, fun pl npl => ?_⟩
      have el : (kvT L).map (fun kv => kV kv.1) = (L.map (fun x : Nat => (x : Int))).map V.int := by
        unfold kvT; rw [List.map_map, List.map_map]; rfl
      rw [el]
      refine ⟨pl, L.map (fun x : Nat => (x : Int)), rfl, tofL upd_same, fun ns' p pm rise np => ?_⟩
      obtain ⟨M, rfl, pM⟩ := perm_nat pm
      have sl := sx.trans (Same.new (o := .lst ((L.map (fun x : Nat => (x : Int))).map V.int)) npl)
      refine q p _ M (sl.trans (Same.new np)) (by rw [upd_same, map_vI]) (sl.free np) (fun s => pM.mem_iff.trans (fd.all full s)) ?_ (pM.nodup_iff.mpr fd.nd)
      exact (List.pairwise_map.mp rise).imp fun h => by omega
end
end NK38
namespace NK38
open PySem PySem.Spec PyProof.Rows L2 GL G3 MA GX
/-! ### the class -/
def mf (b s x m : V) : List (Str × V) := putF "many" m (putF "boxes" x (putF "steps" s (putF "base" b [])))
theorem f_many (b s x m : V) : (mf b s x m).lookup ("many" : Str) = some m := by unfold mf; rw [lookup_putF, if_pos rfl]
theorem f_boxes (b s x m : V) : (mf b s x m).lookup ("boxes" : Str) = some x := by unfold mf; rw [lookup_putF, if_neg (by decide +kernel), lookup_putF, if_pos rfl]
theorem f_steps (b s x m : V) : (mf b s x m).lookup ("steps" : Str) = some s := by unfold mf; rw [lookup_putF, if_neg (by decide +kernel), lookup_putF, if_neg (by decide +kernel), lookup_putF, if_pos rfl]
theorem f_base (b s x m : V) : (mf b s x m).lookup ("base" : Str) = some b := by unfold mf; rw [lookup_putF, if_neg (by decide +kernel), lookup_putF, if_neg (by decide +kernel), lookup_putF, if_neg (by decide +kernel), lookup_putF, if_pos rfl]
theorem putF_len : ∀ (f : Str) (v : V) (fs : List (Str × V)), (putF f v fs).length ≤ fs.length + 1
  | f, v, [] => Nat.le_refl _
  | f, v, p :: r => by
    unfold putF
    split
    · rw [List.length_cons, List.length_cons]; omega
    · rw [List.length_cons, List.length_cons]
      have := putF_len f v r
      omega
structure Mac (K : PySem.W.Frag) (mg : Str → Option Value) (C : Addr) : Prop where
  cl : Cls K C
  nB : NoAttr K C "base"
  nS : NoAttr K C "steps"
  nX : NoAttr K C "boxes"
  nM : NoAttr K C "many"
  mgC : mg "Machine" = some (.ref C)
/-- the boxes of the states, by index -/
def bx (B : List Nat) (s : Nat) : Nat := (B[s]?).getD 0
theorem bx_at {B : List Nat} {s : Nat} (h : s < B.length) : B[s]? = some (bx B s) := by
  unfold bx
  rw [List.getElem?_eq_getElem h]; rfl
structure Many (S : Tab) (B : List Nat) (m : Nat) : Prop where
  ex : ∃ s, Rch S s ∧ m = 1 + bx B s
  le : ∀ s, Rch S s → 1 + bx B s ≤ m
theorem Many.one {S : Tab} {B : List Nat} {m m' : Nat} (h : Many S B m) (h' : Many S B m') : m = m' := by
  obtain ⟨s, r, e⟩ := h.ex
  obtain ⟨s', r', e'⟩ := h'.ex
  have := h.le s' r'
  have := h'.le s r
  omega
/-- the greatest one of what a list of reached states gives -/
theorem many_of {S : Tab} {B M : List Nat} {k : Int} (hM : ∀ s, s ∈ M ↔ Rch S s) (hk : k ∈ M.map fun s => ((bx B s : Nat) : Int)) (hl : ∀ y ∈ M.map fun s => ((bx B s : Nat) : Int), y ≤ k) : ∃ m : Nat, 1 + k = (m : Int) ∧ Many S B m := by
  obtain ⟨s, hs, rfl⟩ := List.mem_map.mp hk
  refine ⟨1 + bx B s, by omega, ⟨s, (hM s).mp hs, rfl⟩, fun t ht => ?_⟩
  have := hl _ (List.mem_map_of_mem (f := fun s => ((bx B s : Nat) : Int)) ((hM t).mpr ht))
  omega
theorem iteY2 {c A B : Prop} [Decidable c] (h : c) (a : A) : if c then A else B := by
  rw [if_pos h]
  exact a
/-- no reached state below s goes wrong -/
def Least (S : Tab) (B : List Nat) (s : Nat) : Prop := Rch S s ∧ bx B s ≠ bx B (stp S s 0) ∧ ∀ t, Rch S t → t < s → bx B t = bx B (stp S t 0)
def spBad (CE : Addr) : Sp := fun vs H Q _ => ∃ (a : Addr) (s : Int), vs = [.ref a, .int s] ∧ H a = some (exo a CE none) ∧ ∀ d, H d = none → d ≠ a → Q .non (upd (upd H d (exd d [(("state" : Str), .int s)])) a (exo a CE (some d)))
def spMX (K : PySem.W.Frag) (C CE : Addr) : Sp := fun vs H Q E => ∃ (p dx a x : Addr) (b n : Nat) (S : Tab) (B : List Nat), vs = [.ref p, .int (b : Int), .ref a, .ref x] ∧ H p = some (.ins C dx []) ∧ Grid K H a S ∧ Wf S n b ∧ 0 < n ∧ n ≤ 1000 ∧ 0 < b ∧ SqT K H x (B.map vI) ∧ B.length = n ∧
  (∀ (s : Nat) (d : Addr) (H' : Hp), Least S B s → (∀ q o, q ≠ p → H q = some o → H' q = some o) → H' d = some (.xd [(("state" : Str), .int (s : Int))]) → E (.ref CE) (some d) H') ∧
  ((∀ s, Rch S s → bx B s = bx B (stp S s 0)) → ∀ H', (∀ q o, q ≠ p → H q = some o → H' q = some o) → Q .non H')
section
variable {P : Program} {w : World} {K : PySem.W.Frag} {mg : Str → Option Value} {base : Heap}
abbrev s_BadMachine_init : Stmt := inClass (topS 3) 0
theorem sc_BadMachine_init : FnScope ["self", "state"] ["self", "state"] (defScope s_BadMachine_init) := ⟨rfl, rfl, rfl, by decide +kernel, rfl, by decide +kernel, by decide +kernel⟩
theorem ok_bad {f CE BE : Addr} {fd : FuncData} (F : Fun K "__init__" "BadMachine.__init__" s_BadMachine_init f fd) (T : OexE K CE BE) (no : PySem.W.findIn K (.ref CE) "state" = some none) (gB : mg "BoxError" = some (.ref BE))
    (ga : PySem.W.specialIn K (.ref BE) "__getattribute__" = some (some (.builtin "type.__getattribute__"))) (rd : PySem.W.readsIn K BE (.type "type") = true) (fi : PySem.W.findCls K (.ref BE) (.type "type") "__init__" = some (.val (.builtin "Exception.__init__"))) :
    FnG P w K mg base CX0 1 f fd ["self", "state"] (spBad CE) := by
  refine okG F sc_BadMachine_init (fun vs H Q E h => ?_) fun cdv A outer s H vs Q E hr hc h => ?_
  · obtain ⟨a, s, rfl, _⟩ := h
    rfl
  · obtain ⟨a, z, rfl, ha, q⟩ := h
    have nd := sc_BadMachine_init.nd
    refine ⟨_, (pss_cons (ps_expr (pe_base (by rfl) gB ga rd fi (pa_cons (pv 0) (pa_cons pe_str pa_nil)))) (pss_one (ps_put (pv 0) (pv 1)))), ?_⟩
    exact ⟨_, rfl, a, CE, BE, _, rfl, (show 1 ≤ 1000 by decide), T, ha, _, rfl, _, rfl, a, CE, BE, rfl, T, no, ha, fun d nd' ne => q d nd' ne⟩
abbrev s_Machine_init : Stmt := inClass (topS 5) 0
theorem sc_Machine_init : FnScope ["self", "base", "steps", "boxes", "states", "state"] ["self", "base", "steps", "boxes"] (defScope s_Machine_init) := ⟨rfl, rfl, rfl, by decide +kernel, rfl, by decide +kernel, by decide +kernel⟩
theorem ok_init {f C fE CE BE : Addr} {fd fdE : FuncData} (F : Fun K "__init__" "Machine.__init__" s_Machine_init f fd) (S : Mac K mg C) (T : Bl mg) (D_reached_states : DefG P w K mg base 1 "_reached_states" ["steps"] (spReached K))
    (TE : OexE K CE BE) (gE : mg "BadMachine" = some (.ref CE)) (iE : PySem.W.findIn K (.ref CE) "__init__" = some (some (.ref fE))) (tE : PySem.W.typeIn K (.ref fE) = some (.type "function"))
    (FE : FnG P w K mg base CX0 1 fE fdE ["self", "state"] (spBad CE)) (BE' : Binds K fdE ["self", "state"] []) : FnG P w K mg base (L2.CX P w) 3 f fd ["self", "base", "steps", "boxes"] (spMX K C CE) := by
  refine okGX F sc_Machine_init (fun vs H Q E h => ?_) fun cdv A outer s H vs Q E hr hc h => ?_
  · obtain ⟨p, dx, a, x, b, n, Z, B, rfl, _⟩ := h
    rfl
  · obtain ⟨p, dx, a, x, b, n, Z, B, rfl, hp, hG, W, n0, nB, b0, hX, hB, bad, q⟩ := h
    have nd := sc_Machine_init.nd
    refine ⟨_, (pss_cons (ps_set (i := 4) nd rfl (by first | exact Or.inl rfl | exact Or.inr rfl) (pe_def D_reached_states (hr.mono (by decide)) hc (by rfl) (pa_cons (pv 2) pa_nil)))
      (pss_cons (ps_for (passes_of rfl) rfl (pi_list (pv 4)) (pg_name (i := 5) nd rfl (by first | exact Or.inl rfl | exact Or.inr rfl))
        (pss_one (ps_if (pt_cmpR op_ne (pe_ix ix_tup (pv 3) (pv 5) (fun _ _ => rfl)) (pe_ix ix_tup (pv 3) (pe_ix ix_tup (pe_ix ix_tup (pv 2) (pv 5) (fun _ _ => rfl)) pe_int (fun _ _ => rfl)) (fun _ _ => rfl)) (nomark _))
          (pss_one (ps_raise rfl (takes_of rfl rfl rfl rfl) (pmkE TE iE tE FE (hr.mono (by decide)) hc BE' pass0 (by rfl) gE (pa_cons (pv 5) pa_nil))))
          pss_nil)))
      (pss_cons (ps_fld (pv 0) (pv 1) rfl)
      (pss_cons (ps_fld (pv 0) (pv 2) rfl)
      (pss_cons (ps_fld (pv 0) (pv 3) rfl)
      (pss_one (ps_fld (pv 0) (pe_op op_add pe_int (pe_callB (cr_max rfl) (by rfl) T.max boot_max (pa_cons (pe_lc (own := [("state", 5)]) (g := (gName 5)) (tt := tYes) rfl nd (pi_list (pv 4)) (blkOk_by (own := [("state", 5)]) (N := ["self", "base", "steps", "boxes", "states", "state"]) (sc := defScope s_Machine_init) (by decide +kernel)) (fun _ _ _ _ _ => (pg_name (i := 5) nd rfl (by first | exact Or.inl rfl | exact Or.inr rfl))) (fun _ _ _ _ _ => pts_nil) (fun _ _ _ _ _ => (pe_ix (ix_tupK (K := K)) (pv 3) (pv 5) (fun _ _ => rfl)))) pa_nil))) rfl))))))), ?_⟩
    refine ⟨_, rfl, a, Z, n, b, rfl, hG, W, n0, nB, fun l H1 M s1 hl nl hM rise ndM => ?_⟩
    have Mn : ∀ s ∈ M, s < n := fun s hs => ((hM s).mp hs).lt W n0
    have lM : M.length ≤ n := nodup_len n M ndM Mn
    have atB : ∀ s, s < n → atI (B.map vI) (s : Int) = some (vI (bx B s)) := fun s hs => at_vI (bx_at (by omega))
    refine ⟨_, rfl, l, rfl, ⟨_, tofL hl⟩, for_list (K := K) (a := l) (xs := M.map vI) (fun i σ Hx => ∃ v : Option V, σ = [some (.ref p), some (.int (b : Int)), some (.ref a), some (.ref x), some (.ref l), v] ∧ Hx = H1 ∧ ∀ j s, j < i → M[j]? = some s → bx B s = bx B (stp Z s 0)) ⟨none, rfl, rfl, fun j s h => absurd h (Nat.not_lt_zero _)⟩ (fun i σ Hx _ ⟨_, _, e, _⟩ => by rw [e]; exact tofL hl) ?_ ?_⟩
    · rintro i y σ Hx hi ⟨v, rfl, rfl, good⟩
      rw [List.getElem?_map] at hi
      obtain ⟨z, hz, rfl⟩ := Option.map_eq_some_iff.mp hi
      have zM : z ∈ M := List.mem_of_getElem? hz
      have zn := Mn z zM
      obtain ⟨xs, r, hA, hat, hR⟩ := (hG.same s1).row W zn
      have zn2 := stp_lt (d := 0) W zn b0
      have hX1 := Same.tup s1 hX
      refine ⟨_, rfl, _, rfl, x, _, (z : Int), _, rfl, rfl, hX1, atB z zn, _, rfl, _, rfl, _, rfl, a, xs, (z : Int), .ref r, rfl, rfl, hA, hat, r, _, ((0 : Nat) : Int), _, rfl, rfl, hR, at_vI (stp_at W zn b0), x, _, ((stp Z z 0 : Nat) : Int), _, rfl, rfl, hX1, atB _ zn2, rfl, _, rfl, ?_⟩
      by_cases ok : bx B z = bx B (stp Z z 0)
      · refine iteNS (by rw [ok]) ⟨_, rfl, rfl, fun j s hj hs => ?_⟩
        rcases Nat.lt_or_ge j i with lt | ge
        · exact good j s lt hs
        · rw [show j = i by omega, hz] at hs
          cases hs
          exact ok
      · have te : (!decide (vI (bx B z) = vI (bx B (stp Z z 0)))) = true := by
          rw [decide_eq_false (fun e => ok (by have := V.int.inj e; omega))]; rfl
        refine iteY2 te ?_
        refine ⟨_, rfl, (show 1 ≤ 1000 by decide), fun e ne => ⟨e, (z : Int), rfl, upd_same, fun d nd' dne => ⟨rfl, d, _, upd_same, by rw [upd_ne dne, upd_same], ?_, ?_⟩⟩⟩
        · rw [upd_ne dne] at nd'
          exact nd'
        have ld : ∀ t, Rch Z t → t < z → bx B t = bx B (stp Z t 0) := fun t ht lt => by
          obtain ⟨j, hj⟩ := List.getElem?_of_mem ((hM t).mpr ht)
          refine good j t (Nat.lt_of_not_le fun ge => ?_) hj
          have jl := (List.getElem?_eq_some_iff.mp hj)
          have il := (List.getElem?_eq_some_iff.mp hz)
          obtain ⟨jl1, jl2⟩ := jl
          obtain ⟨il1, il2⟩ := il
          rcases Nat.lt_or_ge i j with l | l
          · have := List.pairwise_iff_getElem.mp rise i j il1 jl1 l
            rw [jl2, il2] at this
            omega
          · have : j = i := by omega
            subst this
            rw [hz] at hj
            cases hj
            omega
        refine bad z d _ ⟨(hM z).mp zM, ok, ld⟩ (fun r o rp hr => ?_) upd_same
        rw [upd_ne dne] at nd'
        have re : r ≠ e := ne_of_none (s1 _ _ hr) ne
        have rd : r ≠ d := ne_of_none (s1 _ _ hr) nd'
        rw [upd_ne rd, del_ne re, upd_ne re, upd_ne rd, upd_ne re]
        exact s1 _ _ hr
    · rintro σ Hx ⟨v, rfl, rfl, good⟩
      rw [List.length_map] at good
      have e1 : (putF ("base" : Str) (V.int (b : Int)) []).length ≤ 1 := putF_len _ _ _
      have e2 : (putF ("steps" : Str) (V.ref a) (putF ("base" : Str) (V.int (b : Int)) [])).length ≤ 2 := Nat.le_trans (putF_len _ _ _) (by omega)
      have e3 : (putF ("boxes" : Str) (V.ref x) (putF ("steps" : Str) (V.ref a) (putF ("base" : Str) (V.int (b : Int)) []))).length ≤ 3 := Nat.le_trans (putF_len _ _ _) (by omega)
      refine ⟨_, rfl, _, rfl, p, C, dx, _, rfl, s1 _ _ hp, S.cl, S.nB, (show 0 < 1000 by decide), _, rfl, _, rfl, p, C, dx, _, rfl, upd_same, S.cl, S.nS, Nat.lt_of_le_of_lt e1 (by decide), _, rfl, _, rfl, p, C, dx, _, rfl, upd_same, S.cl, S.nX, Nat.lt_of_le_of_lt e2 (by decide), ?_⟩
      rw [upd_upd, upd_upd]
      have npl : p ≠ l := ne_of (s1 _ _ hp) hl (fun z => nomatch z)
      have hp4 : upd Hx p (.ins C dx (putF ("boxes" : Str) (V.ref x) (putF ("steps" : Str) (V.ref a) (putF ("base" : Str) (V.int (b : Int)) [])))) p = _ := upd_same
      have hl4 : upd Hx p (.ins C dx (putF ("boxes" : Str) (V.ref x) (putF ("steps" : Str) (V.ref a) (putF ("base" : Str) (V.int (b : Int)) [])))) l = some (.lst (M.map vI)) := by rw [upd_ne npl.symm]; exact hl
      have k4 : ∀ q o, q ≠ p → H q = some o → upd Hx p (.ins C dx (putF ("boxes" : Str) (V.ref x) (putF ("steps" : Str) (V.ref a) (putF ("base" : Str) (V.int (b : Int)) [])))) q = some o := fun q o ne e => by rw [upd_ne ne]; exact s1 _ _ e
      have hX4 : SqT K (upd Hx p (.ins C dx (putF ("boxes" : Str) (V.ref x) (putF ("steps" : Str) (V.ref a) (putF ("base" : Str) (V.int (b : Int)) []))))) x (B.map vI) := by
        rcases hX with (h | ⟨o, h⟩) | h
        · exact .inl (.inl (k4 _ _ (ne_of h hp (fun z => nomatch z)) h))
        · exact .inl (.inr ⟨o, k4 _ _ (ne_of h hp (fun z => nomatch z)) h⟩)
        · exact .inr h
      revert hp4 hl4 k4 hX4
      generalize upd Hx p (.ins C dx (putF ("boxes" : Str) (V.ref x) (putF ("steps" : Str) (V.ref a) (putF ("base" : Str) (V.int (b : Int)) [])))) = H4
      intro hp4 hl4 k4 hX4
      refine ⟨_, rfl, l, rfl, ⟨_, tofL hl4⟩, fun D nD => ?_⟩
      refine lc_list (K := K) (a := l) (xs := M.map vI) (fun i Hy => Same H4 Hy ∧ Hy D = some (.lst ((M.take i).map fun s => V.int ((bx B s : Nat) : Int)))) ⟨Same.new nD, upd_same⟩ (fun i Hy _ h => tofL (h.1 _ _ hl4)) ?_ ?_
      · rintro i y Hy hi ⟨s2, hD⟩
        rw [List.getElem?_map] at hi
        obtain ⟨z, hz, rfl⟩ := Option.map_eq_some_iff.mp hi
        have zn := Mn z (List.mem_of_getElem? hz)
        refine ⟨rfl, _, rfl, _, rfl, x, _, (z : Int), _, rfl, rfl, Same.tup s2 hX4, atB z zn, _, hD, ?_, ?_, ?_⟩
        · rw [List.length_map, List.length_take]; exact smallt (by omega)
        · intro u o hu
          rw [upd_ne (ne_of_none hu nD)]
          exact s2 _ _ hu
        · rw [upd_same, List.take_add_one, hz, List.map_append]; rfl
      · rintro Hy ⟨s2, hD⟩
        rw [List.length_map, List.take_length] at hD
        have eM : (M.map fun s => V.int ((bx B s : Nat) : Int)) = (M.map fun s => ((bx B s : Nat) : Int)).map V.int := by rw [List.map_map]; rfl
        have M0 : 0 < M.length := List.length_pos_of_mem ((hM 0).mpr .zero)
        refine ⟨D, _, rfl, by rw [eM] at hD; exact tofL hD, by rw [List.length_map]; exact M0, fun k hk hkl => ?_⟩
        obtain ⟨m, em, hm⟩ := many_of hM hk hkl
        refine ⟨1, k, rfl, rfl, _, rfl, p, C, dx, _, rfl, s2 _ _ hp4, S.cl, S.nM, Nat.lt_of_le_of_lt e3 (by decide), ?_⟩
        exact q (fun s hs => by
          obtain ⟨j, hj⟩ := List.getElem?_of_mem ((hM s).mpr hs)
          exact good j s (List.getElem?_eq_some_iff.mp hj).1 hj) _ (fun r o ne e => by rw [upd_ne ne]; exact s2 _ _ (k4 r o ne e))
end
end NK38
namespace NK38
open PySem PySem.Spec PyProof.Rows L2 GL G3 MA GX
theorem ixN_of' {n : Nat} {r : Int} (h0 : 0 ≤ r) (h1 : r < n) : ixN n r = some r.toNat := by
  unfold ixN
  rw [if_pos h0, if_pos h1]
theorem least_of {S : Tab} {B M : List Nat} {i z : Nat} (hM : ∀ s, s ∈ M ↔ Rch S s) (rise : M.Pairwise (· ≤ ·)) (hz : M[i]? = some z) (good : ∀ j s, j < i → M[j]? = some s → bx B s = bx B (stp S s 0)) : ∀ t, Rch S t → t < z → bx B t = bx B (stp S t 0) := fun t ht lt => by
  obtain ⟨j, hj⟩ := List.getElem?_of_mem ((hM t).mpr ht)
  refine good j t (Nat.lt_of_not_le fun ge => ?_) hj
  obtain ⟨jl1, jl2⟩ := List.getElem?_eq_some_iff.mp hj
  obtain ⟨il1, il2⟩ := List.getElem?_eq_some_iff.mp hz
  rcases Nat.lt_or_ge i j with l | l
  · have := List.pairwise_iff_getElem.mp rise i j il1 jl1 l
    rw [jl2, il2] at this
    omega
  · have : j = i := by omega
    subst this
    rw [hz] at hj
    cases hj
    omega
def spLeads (K : PySem.W.Frag) : Sp := fun vs H Q _ => ∃ (d g : Addr) (b n c : Nat), vs = [.ref d, .int (b : Int), .int (n : Int)] ∧ Dk ks H d g (c + 10 * n) ∧ b ≤ 10 ∧ 0 < n ∧ n ≤ 100 ∧ ∀ (p : Addr) (S : Tab) H', Grid K H' p S → Wf S n b → Dk ks H' d g c → Mv d g H H' → Q (.ref p) H'
def spRound (K : PySem.W.Frag) : Sp := fun vs H Q _ => ∃ (a : Addr) (S : Tab) (n b s : Nat), vs = [.ref a, .int (s : Int)] ∧ Grid K H a S ∧ Wf S n b ∧ n ≤ 1000 ∧ 0 < b ∧ s < n ∧ Q (.int ((rnd S n s : Nat) : Int)) H
def spBoxes (K : PySem.W.Frag) : Sp := fun vs H Q _ => ∃ (d g a : Addr) (S : Tab) (n b c : Nat), vs = [.ref d, .ref a] ∧ Dk ks H d g (c + 30) ∧ Grid K H a S ∧ Wf S n b ∧ 0 < n ∧ n ≤ 6 ∧ 0 < b ∧
  ∀ (p : Addr) (B : List Nat) H', H' p = some (.tup (B.map vI)) → B.length = n → Dk ks H' d g c → Mv d g H H' → Q (.ref p) H'
def spDue (K : PySem.W.Frag) : Sp := fun vs H Q _ => ∃ (a x : Addr) (S : Tab) (n b : Nat) (B : List Nat), vs = [.ref a, .ref x] ∧ Grid K H a S ∧ Wf S n b ∧ 0 < n ∧ n ≤ 1000 ∧ 0 < b ∧ SqT K H x (B.map vI) ∧ B.length = n ∧
  (∀ (s : Nat) H', Least S B s → Same H H' → Q (.int (s : Int)) H') ∧ ((∀ s, Rch S s → bx B s = bx B (stp S s 0)) → ∀ H', Same H H' → Q .non H')
/-- what `tuple([..])` makes of rows that lie -/
theorem Grid.mk' {K : PySem.W.Frag} {H : Hp} {p : Addr} {rs : List Addr} {S : Tab} (h1 : SqT K H p (rs.map V.ref)) (h2 : rs.length = S.length) (h3 : ∀ (i : Nat) (r : Addr) (w : List Nat), rs[i]? = some r → S[i]? = some w → SqT K H r (w.map vI)) : Grid K H p S := ⟨⟨rs, h1, h2, h3⟩⟩
section
variable {P : Program} {w : World} {K : PySem.W.Frag} {mg : Str → Option Value} {base : Heap}
abbrev s_leads : Stmt := topS 12
theorem sc_leads : FnScope ["_law_deck_here", "_law_radix", "_law_many", "_law_found", "_law_at", "_law_digit"] ["_law_deck_here", "_law_radix", "_law_many"] (defScope s_leads) := ⟨rfl, rfl, rfl, by decide +kernel, rfl, by decide +kernel, by decide +kernel⟩
theorem ok_leads {f : Addr} {fd : FuncData} (F : Fun K "_law_leads" "_law_leads" s_leads f fd) (gl : mg "_law_leads" = some (.ref f)) (T : Bl mg) (D_draw : DefG P w K mg base 1 "_law_draw" ["_law_deck_here", "_law_many"] (spDrw ks)) : DefG P w K mg base 2 "_law_leads" ["_law_deck_here", "_law_radix", "_law_many"] (spLeads K) := by
  refine def_mk F gl (F.binds fun _ _ _ _ _ _ us hl => match us, hl with | [_, _, _], _ => rfl) (okG F sc_leads (fun vs H Q E h => ?_) fun cdv A outer s H vs Q E hr hc h => ?_)
  · obtain ⟨d, g, b, n, c, rfl, _⟩ := h
    rfl
  · obtain ⟨d, g, b, n, c, rfl, D, bB, n0, nB, q⟩ := h
    have nd := sc_leads.nd
    refine ⟨_, (pss_cons (ps_set (i := 3) nd rfl (by first | exact Or.inl rfl | exact Or.inr rfl) (pe_lst pa_nil))
      (pss_cons (ps_for PassesOwn.never rfl (pi_range1 (by rfl) T.range (pa_cons (pv 2) pa_nil)) (pg_name (i := 4) nd rfl (by first | exact Or.inl rfl | exact Or.inr rfl))
        (pss_one (ps_expr (pe_bm PySem.F.plainAttrs_list PySem.F.slot_list_append PySem.F.type_list_append mt_append (pv 3) (pa_cons (pe_tupleOf (by rfl) T.tuple (pe_lc (own := [("_law_digit", 5)]) (g := (gName 5)) (tt := tYes) rfl nd (pi_range1 (by rfl) T.range (pa_cons (pv 1) pa_nil)) (blkOk_by (own := [("_law_digit", 5)]) (N := ["_law_deck_here", "_law_radix", "_law_many", "_law_found", "_law_at", "_law_digit"]) (sc := defScope s_leads) (by decide +kernel)) (fun _ _ _ _ _ => (pg_name (i := 5) nd rfl (by first | exact Or.inl rfl | exact Or.inr rfl))) (fun _ _ _ _ _ => pts_nil) (fun _ _ _ _ _ => (pe_def D_draw (hr.mono (by decide)) hc (by rfl) (pa_cons (pv 0) (pa_cons (pv 2) pa_nil)))))) pa_nil)))))
      (pss_one (ps_ret (pe_tupleOf (by rfl) T.tuple (pv 3)))))), ?_⟩
    refine ⟨Nat.zero_le _, fun l nl => ?_⟩
    refine ⟨_, rfl, (n : Int), rfl, by omega, by omega, ?_⟩
    rw [Int.toNat_natCast]
    refine for_range (fun i σ Hx => ∃ (rs : List Addr) (S : Tab) (v4 : Option V), σ = [some (.ref d), some (.int (b : Int)), some (.int (n : Int)), some (.ref l), v4, none] ∧ Hx l = some (.lst (rs.map V.ref)) ∧ rs.length = i ∧ S.length = i ∧ (∀ (j : Nat) (r : Addr) (w : List Nat), rs[j]? = some r → S[j]? = some w → Hx r = some (.tup (w.map vI))) ∧ (∀ r ∈ S, r.length = b ∧ ∀ x ∈ r, x < n) ∧ Dk ks Hx d g (c + 10 * (n - i)) ∧ Mv d g H Hx)
      ⟨[], [], none, rfl, upd_same, rfl, rfl, fun j r w h => (by cases h), fun r h => (by cases h), D.new nl, Mv.of (Same.new nl)⟩ ?_ ?_
    · rintro i σ Hx hi ⟨rs, S, v4, rfl, hl, l1, l2, lie, ent, Dx, Mx⟩
      have offl : l ≠ d ∧ l ≠ g := by
        have := D.off nl
        exact this
      obtain ⟨B, eB⟩ : ∃ B, B = c + 10 * (n - (i + 1)) := ⟨_, rfl⟩
      have Dx : Dk ks Hx d g (B + 10) := Dx.mono (by omega)
      refine ⟨_, rfl, ty_l (tofL hl), _, rfl, (b : Int), rfl, by omega, by omega, fun C nC => ?_⟩
      rw [Int.toNat_natCast]
      have offC := Dx.off nC
      have nlC : l ≠ C := ne_of_none hl nC
      refine lc_range (fun j Hy => ∃ ws : List Nat, Hy C = some (.lst (ws.map vI)) ∧ ws.length = j ∧ (∀ x ∈ ws, x < n) ∧ Dk ks Hy d g (B + 10 - j) ∧ Mv d g Hx Hy) ⟨[], upd_same, rfl, fun x h => (by cases h), Dx.new nC, Mv.of (Same.new nC)⟩ ?_ ?_
      · rintro j Hy hj ⟨ws, hC, lw, ew, Dy, My⟩
        have Dy : Dk ks Hy d g (B + 10 - (j + 1) + 1) := Dy.mono (by omega)
        refine ⟨rfl, _, rfl, _, rfl, d, g, (n : Int), _, rfl, Dy, by omega, Nat.lt_of_lt_of_le (show ((n : Int)).natAbs < 2 ^ 20 by omega) (Nat.pow_le_pow_right (by decide) (by decide)), fun r Hz r0 r1 Dz Mz => ⟨_, Mz.at hC offC, by rw [List.length_map]; exact smallt (by omega), ws ++ [r.toNat], ?_, by rw [List.length_append, lw]; rfl, fun x hx => ?_, Dz.mut offC, (My.trans Mz).mut nC⟩⟩
        · rw [upd_same, List.map_append, List.map_singleton]
          show some (HO.lst (ws.map vI ++ [V.int r])) = some (HO.lst (ws.map vI ++ [V.int ((r.toNat : Nat) : Int)]))
          rw [Int.toNat_of_nonneg r0]
        · rcases List.mem_append.mp hx with hx | hx
          · exact ew x hx
          · rw [List.mem_singleton.mp hx]; omega
      · rintro Hy ⟨ws, hC, lw, ew, Dy, My⟩
        refine .inl ⟨C, _, rfl, tofL hC, fun t nt => ?_⟩
        have hl2 := My.at hl offl
        have nlt : l ≠ t := ne_of_none hl2 nt
        have hl3 : upd Hy t (.tup (ws.map vI)) l = some (.lst (rs.map V.ref)) := by rw [upd_ne nlt]; exact hl2
        refine ⟨l, _, _, rfl, rfl, hl3, by rw [List.length_map]; exact smallt (by omega), rs ++ [t], S ++ [ws], _, rfl, by rw [upd_same, List.map_append]; rfl, by rw [List.length_append, l1]; rfl, by rw [List.length_append, l2]; rfl, fun j r w e1 e2 => ?_, fun r hr2 => ?_, (((Dy.new nt).mut offl).mono (by omega)), ((Mx.trans My).trans (Mv.of (Same.new nt))).mut nl⟩
        · rcases snoc_at e1 with ⟨_, e1⟩ | ⟨z1, rfl⟩
          · rcases snoc_at e2 with ⟨_, e2⟩ | ⟨z2, rfl⟩
            · have h0 := lie j r w e1 e2
              have h1 := My.at h0 (MA.Dk.tup Dx h0)
              rw [upd_ne (ne_of h0 hl (fun z => nomatch z)), upd_ne (ne_of_none h1 nt)]
              exact h1
            · have := (List.getElem?_eq_some_iff.mp e1).1
              omega
          · rcases snoc_at e2 with ⟨z2, e2⟩ | ⟨z2, rfl⟩
            · omega
            · rw [upd_ne nlt.symm, upd_same]
        · rcases List.mem_append.mp hr2 with hr2 | hr2
          · exact ent r hr2
          · rw [List.mem_singleton.mp hr2]
            exact ⟨lw, ew⟩
    · rintro σ Hx ⟨rs, S, v4, rfl, hl, l1, l2, lie, ent, Dx, Mx⟩
      refine ⟨_, rfl, .inl ⟨l, _, rfl, tofL hl, fun p np => q p S _ ⟨⟨rs, tofT upd_same, by omega, fun j r w e1 e2 => tofT ?_⟩⟩ ⟨l2, fun r h => (ent r h).1, fun r h => (ent r h).2⟩ ((Dx.new np).mono (by omega)) (Mx.trans (Mv.of (Same.new np)))⟩⟩
      have h0 := lie j r w e1 e2
      rw [upd_ne (ne_of_none h0 np)]
      exact h0
abbrev s_round : Stmt := topS 13
theorem sc_round : FnScope ["_law_leads_here", "_law_at", "_law_spot", "_law_go", "_law_least"] ["_law_leads_here", "_law_at"] (defScope s_round) := ⟨rfl, rfl, rfl, by decide +kernel, rfl, by decide +kernel, by decide +kernel⟩
theorem ok_round {f : Addr} {fd : FuncData} (F : Fun K "_law_round" "_law_round" s_round f fd) (gl : mg "_law_round" = some (.ref f)) (T : Bl mg) : DefG P w K mg base 1 "_law_round" ["_law_leads_here", "_law_at"] (spRound K) := by
  refine def_mk F gl (F.binds fun _ _ _ _ _ _ us hl => match us, hl with | [_, _], _ => rfl) (okG F sc_round (fun vs H Q E h => ?_) fun cdv A outer s H vs Q E hr hc h => ?_)
  · obtain ⟨a, S, n, b, s, rfl, _⟩ := h
    rfl
  · obtain ⟨a, S, n, b, s, rfl, hG, W, nB, b0, sn, q⟩ := h
    have nd := sc_round.nd
    obtain ⟨ys, hY, lY⟩ := hG.len W
    have step : ∀ t, t < n → ∃ (xs : List V) (r : Addr), SqT K H a xs ∧ atI xs (t : Int) = some (.ref r) ∧ SqT K H r ((row S t).map vI) ∧ atI ((row S t).map vI) ((0 : Nat) : Int) = some (vI (stp S t 0)) ∧ stp S t 0 < n := fun t ht => by
      obtain ⟨xs, r, hA, hat, hR⟩ := hG.row W ht
      exact ⟨xs, r, hA, hat, hR, at_vI (stp_at W ht b0), stp_lt W ht b0⟩
    refine ⟨_, (pss_cons (ps_set (i := 2) nd rfl (by first | exact Or.inl rfl | exact Or.inr rfl) (pv 1))
      (pss_cons (ps_for PassesOwn.never rfl (pi_range1 (by rfl) T.range (pa_cons (pe_callB call_len_seq (by rfl) T.len boot_len (pa_cons (pv 0) pa_nil)) pa_nil)) (pg_name (i := 3) nd rfl (by first | exact Or.inl rfl | exact Or.inr rfl))
        (pss_one (ps_set (i := 2) nd rfl (by first | exact Or.inl rfl | exact Or.inr rfl) (pe_ix ix_tup (pe_ix ix_tup (pv 0) (pv 2) (fun _ _ => rfl)) pe_int (fun _ _ => rfl)))))
      (pss_cons (ps_set (i := 4) nd rfl (by first | exact Or.inl rfl | exact Or.inr rfl) (pv 2))
      (pss_cons (ps_for PassesOwn.never rfl (pi_range1 (by rfl) T.range (pa_cons (pe_callB call_len_seq (by rfl) T.len boot_len (pa_cons (pv 0) pa_nil)) pa_nil)) (pg_name (i := 3) nd rfl (by first | exact Or.inl rfl | exact Or.inr rfl))
        (pss_cons (ps_set (i := 2) nd rfl (by first | exact Or.inl rfl | exact Or.inr rfl) (pe_ix ix_tup (pe_ix ix_tup (pv 0) (pv 2) (fun _ _ => rfl)) pe_int (fun _ _ => rfl)))
        (pss_one (ps_set (i := 4) nd rfl (by first | exact Or.inl rfl | exact Or.inr rfl) (pe_callB (call_min2 rfl) (by rfl) T.min boot_min (pa_cons (pv 4) (pa_cons (pv 2) pa_nil)))))))
      (pss_one (ps_ret (pv 4))))))), ?_⟩
    refine ⟨_, rfl, _, rfl, a, ys, rfl, .inr hY, (ys.length : Int), rfl, by omega, by omega, ?_⟩
    rw [Int.toNat_natCast, lY]
    refine for_range (fun i σ Hx => Hx = H ∧ ∃ v3 : Option V, σ = [some (.ref a), some (.int (s : Int)), some (.int ((it S i s : Nat) : Int)), v3, none]) ⟨rfl, none, rfl⟩ ?_ ?_
    · rintro i σ Hx hi ⟨rfl, v3, rfl⟩
      obtain ⟨xs, r, hA, hat, hR, h0, _⟩ := step _ (it_lt W b0 i s sn)
      refine ⟨_, rfl, _, rfl, a, xs, _, .ref r, rfl, rfl, hA, hat, r, _, ((0 : Nat) : Int), _, rfl, rfl, hR, h0, rfl, some (.int (0 + (i : Nat))), ?_⟩
      rw [it_succ]; rfl
    · rintro σ Hx ⟨rfl, v3, rfl⟩
      have tn := it_lt W b0 n s sn
      refine ⟨_, rfl, _, rfl, a, ys, rfl, .inr hY, (ys.length : Int), rfl, by omega, by omega, ?_⟩
      rw [Int.toNat_natCast, lY]
      refine for_range (fun i σ Hy => Hy = Hx ∧ ∃ v3 : Option V, σ = [some (.ref a), some (.int (s : Int)), some (.int ((it S i (it S n s) : Nat) : Int)), v3, some (.int ((low S i (it S n s) : Nat) : Int))]) ⟨rfl, v3, rfl⟩ ?_ ?_
      · rintro i σ Hy hi ⟨rfl, v3, rfl⟩
        obtain ⟨xs, r, hA, hat, hR, h0, _⟩ := step _ (it_lt W b0 i _ tn)
        refine ⟨_, rfl, _, rfl, a, xs, _, .ref r, rfl, rfl, hA, hat, r, _, ((0 : Nat) : Int), _, rfl, rfl, hR, h0, _, rfl, _, rfl, _, _, rfl, rfl, some (.int (0 + (i : Nat))), ?_⟩
        have em : (if ((stp S (it S i (it S n s)) 0 : Nat) : Int) < ((low S i (it S n s) : Nat) : Int) then ((stp S (it S i (it S n s)) 0 : Nat) : Int) else ((low S i (it S n s) : Nat) : Int)) = ((low S (i + 1) (it S n s) : Nat) : Int) := by
          show _ = ((min (low S i (it S n s)) (it S (i + 1) (it S n s)) : Nat) : Int)
          rw [it_succ]
          split <;> omega
        rw [← em, it_succ]; rfl
      · rintro σ Hy ⟨rfl, v3, rfl⟩
        exact ⟨_, rfl, q⟩
abbrev s_boxes : Stmt := topS 15
theorem sc_boxes : FnScope ["_law_deck_here", "_law_leads_here", "_law_row", "_law_drawn", "_law_found", "_law_at", "_law_go"] ["_law_deck_here", "_law_leads_here"] (defScope s_boxes) := ⟨rfl, rfl, rfl, by decide +kernel, rfl, by decide +kernel, by decide +kernel⟩
theorem ok_boxes {f : Addr} {fd : FuncData} (F : Fun K "_law_boxes" "_law_boxes" s_boxes f fd) (gl : mg "_law_boxes" = some (.ref f)) (T : Bl mg) (D_draw : DefG P w K mg base 1 "_law_draw" ["_law_deck_here", "_law_many"] (spDrw ks)) (D_round : DefG P w K mg base 1 "_law_round" ["_law_leads_here", "_law_at"] (spRound K)) :
    DefG P w K mg base 2 "_law_boxes" ["_law_deck_here", "_law_leads_here"] (spBoxes K) := by
  refine def_mk F gl (F.binds fun _ _ _ _ _ _ us hl => match us, hl with | [_, _], _ => rfl) (okG F sc_boxes (fun vs H Q E h => ?_) fun cdv A outer s H vs Q E hr hc h => ?_)
  · obtain ⟨d, g, a, S, n, b, c, rfl, _⟩ := h
    rfl
  · obtain ⟨d, g, a, S, n, b, c, rfl, D, hG, W, n0, nB, b0, q⟩ := h
    have nd := sc_boxes.nd
    refine ⟨_, (pss_cons (ps_if (pt_cmpR op_eq (pe_def D_draw (hr.mono (by decide)) hc (by rfl) (pa_cons (pv 0) (pa_cons pe_int pa_nil))) pe_int (nomark _))
        (pss_one (ps_ret (pe_tupleOf (by rfl) T.tuple (pe_lc (own := [("_law_row", 2)]) (g := (gName 2)) (tt := tYes) rfl nd (pi_tup (pv 1)) (blkOk_by (own := [("_law_row", 2)]) (N := ["_law_deck_here", "_law_leads_here", "_law_row", "_law_drawn", "_law_found", "_law_at", "_law_go"]) (sc := defScope s_boxes) (by decide +kernel)) (fun _ _ _ _ _ => (pg_name (i := 2) nd rfl (by first | exact Or.inl rfl | exact Or.inr rfl))) (fun _ _ _ _ _ => pts_nil) (fun _ _ _ _ _ => (pe_def D_draw (hr.mono (by decide)) hc (by rfl) (pa_cons (pv 0) (pa_cons pe_int pa_nil))))))))
        pss_nil)
      (pss_cons (ps_par (i := 3) (j := 4) rfl nd rfl rfl (by decide) rfl rfl (pa_cons (pe_lc (own := [("_law_row", 2)]) (g := (gName 2)) (tt := tYes) rfl nd (pi_tup (pv 1)) (blkOk_by (own := [("_law_row", 2)]) (N := ["_law_deck_here", "_law_leads_here", "_law_row", "_law_drawn", "_law_found", "_law_at", "_law_go"]) (sc := defScope s_boxes) (by decide +kernel)) (fun _ _ _ _ _ => (pg_name (i := 2) nd rfl (by first | exact Or.inl rfl | exact Or.inr rfl))) (fun _ _ _ _ _ => pts_nil) (fun _ _ _ _ _ => (pe_def D_draw (hr.mono (by decide)) hc (by rfl) (pa_cons (pv 0) (pa_cons pe_int pa_nil))))) (pa_cons (pe_lst pa_nil) pa_nil)) rfl)
      (pss_cons (ps_for PassesOwn.never rfl (pi_range1 (by rfl) T.range (pa_cons (pe_callB call_len_seq (by rfl) T.len boot_len (pa_cons (pv 1) pa_nil)) pa_nil)) (pg_name (i := 5) nd rfl (by first | exact Or.inl rfl | exact Or.inr rfl))
        (pss_one (ps_expr (pe_bm PySem.F.plainAttrs_list PySem.F.slot_list_append PySem.F.type_list_append mt_append (pv 4) (pa_cons (pe_ix ix_list (pv 3) (pe_def D_round (hr.mono (by decide)) hc (by rfl) (pa_cons (pv 1) (pa_cons (pv 5) pa_nil))) (fun _ _ => rfl)) pa_nil)))))
      (pss_cons (ps_for PassesOwn.never rfl (pi_range1 (by rfl) T.range (pa_cons (pe_def D_draw (hr.mono (by decide)) hc (by rfl) (pa_cons (pv 0) (pa_cons pe_int pa_nil))) pa_nil)) (pg_name (i := 6) nd rfl (by first | exact Or.inl rfl | exact Or.inr rfl))
        (pss_cons (ps_set (i := 5) nd rfl (by first | exact Or.inl rfl | exact Or.inr rfl) (pe_def D_draw (hr.mono (by decide)) hc (by rfl) (pa_cons (pv 0) (pa_cons (pe_callB call_len_seq (by rfl) T.len boot_len (pa_cons (pv 1) pa_nil)) pa_nil))))
        (pss_one (ps_asg (pe_def D_draw (hr.mono (by decide)) hc (by rfl) (pa_cons (pv 0) (pa_cons pe_int pa_nil))) (pg_sub (pv 4) (pv 5) set_list)))))
      (pss_one (ps_ret (pe_tupleOf (by rfl) T.tuple (pv 4)))))))), ?_⟩
    obtain ⟨ys, hY, lY⟩ := hG.len W
    have Dd : Dk ks H d g (c + 29 + 1) := D
    refine ⟨_, rfl, d, g, 4, _, rfl, Dd, by decide, by decide, fun r H1 r0 r1 D1 M1 => ⟨rfl, _, rfl, ?_⟩⟩
    have step : ∀ (C : Addr) (j : Nat) (Hy : Hp), C ≠ d ∧ C ≠ g → H C = none → j < n → (∃ ws : List Nat, Hy C = some (.lst (ws.map vI)) ∧ ws.length = j ∧ Dk ks Hy d g (c + 29 - j) ∧ Mv d g H Hy) →
        spDrw ks [.ref d, .int 3] Hy (fun v H2 => ∃ acc, H2 C = some (.lst acc) ∧ acc.length < sizeLine ∧ ∃ ws : List Nat, upd H2 C (.lst (acc ++ [v])) C = some (.lst (ws.map vI)) ∧ ws.length = j + 1 ∧ Dk ks (upd H2 C (.lst (acc ++ [v]))) d g (c + 29 - (j + 1)) ∧ Mv d g H (upd H2 C (.lst (acc ++ [v])))) E0 := by
      rintro C j Hy offC nC jn ⟨ws, hC, lw, Dy, My⟩
      have Dy : Dk ks Hy d g (c + 29 - (j + 1) + 1) := Dy.mono (by omega)
      refine ⟨d, g, 3, _, rfl, Dy, by decide, by decide, fun r Hz r0 r1 Dz Mz => ⟨_, Mz.at hC offC, by rw [List.length_map]; exact smallt (by omega), ws ++ [r.toNat], ?_, by rw [List.length_append, lw]; rfl, Dz.mut offC, (My.trans Mz).mut nC⟩⟩
      rw [upd_same, List.map_append, List.map_singleton]
      show some (HO.lst (ws.map vI ++ [V.int r])) = some (HO.lst (ws.map vI ++ [V.int ((r.toNat : Nat) : Int)]))
      rw [Int.toNat_of_nonneg r0]
    refine ite2 (fun w => ?_) (fun w => ?_)
    · refine ⟨_, rfl, a, rfl, ⟨_, SqT.mv3 D M1 hY⟩, fun C nC => ?_⟩
      have offC := D1.off nC
      have nCH := G3.Mv.free3 M1 D1 nC
      refine lc_tup (K := K) (a := a) (xs := ys) (fun j Hy => ∃ ws : List Nat, Hy C = some (.lst (ws.map vI)) ∧ ws.length = j ∧ Dk ks Hy d g (c + 29 - j) ∧ Mv d g H Hy)
        ⟨[], upd_same, rfl, D1.new nC, M1.trans (Mv.of (Same.new nC))⟩ (fun j Hy _ ⟨_, _, _, _, My⟩ => SqT.mv3 D My hY) ?_ ?_
      · rintro j y Hy hj inv
        have jn : j < n := by have := (List.getElem?_eq_some_iff.mp hj).1; omega
        exact ⟨rfl, _, rfl, step C j Hy offC nCH jn inv⟩
      · rintro Hy ⟨ws, hC, lw, Dy, My⟩
        refine .inl ⟨C, _, rfl, tofL hC, fun p np => q p ws _ upd_same (by rw [lw, lY]) ((Dy.new np).mono (by omega)) (My.trans (Mv.of (Same.new np)))⟩
    · refine ⟨_, rfl, a, rfl, ⟨_, SqT.mv3 D M1 hY⟩, fun C nC => ?_⟩
      have offC := D1.off nC
      have nCH := G3.Mv.free3 M1 D1 nC
      refine lc_tup (K := K) (a := a) (xs := ys) (fun j Hy => ∃ ws : List Nat, Hy C = some (.lst (ws.map vI)) ∧ ws.length = j ∧ Dk ks Hy d g (c + 29 - j) ∧ Mv d g H Hy)
        ⟨[], upd_same, rfl, D1.new nC, M1.trans (Mv.of (Same.new nC))⟩ (fun j Hy _ ⟨_, _, _, _, My⟩ => SqT.mv3 D My hY) ?_ ?_
      · rintro j y Hy hj inv
        have jn : j < n := by have := (List.getElem?_eq_some_iff.mp hj).1; omega
        exact ⟨rfl, _, rfl, step C j Hy offC nCH jn inv⟩
      rintro Hy ⟨ws, hC, lw, Dy, My⟩
      rw [lY] at lw Dy
      refine ⟨Nat.zero_le _, fun l nl => ⟨_, _, rfl, ?_⟩⟩
      have offl := Dy.off nl
      have nlH := G3.Mv.free3 My Dy nl
      have nCl : C ≠ l := ne_of_none hC nl
      have Dy' : Dk ks Hy d g (c + 20) := Dy.mono (by omega)
      refine ⟨_, rfl, a, ys, rfl, .inr (Same.tup (Same.new nl) (SqT.mv3 D My hY)), (ys.length : Int), rfl, by omega, by omega, ?_⟩
      rw [Int.toNat_natCast, lY]
      refine for_range (fun i σ Hx => ∃ (B : List Nat) (v5 : Option V), σ = [some (.ref d), some (.ref a), none, some (.ref C), some (.ref l), v5, none] ∧ Hx C = some (.lst (ws.map vI)) ∧ Hx l = some (.lst (B.map vI)) ∧ B.length = i ∧ Dk ks Hx d g (c + 20) ∧ Mv d g H Hx)
        ⟨[], none, rfl, by rw [upd_ne nCl]; exact hC, upd_same, rfl, Dy'.new nl, My.trans (Mv.of (Same.new nl))⟩ ?_ ?_
      · rintro i σ Hx hi ⟨B, v5, rfl, hCx, hlx, lB, Dx, Mx⟩
        have rl := rnd_lt W b0 hi
        have hw : (ws.map vI)[rnd S n i]? = some (vI ws[rnd S n i]) := by
          rw [List.getElem?_map, List.getElem?_eq_getElem (by omega)]; rfl
        refine ⟨_, rfl, ty_l (tofL hlx), _, rfl, _, rfl, _, rfl, a, S, n, b, i, by rw [Int.zero_add]; rfl, hG.mv3 D Mx, W, by omega, b0, hi, C, _, ((rnd S n i : Nat) : Int), _, rfl, rfl, tofL hCx, atI_nat hw, ?_⟩
        refine ⟨l, _, _, rfl, rfl, hlx, by rw [List.length_map]; exact smallt (by omega), B ++ [ws[rnd S n i]], some (.int (0 + (i : Nat))), rfl, by rw [upd_ne nCl]; exact hCx, by rw [upd_same, List.map_append]; rfl, by rw [List.length_append, lB]; rfl, Dx.mut offl, Mx.mut nlH⟩
      rintro σ Hx ⟨B, v5, rfl, hCx, hlx, lB, Dx, Mx⟩
      have Dx : Dk ks Hx d g (c + 19 + 1) := Dx
      refine ⟨_, rfl, d, g, 3, _, rfl, Dx, by decide, by decide, fun r3 H5 r30 r31 D5 M5 => ⟨r3, rfl, by omega, by omega, ?_⟩⟩
      refine for_range (fun i σ Hx => ∃ (B : List Nat) (v5 v6 : Option V), σ = [some (.ref d), some (.ref a), none, some (.ref C), some (.ref l), v5, v6] ∧ Hx l = some (.lst (B.map vI)) ∧ B.length = n ∧ Dk ks Hx d g (c + 19 - 2 * i) ∧ Mv d g H Hx)
        ⟨B, v5, none, rfl, M5.at hlx offl, lB, D5, Mx.trans M5⟩ ?_ ?_
      · rintro i σ Hz hi ⟨B, v5, v6, rfl, hlz, lB, Dz, Mz⟩
        have i3 : i < 3 := by omega
        have Dz : Dk ks Hz d g (c + 19 - 2 * (i + 1) + 1 + 1) := Dz.mono (by omega)
        refine ⟨_, rfl, _, rfl, a, ys, rfl, .inr (SqT.mv3 D Mz hY), d, g, (ys.length : Int), _, rfl, Dz, by omega, Nat.lt_of_lt_of_le (show ((ys.length : Int)).natAbs < 2 ^ 20 by omega) (Nat.pow_le_pow_right (by decide) (by decide)), fun k Hu k0 k1 Du Mu => ?_⟩
        refine ⟨_, rfl, d, g, 4, _, rfl, Du, by decide, by decide, fun z Hv z0 z1 Dv Mv' => ?_⟩
        have hlv := Mv'.at (Mu.at hlz offl) offl
        refine ⟨_, rfl, _, rfl, l, _, k, k.toNat, rfl, rfl, hlv, ixN_of' k0 (by rw [List.length_map]; omega), B.set k.toNat z.toNat, some (.int k), some (.int (0 + (i : Nat))), rfl, ?_, by rw [List.length_set]; exact lB, Dv.mut offl, ((Mz.trans Mu).trans Mv').mut nlH⟩
        rw [upd_same, List.map_set]
        show some (HO.lst ((B.map vI).set k.toNat (V.int z))) = some (HO.lst ((B.map vI).set k.toNat (V.int ((z.toNat : Nat) : Int))))
        rw [Int.toNat_of_nonneg z0]
      rintro σ Hz ⟨B, v5, v6, rfl, hlz, lB, Dz, Mz⟩
      exact ⟨_, rfl, .inl ⟨l, _, rfl, tofL hlz, fun p np => q p B _ upd_same lB ((Dz.new np).mono (by omega)) (Mz.trans (Mv.of (Same.new np)))⟩⟩
abbrev s_due : Stmt := topS 16
theorem sc_due : FnScope ["_law_leads_here", "_law_lots", "_law_at"] ["_law_leads_here", "_law_lots"] (defScope s_due) := ⟨rfl, rfl, rfl, by decide +kernel, rfl, by decide +kernel, by decide +kernel⟩
theorem ok_due {f : Addr} {fd : FuncData} (F : Fun K "_law_due" "_law_due" s_due f fd) (gl : mg "_law_due" = some (.ref f)) (T : Bl mg) (D_reached : DefG P w K mg base 1 "_law_reached" ["_law_leads_here"] (spReached K)) :
    DefG P w K mg base 2 "_law_due" ["_law_leads_here", "_law_lots"] (spDue K) := by
  refine def_mk F gl (F.binds fun _ _ _ _ _ _ us hl => match us, hl with | [_, _], _ => rfl) (okG F sc_due (fun vs H Q E h => ?_) fun cdv A outer s H vs Q E hr hc h => ?_)
  · obtain ⟨a, x, Z, n, b, B, rfl, _⟩ := h
    rfl
  · obtain ⟨a, x, Z, n, b, B, rfl, hG, W, n0, nB, b0, hX, hB, bad, fine⟩ := h
    have nd := sc_due.nd
    refine ⟨_, (pss_cons (ps_for PassesOwn.never rfl (pi_list (pe_def D_reached (hr.mono (by decide)) hc (by rfl) (pa_cons (pv 0) pa_nil))) (pg_name (i := 2) nd rfl (by first | exact Or.inl rfl | exact Or.inr rfl))
        (pss_one (ps_if (pt_cmpR op_ne (pe_ix ix_tup (pv 1) (pv 2) (fun _ _ => rfl)) (pe_ix ix_tup (pv 1) (pe_ix ix_tup (pe_ix ix_tup (pv 0) (pv 2) (fun _ _ => rfl)) pe_int (fun _ _ => rfl)) (fun _ _ => rfl)) (nomark _))
          (pss_one (ps_ret (pv 2)))
          pss_nil)))
      (pss_one (ps_ret pe_non))), ?_⟩
    refine ⟨_, rfl, a, Z, n, b, rfl, hG, W, n0, nB, fun l H1 M s1 hl nl hM rise ndM => ?_⟩
    have Mn : ∀ s ∈ M, s < n := fun s hs => ((hM s).mp hs).lt W n0
    have atB : ∀ s, s < n → atI (B.map vI) (s : Int) = some (vI (bx B s)) := fun s hs => at_vI (bx_at (by omega))
    refine ⟨l, rfl, ⟨_, tofL hl⟩, for_list (K := K) (a := l) (xs := M.map vI) (fun i σ Hx => ∃ v : Option V, σ = [some (.ref a), some (.ref x), v] ∧ Hx = H1 ∧ ∀ j s, j < i → M[j]? = some s → bx B s = bx B (stp Z s 0)) ⟨none, rfl, rfl, fun j s h => absurd h (Nat.not_lt_zero _)⟩ (fun i σ Hx _ ⟨_, _, e, _⟩ => by rw [e]; exact tofL hl) ?_ ?_⟩
    · rintro i y σ Hx hi ⟨v, rfl, rfl, good⟩
      rw [List.getElem?_map] at hi
      obtain ⟨z, hz, rfl⟩ := Option.map_eq_some_iff.mp hi
      have zM : z ∈ M := List.mem_of_getElem? hz
      have zn := Mn z zM
      obtain ⟨xs, r, hA, hat, hR⟩ := (hG.same s1).row W zn
      have zn2 := stp_lt (d := 0) W zn b0
      have hX1 := Same.tup s1 hX
      refine ⟨_, rfl, _, rfl, x, _, (z : Int), _, rfl, rfl, hX1, atB z zn, _, rfl, _, rfl, _, rfl, a, xs, (z : Int), .ref r, rfl, rfl, hA, hat, r, _, ((0 : Nat) : Int), _, rfl, rfl, hR, at_vI (stp_at W zn b0), x, _, ((stp Z z 0 : Nat) : Int), _, rfl, rfl, hX1, atB _ zn2, rfl, _, rfl, ?_⟩
      by_cases ok : bx B z = bx B (stp Z z 0)
      · refine iteNS (by rw [ok]) ⟨_, rfl, rfl, fun j s hj hs => ?_⟩
        rcases Nat.lt_or_ge j i with lt | ge
        · exact good j s lt hs
        · rw [show j = i by omega, hz] at hs
          cases hs
          exact ok
      · have te : (!decide (vI (bx B z) = vI (bx B (stp Z z 0)))) = true := by
          rw [decide_eq_false (fun e => ok (by have := V.int.inj e; omega))]; rfl
        refine iteY2 te ⟨_, rfl, bad z _ ⟨(hM z).mp zM, ok, least_of hM rise hz good⟩ s1⟩
    · rintro σ Hx ⟨v, rfl, rfl, good⟩
      rw [List.length_map] at good
      exact fine (fun s hs => by
        obtain ⟨j, hj⟩ := List.getElem?_of_mem ((hM s).mpr hs)
        exact good j s (List.getElem?_eq_some_iff.mp hj).1 hj) _ s1
end
end NK38
namespace GL
open PySem PySem.Spec PyProof.Rows L2
section
variable {X : Cx}
theorem call_reprO (hc : Calm X.A) (hu : X.A.units + 100 < cLine) : CallR X (.builtin "repr") (fun xs H Q => (xs = [.non] ∧ Q (.str "None") H) ∨ ∃ (a : Addr) (d : PyData) (B k : Nat), xs = [.ref a] ∧ Dp X.K H (.ref a) d ∧ Nice B k d ∧ B ≤ 100000 ∧ k ≤ 60 ∧ Q (.str d.shown) H) := by
  intro pins s σ H xs us Q I r h
  rcases h with ⟨rfl, q⟩ | h
  · cases r with
    | cons r t =>
      cases t
      cases r
      exact PySem.P.repr_of_none ⟨.str _, H, I.tok _, ⟨_, rfl⟩, q⟩
  · exact call_reprN hc hu pins s σ H xs us Q I r h
end
end GL
namespace NK38
open PySem PySem.Spec PyProof.Rows L2 GL G3 MA GX
def spHeard (K : PySem.W.Frag) : Sp := fun vs H Q _ => ∃ (a x : Addr) (S : Tab) (n b : Nat) (B : List Nat), vs = [.int (b : Int), .ref a, .ref x] ∧ Grid K H a S ∧ Wf S n b ∧ 0 < n ∧ n ≤ 1000 ∧ 0 < b ∧ SqT K H x (B.map vI) ∧ B.length = n ∧
  (∀ (s : Nat) (l : Addr) H', Least S B s → Same H H' → H' l = some (.lst [.int (s : Int)]) → Q (.ref l) H') ∧ ((∀ s, Rch S s → bx B s = bx B (stp S s 0)) → ∀ H', Same H H' → Q .non H')
section
variable {P : Program} {w : World} {K : PySem.W.Frag} {mg : Str → Option Value} {base : Heap}
abbrev s_heard : Stmt := topS 17
theorem sc_heard : FnScope ["_law_radix", "_law_leads_here", "_law_lots", "_law_found", "e"] ["_law_radix", "_law_leads_here", "_law_lots"] (defScope s_heard) := ⟨rfl, rfl, rfl, by decide +kernel, rfl, by decide +kernel, by decide +kernel⟩
theorem ok_heard {f C fI CE BE : Addr} {fd fdI : FuncData} (F : Fun K "_law_heard" "_law_heard" s_heard f fd) (gl : mg "_law_heard" = some (.ref f)) (T : Bl mg) (S : Mac K mg C) (MK : Mk K C fI)
    (FI : FnG P w K mg base (L2.CX P w) 3 fI fdI ["self", "base", "steps", "boxes"] (spMX K C CE)) (BI : Binds K fdI ["self", "base", "steps", "boxes"] [])
    (gB : mg "BoxError" = some (.ref BE)) (gE : mg "BadMachine" = some (.ref CE)) (HE : HeldE K CE) (no : PySem.W.findIn K (.ref CE) "state" = some none) (ex : PySem.W.exmOne K (.ref CE) (.ref BE) = some true) :
    DefG P w K mg base 5 "_law_heard" ["_law_radix", "_law_leads_here", "_law_lots"] (spHeard K) := by
  refine def_mk F gl (F.binds fun _ _ _ _ _ _ us hl => match us, hl with | [_, _, _], _ => rfl) (okG F sc_heard (fun vs H Q E h => ?_) fun cdv A outer s H vs Q E hr hc h => ?_)
  · obtain ⟨a, x, Z, n, b, B, rfl, _⟩ := h
    rfl
  · obtain ⟨a, x, Z, n, b, B, rfl, hG, W, n0, nB, b0, hX, hB, bad, fine⟩ := h
    have nd := sc_heard.nd
    refine ⟨_, (pss_cons (ps_set (i := 3) nd rfl (by first | exact Or.inl rfl | exact Or.inr rfl) pe_non)
      (pss_cons (ps_try_as (i := 4) (tb := fun W => tDrop (tMakeS C (spMX K C CE) (WE W) (tCons (tVar 0) (tCons (tVar 1) (tCons (tVar 2) tNil)))))
        (ts := fun a cls d => tAsg (tLst (tCons (tAndV (tCB (fun xs H Q => xs = [.ref a, .ref CE] ∧ cls = .ref CE ∧ (∃ (dd : Addr) (fs : List (Str × V)), d = some dd ∧ H dd = some (.xd fs)) ∧ Q (.bl true) H) (tCons (tVar 4) (tCons (tC (.ref CE)) tNil))) (tHeld CE "state" a cls d (tVar 4))) tNil)) (gName 3))
        (Wout := fun _ _ _ _ => False) rfl rfl nd rfl rfl ⟨by rfl, by decide, Or.inl gB⟩ takes0
        (fun W pn xe tk _ => pss_one (ps_expr (by exact (pe_makeS MK FI (hr.mono (by decide)) hc (by rfl) S.mgC BI (fun σ => passAt tk σ) (by exact (pa_cons (pv 0) (pa_cons (pv 1) (pa_cons (pv 2) pa_nil)))))) (by rfl)))
        (fun a oe cls d pn hz hf => pss_one (ps_set (i := 3) nd rfl (by first | exact Or.inl rfl | exact Or.inr rfl) (by exact (pe_lst (pa_cons (pe_and (pe_callB (call_isE HE hz hf) (by rfl) T.isinstance boot_isinstance (pa_cons (pv 4) (pa_cons (C8.pe_gc (v := .ref CE) (by rfl) ⟨_, gE, rfl⟩) pa_nil))) (pe_one (pe_held HE no hz hf (pv 4)))) pa_nil))))))
      (pss_one (ps_ret (pv 3))))), ?_⟩
    refine ⟨_, rfl, _, rfl, _, rfl, fun p dx np ndx ne => ?_⟩
    have sm : Same H (upd (upd H dx (.own p)) p (.ins C dx [])) := (Same.new ndx).trans (Same.new (by rw [upd_ne ne.symm]; exact np))
    have kp : ∀ H' : Hp, (∀ q o, q ≠ p → upd (upd H dx (.own p)) p (.ins C dx []) q = some o → H' q = some o) → Same H H' := fun H' keep q o hq => keep q o (ne_of_none hq np) (sm _ _ hq)
    refine ⟨p, dx, a, x, b, n, Z, B, rfl, upd_same, hG.same sm, W, n0, nB, b0, Same.tup sm hX, hB, fun s d H' lst keep hd => ?_, fun good H' keep => ⟨rfl, _, rfl, fine good _ (kp _ keep)⟩⟩
    refine ⟨true, ex, fun _ e he => ?_, fun z => nomatch z⟩
    refine ⟨_, rfl, rfl, rfl, ⟨d, _, rfl, hd⟩, true, rfl, iteT ⟨_, rfl, rfl, rfl, d, _, _, rfl, hd, rfl, (show 1 ≤ sizeLine from small (by decide)), fun l nl => ⟨_, rfl, bad s l _ lst ((kp _ keep).trans (Same.new nl)) upd_same⟩⟩⟩
end
end NK38
namespace NK38
open PySem PySem.Spec PyProof.Rows L2 GL G3 MA GX
theorem one_nice {k : Nat} (h : k ≤ 200) : Nice 100 1 (.list [.int (k : Int)]) := by
  have h1 : ∀ d ∈ [PyData.int (k : Int)], Nice 5 0 d := fun d hd => by
    rw [List.mem_singleton.mp hd]
    exact Nice.int (by omega) (by omega)
  exact (Nice.lst (n := 1) h1 (Nat.le_refl _)).mono (by decide) (by decide)
theorem Least.one {S : Tab} {B : List Nat} {s t : Nat} (h : Least S B s) (h' : Least S B t) : s = t := by
  rcases Nat.lt_trichotomy s t with l | l | l
  · exact absurd (h'.2.2 s h.1 l) h.2.1
  · exact l
  · exact absurd (h.2.2 t h'.1 l) h'.2.1
abbrev T1 : Tab := [[0, 0], [0, 1]]
abbrev T2 : Tab := [[0, 1], [0, 1]]
theorem wf1 : Wf T1 2 2 := ⟨rfl, by decide, by decide⟩
theorem wf2 : Wf T2 2 2 := ⟨rfl, by decide, by decide⟩
theorem reach1 : ∀ {s : Nat}, Rch T1 s → s = 0 := fun h => by
  induction h with
  | zero => rfl
  | step _ hx ih =>
    subst ih
    have : _ ∈ [0, 0] := hx
    rcases List.mem_cons.mp this with e | e
    · exact e
    · exact List.mem_singleton.mp e
theorem reach2 : Rch T2 1 := .step .zero (show 1 ∈ [0, 1] by decide)
section
variable {P : Program} {w : World} {K : PySem.W.Frag} {mg : Str → Option Value} {base : Heap}
theorem grid2 {H : Hp} {t1 t2 t : Addr} {r1 r2 : List Nat} (h1 : H t1 = some (.tup (r1.map vI))) (h2 : H t2 = some (.tup (r2.map vI))) (h : H t = some (.tup [.ref t1, .ref t2])) : Grid K H t [r1, r2] :=
  Grid.mk' (rs := [t1, t2]) (tofT h) rfl fun i r w e1 e2 => by
    match i, e1, e2 with
    | 0, e1, e2 =>
      cases e1
      cases e2
      exact tofT h1
    | 1, e1, e2 =>
      cases e1
      cases e2
      exact tofT h2
abbrev s_law : Stmt := topS 18
theorem sc_law : FnScope ["_law_script", "_law_deck_here", "_law_go", "_law_radix", "_law_leads_here", "_law_lots", "_law_due_here"] ["_law_script"] (defScope s_law) := ⟨rfl, rfl, rfl, by decide +kernel, rfl, by decide +kernel, by decide +kernel⟩
theorem ok_law {f : Addr} {fd : FuncData} (F : Fun K "law" "law" s_law f fd) (T : Bl mg) (D_deck : DefG P w K mg base 1 "_law_deck" ["_law_script"] (spDck K ks)) (D_draw : DefG P w K mg base 1 "_law_draw" ["_law_deck_here", "_law_many"] (spDrw ks))
    (D_leads : DefG P w K mg base 2 "_law_leads" ["_law_deck_here", "_law_radix", "_law_many"] (spLeads K)) (D_boxes : DefG P w K mg base 2 "_law_boxes" ["_law_deck_here", "_law_leads_here"] (spBoxes K))
    (D_due : DefG P w K mg base 2 "_law_due" ["_law_leads_here", "_law_lots"] (spDue K)) (D_heard : DefG P w K mg base 5 "_law_heard" ["_law_radix", "_law_leads_here", "_law_lots"] (spHeard K)) :
    FnG P w K mg base CX0 6 f fd ["_law_script"] (spLaw K) := by
  refine okG F sc_law (fun vs H Q E h => ?_) fun cdv A outer s H vs Q E hr hc h => ?_
  · obtain ⟨a, ns, rfl, _⟩ := h
    rfl
  · obtain ⟨a, ns, rfl, hS, hl, q⟩ := h
    have nd := sc_law.nd
    have hu100 : (A.deeper (envOfC "law" (defScope s_law) s.heap.objs.size f cdv)).units + 100 < cLine := by have := hr.un; omega
    refine ⟨_, (pss_cons (ps_set (i := 1) nd rfl (by first | exact Or.inl rfl | exact Or.inr rfl) (pe_def D_deck (hr.mono (by decide)) hc (by rfl) (pa_cons (pv 0) pa_nil)))
      (pss_cons (ps_for PassesOwn.never rfl (pi_range1 (by rfl) T.range (pa_cons pe_int pa_nil)) (pg_name (i := 2) nd rfl (by first | exact Or.inl rfl | exact Or.inr rfl))
        (pss_cons (ps_set (i := 3) nd rfl (by first | exact Or.inl rfl | exact Or.inr rfl) (pe_op op_add pe_int (pe_def D_draw (hr.mono (by decide)) hc (by rfl) (pa_cons (pv 1) (pa_cons pe_int pa_nil)))))
        (pss_cons (ps_set (i := 4) nd rfl (by first | exact Or.inl rfl | exact Or.inr rfl) (pe_def D_leads (hr.mono (by decide)) hc (by rfl) (pa_cons (pv 1) (pa_cons (pv 3) (pa_cons (pe_op op_add pe_int (pe_def D_draw (hr.mono (by decide)) hc (by rfl) (pa_cons (pv 1) (pa_cons pe_int pa_nil)))) pa_nil)))))
        (pss_cons (ps_set (i := 5) nd rfl (by first | exact Or.inl rfl | exact Or.inr rfl) (pe_def D_boxes (hr.mono (by decide)) hc (by rfl) (pa_cons (pv 1) (pa_cons (pv 4) pa_nil))))
        (pss_cons (ps_set (i := 6) nd rfl (by first | exact Or.inl rfl | exact Or.inr rfl) (pe_def D_due (hr.mono (by decide)) hc (by rfl) (pa_cons (pv 4) (pa_cons (pv 5) pa_nil))))
        (pss_one (ps_if (pt_cmpR op_ne (pe_callB (call_reprO hc hu100) (by rfl) T.repr boot_repr (pa_cons (pe_def D_heard (hr.mono (by decide)) hc (by rfl) (pa_cons (pv 3) (pa_cons (pv 4) (pa_cons (pv 5) pa_nil)))) pa_nil)) (pe_callB (call_reprO hc hu100) (by rfl) T.repr boot_repr (pa_cons (pe_ifExp (pt_cmpR op_isN (pv 6) pe_non (nomark _)) pe_non (pe_lst (pa_cons (pv 6) pa_nil))) pa_nil)) (nomark _))
          (pss_one (ps_ret pe_bl))
          pss_nil)))))))
      (pss_cons (ps_set (i := 5) nd rfl (by first | exact Or.inl rfl | exact Or.inr rfl) (pe_tupleOf (by rfl) T.tuple (pe_lst (pa_cons pe_int (pa_cons (pe_op op_add pe_int (pe_def D_draw (hr.mono (by decide)) hc (by rfl) (pa_cons (pv 1) (pa_cons pe_int pa_nil)))) pa_nil)))))
      (pss_cons (ps_if (pt_cmpR op_ne (pe_callB (call_reprO hc hu100) (by rfl) T.repr boot_repr (pa_cons (pe_def D_heard (hr.mono (by decide)) hc (by rfl) (pa_cons pe_int (pa_cons (pe_tup (pa_cons (pe_tup (pa_cons pe_int (pa_cons pe_int pa_nil))) (pa_cons (pe_tup (pa_cons pe_int (pa_cons pe_int pa_nil))) pa_nil))) (pa_cons (pv 5) pa_nil)))) pa_nil)) pe_str (nomark _))
        (pss_one (ps_ret pe_bl))
        pss_nil)
      (pss_one (ps_ret (pe_cmpR op_eq (pe_callB (call_reprO hc hu100) (by rfl) T.repr boot_repr (pa_cons (pe_def D_heard (hr.mono (by decide)) hc (by rfl) (pa_cons pe_int (pa_cons (pe_tup (pa_cons (pe_tup (pa_cons pe_int (pa_cons pe_int pa_nil))) (pa_cons (pe_tup (pa_cons pe_int (pa_cons pe_int pa_nil))) pa_nil))) (pa_cons (pv 5) pa_nil)))) pa_nil)) pe_str (nomark _)))))))), ?_⟩
    refine ⟨_, rfl, a, ns, rfl, hS, hl, fun d g H1 s1 nd1 ng1 D1 => ?_⟩
    refine ⟨8, rfl, by decide, by decide, for_range (fun i σ Hx => ∃ v2 v3 v4 v5 v6 : Option V, σ = [some (.ref a), some (.ref d), v2, v3, v4, v5, v6] ∧ Dk ks Hx d g (1000 * (1000 - i))) ⟨none, none, none, none, none, rfl, D1.mono (by decide)⟩ ?_ ?_⟩
    · rintro i σ Hx hi ⟨v2, v3, v4, v5, v6, rfl, Dx⟩
      have hi8 : i < 8 := hi
      obtain ⟨c, ec⟩ : ∃ c, c = 1000 * (1000 - (i + 1)) := ⟨_, rfl⟩
      have Dx : Dk ks Hx d g (c + 200 + 1) := Dx.mono (by omega)
      refine ⟨_, rfl, d, g, 5, _, rfl, Dx, by decide, by decide, fun r H2 r0 r1 D2 M2 => ⟨2, r, rfl, rfl, ?_⟩⟩
      obtain ⟨rn, rfl⟩ : ∃ k : Nat, r = (k : Int) := ⟨r.toNat, by omega⟩
      have D2 : Dk ks H2 d g (c + 199 + 1) := D2
      refine ⟨_, rfl, _, rfl, _, rfl, d, g, 6, _, rfl, D2, by decide, by decide, fun m H3 m0 m1 D3 M3 => ⟨1, m, rfl, rfl, ?_⟩⟩
      obtain ⟨mn, rfl⟩ : ∃ k : Nat, m = (k : Int) := ⟨m.toNat, by omega⟩
      refine ⟨d, g, 2 + rn, 1 + mn, c + 100, rfl, D3.mono (by omega), by omega, by omega, by omega, fun a4 S H4 hG W D4 M4 => ?_⟩
      refine ⟨_, rfl, _, rfl, d, g, a4, S, 1 + mn, 2 + rn, c, rfl, D4.mono (by omega), hG, W, by omega, by omega, by omega, fun px B H5 hB lB D5 M5 => ?_⟩
      have hG5 := hG.mv3 D4 M5
      refine ⟨_, rfl, _, rfl, a4, px, S, 1 + mn, 2 + rn, B, rfl, hG5, W, by omega, by omega, by omega, tofT hB, lB, fun s6 H6 lst t6 => ?_, fun good H6 t6 => ?_⟩
      · have hG6 := hG5.same t6
        have hB6 := t6 _ _ hB
        have sl : s6 < 1 + mn := lst.1.lt W (by omega)
        refine ⟨_, rfl, _, rfl, _, rfl, a4, px, S, 1 + mn, 2 + rn, B, rfl, hG6, W, by omega, by omega, by omega, tofT hB6, lB, fun s7 l H7 lst' t7 hl7 => ?_, fun good => absurd (good _ lst.1) lst.2.1⟩
        have e67 := Least.one lst' lst
        subst e67
        refine .inr ⟨l, _, _, _, rfl, .lst (tofL hl7) (.cons (.int _) .nil), one_nice (by omega), by decide, by decide, _, rfl, rfl, _, rfl, ?_⟩
        refine iteF ⟨_, rfl, (show 1 ≤ sizeLine from small (by decide)), fun l2 nl2 => .inr ⟨l2, _, _, _, rfl, .lst (tofL upd_same) (.cons (.int _) .nil), one_nice (by omega), by decide, by decide, rfl, _, rfl, iteNS rfl ?_⟩⟩
        exact ⟨_, _, _, _, _, rfl, ((D5.same t6).same (t7.trans (Same.new nl2))).mono (by omega)⟩
      · have hG6 := hG5.same t6
        have hB6 := t6 _ _ hB
        refine ⟨_, rfl, _, rfl, _, rfl, a4, px, S, 1 + mn, 2 + rn, B, rfl, hG6, W, by omega, by omega, by omega, tofT hB6, lB, fun s7 l H7 lst' t7 hl7 => absurd (good _ lst'.1) lst'.2.1, fun _ H7 t7 => ?_⟩
        refine .inl ⟨rfl, _, rfl, rfl, _, rfl, ?_⟩
        refine iteT (.inl ⟨rfl, rfl, _, rfl, iteNS rfl ?_⟩)
        exact ⟨_, _, _, _, _, rfl, ((D5.same t6).same t7).mono (by omega)⟩
    · rintro σ Hx ⟨v2, v3, v4, v5, v6, rfl, Dx⟩
      have Dx : Dk ks Hx d g (1 + 1) := Dx.mono (by decide)
      refine ⟨_, rfl, d, g, 3, _, rfl, Dx, by decide, by decide, fun z H2 z0 z1 D2 M2 => ⟨1, z, rfl, rfl, (show 2 ≤ sizeLine from small (by decide)), fun l nl => .inl ⟨l, _, rfl, tofL upd_same, fun px npx => ?_⟩⟩⟩
      obtain ⟨zn, rfl⟩ : ∃ k : Nat, z = (k : Int) := ⟨z.toNat, by omega⟩
      have hX : upd (upd H2 l (.lst [.int 0, .int (1 + (zn : Int))])) px (.tup [.int 0, .int (1 + (zn : Int))]) px = some (.tup (([0, 1 + zn] : List Nat).map vI)) := upd_same
      revert hX
      generalize upd (upd H2 l (.lst [.int 0, .int (1 + (zn : Int))])) px (.tup [.int 0, .int (1 + (zn : Int))]) = H3
      intro hX
      have good1 : ∀ s, Rch T1 s → bx [0, 1 + zn] s = bx [0, 1 + zn] (stp T1 s 0) := fun s hs => by
        rw [reach1 hs]; rfl
      have one2 : bx [0, 1 + zn] 1 ≠ bx [0, 1 + zn] (stp T2 1 0) := fun e => by
        have e' : 1 + zn = 0 := e
        omega
      have lst2 : Least T2 [0, 1 + zn] 1 := ⟨reach2, one2, fun t _ lt => by
        rw [show t = 0 by omega]; rfl⟩
      refine ⟨(show 2 ≤ sizeLine from small (by decide)), fun t1 n1 => ⟨(show 2 ≤ sizeLine from small (by decide)), fun t2 n2 => ⟨(show 2 ≤ sizeLine from small (by decide)), fun t n3 => ?_⟩⟩⟩
      have u1 := Same.new (o := .tup [.int 0, .int 0]) n1
      have u2 := Same.new (o := .tup [.int 0, .int 1]) n2
      have u3 := Same.new (o := .tup [.ref t1, .ref t2]) n3
      refine ⟨_, rfl, t, px, T1, 2, 2, [0, 1 + zn], rfl, grid2 (u3 _ _ (u2 _ _ upd_same)) (u3 _ _ upd_same) upd_same, wf1, by decide, by decide, by decide, tofT (u3 _ _ (u2 _ _ (u1 _ _ hX))), rfl, fun s l H' lst _ _ => absurd (good1 s lst.1) lst.2.1, fun _ H4 s4 => ?_⟩
      have hX4 := s4 _ _ (u3 _ _ (u2 _ _ (u1 _ _ hX)))
      refine .inl ⟨rfl, rfl, _, rfl, iteNS rfl ?_⟩
      refine ⟨(show 2 ≤ sizeLine from small (by decide)), fun t1 n1 => ⟨(show 2 ≤ sizeLine from small (by decide)), fun t2 n2 => ⟨(show 2 ≤ sizeLine from small (by decide)), fun t n3 => ?_⟩⟩⟩
      have u1 := Same.new (o := .tup [.int 0, .int 1]) n1
      have u2 := Same.new (o := .tup [.int 0, .int 1]) n2
      have u3 := Same.new (o := .tup [.ref t1, .ref t2]) n3
      refine ⟨_, rfl, t, px, T2, 2, 2, [0, 1 + zn], rfl, grid2 (u3 _ _ (u2 _ _ upd_same)) (u3 _ _ upd_same) upd_same, wf2, by decide, by decide, by decide, tofT (u3 _ _ (u2 _ _ (u1 _ _ hX4))), rfl, fun s l H' lst _ hl => ?_, fun good => absurd (good 1 reach2) one2⟩
      have e1 := Least.one lst lst2
      subst e1
      refine .inr ⟨l, _, _, _, rfl, .lst (tofL hl) (.cons (.int _) .nil), one_nice (k := 1) (by decide), by decide, by decide, rfl, ?_⟩
      have sh : (PyData.list [PyData.int ((1 : Nat) : Int)]).shown = "[1]" := by decide +kernel
      rw [sh, decide_eq_true rfl]
      exact q _
end
end NK38
namespace NK38
open PySem PySem.Spec PyProof.Rows L2 GL G3 MA GX
theorem exm_two {K : PySem.W.Frag} {S B : Addr} (h1 : PySem.W.subIn K (.ref B) (.type "BaseException") = some true) (h2 : PySem.W.isClsIn K B = true) (h3 : PySem.W.typeIn K (.ref B) = some (.type "type")) (h4 : PySem.W.subIn K (.ref S) (.ref B) = some true) :
    PySem.W.exmOne K (.ref S) (.ref B) = some true := by
  have z : (PySem.W.clsIn K B).isSome = true := h2
  unfold PySem.W.exmOne
  rw [if_pos (by rw [h1]; rfl)]
  show (if ((PySem.W.clsIn K B).isSome && PySem.W.typeIn K (.ref B) == some (.type "type")) = true then PySem.W.subIn K (.ref S) (.ref B) else none) = some true
  rw [if_pos (by rw [z, h3]; rfl)]
  exact h4
theorem all_mk {l : PySem.W.OpenLaw} {w : World} {K : PySem.W.Frag} {h : Heap} {mg : Str → Option Value} {fa f_draw f_deck f_rs f_leads f_round f_reached f_boxes f_due f_heard f_law : Addr} (X : K.In h) (G : h.Ns mainGlobals mg) (hfa : mg "law" = some (.ref fa))
    {od_draw an_draw : Option Addr} {sl_draw : Array (Option Value)} {oc_draw kV_draw dc_draw pm_draw cd_draw ct_draw : Value}
    {od_deck an_deck : Option Addr} {sl_deck : Array (Option Value)} {oc_deck kV_deck dc_deck pm_deck cd_deck ct_deck : Value}
    {od_rs an_rs : Option Addr} {sl_rs : Array (Option Value)} {oc_rs kV_rs dc_rs pm_rs cd_rs ct_rs : Value}
    {od_leads an_leads : Option Addr} {sl_leads : Array (Option Value)} {oc_leads kV_leads dc_leads pm_leads cd_leads ct_leads : Value}
    {od_round an_round : Option Addr} {sl_round : Array (Option Value)} {oc_round kV_round dc_round pm_round cd_round ct_round : Value}
    {od_reached an_reached : Option Addr} {sl_reached : Array (Option Value)} {oc_reached kV_reached dc_reached pm_reached cd_reached ct_reached : Value}
    {od_boxes an_boxes : Option Addr} {sl_boxes : Array (Option Value)} {oc_boxes kV_boxes dc_boxes pm_boxes cd_boxes ct_boxes : Value}
    {od_due an_due : Option Addr} {sl_due : Array (Option Value)} {oc_due kV_due dc_due pm_due cd_due ct_due : Value}
    {od_heard an_heard : Option Addr} {sl_heard : Array (Option Value)} {oc_heard kV_heard dc_heard pm_heard cd_heard ct_heard : Value}
    {od_law an_law : Option Addr} {sl_law : Array (Option Value)} {oc_law kV_law dc_law pm_law cd_law ct_law : Value}
    {C fI CE BE fB : Addr} {nmE qE : Str} {NE : Addr} {bsE : List Value} {snE : List Str} {subE : List Value} {abE : Bool} {colE : Option Bool} {ddE : Option Addr} {e0 e1 e2 e3 e5 : Option Value}
    {odI anI : Option Addr} {slI : Array (Option Value)} {ocI kVI dcI pmI cdI ctI : Value}
    {odB anB : Option Addr} {slB : Array (Option Value)} {ocB kVB dcB pmB cdB ctB : Value}
    (a_draw : PySem.W.nsIn K mainGlobals "_law_draw" = some (some (.ref f_draw)))
    (l_draw : K.lookup f_draw = some ⟨oc_draw, od_draw, .func (PySem.W.fnOf "_law_draw" "_law_draw" (defArgs s_draw) (defBody s_draw) (defScope s_draw) .none kV_draw dc_draw pm_draw an_draw cd_draw ct_draw), sl_draw⟩)
    (c_draw : PySem.W.codeIn K cd_draw "_law_draw" = true) (k_draw : PySem.W.keepIn K (.ref f_draw) = true)
    (a_deck : PySem.W.nsIn K mainGlobals "_law_deck" = some (some (.ref f_deck)))
    (l_deck : K.lookup f_deck = some ⟨oc_deck, od_deck, .func (PySem.W.fnOf "_law_deck" "_law_deck" (defArgs s_deck) (defBody s_deck) (defScope s_deck) .none kV_deck dc_deck pm_deck an_deck cd_deck ct_deck), sl_deck⟩)
    (c_deck : PySem.W.codeIn K cd_deck "_law_deck" = true) (k_deck : PySem.W.keepIn K (.ref f_deck) = true)
    (a_rs : PySem.W.nsIn K mainGlobals "_reached_states" = some (some (.ref f_rs)))
    (l_rs : K.lookup f_rs = some ⟨oc_rs, od_rs, .func (PySem.W.fnOf "_reached_states" "_reached_states" (defArgs s_reached_states) (defBody s_reached_states) (defScope s_reached_states) .none kV_rs dc_rs pm_rs an_rs cd_rs ct_rs), sl_rs⟩)
    (c_rs : PySem.W.codeIn K cd_rs "_reached_states" = true) (k_rs : PySem.W.keepIn K (.ref f_rs) = true)
    (a_leads : PySem.W.nsIn K mainGlobals "_law_leads" = some (some (.ref f_leads)))
    (l_leads : K.lookup f_leads = some ⟨oc_leads, od_leads, .func (PySem.W.fnOf "_law_leads" "_law_leads" (defArgs s_leads) (defBody s_leads) (defScope s_leads) .none kV_leads dc_leads pm_leads an_leads cd_leads ct_leads), sl_leads⟩)
    (c_leads : PySem.W.codeIn K cd_leads "_law_leads" = true) (k_leads : PySem.W.keepIn K (.ref f_leads) = true)
    (a_round : PySem.W.nsIn K mainGlobals "_law_round" = some (some (.ref f_round)))
    (l_round : K.lookup f_round = some ⟨oc_round, od_round, .func (PySem.W.fnOf "_law_round" "_law_round" (defArgs s_round) (defBody s_round) (defScope s_round) .none kV_round dc_round pm_round an_round cd_round ct_round), sl_round⟩)
    (c_round : PySem.W.codeIn K cd_round "_law_round" = true) (k_round : PySem.W.keepIn K (.ref f_round) = true)
    (a_reached : PySem.W.nsIn K mainGlobals "_law_reached" = some (some (.ref f_reached)))
    (l_reached : K.lookup f_reached = some ⟨oc_reached, od_reached, .func (PySem.W.fnOf "_law_reached" "_law_reached" (defArgs s_reached) (defBody s_reached) (defScope s_reached) .none kV_reached dc_reached pm_reached an_reached cd_reached ct_reached), sl_reached⟩)
    (c_reached : PySem.W.codeIn K cd_reached "_law_reached" = true) (k_reached : PySem.W.keepIn K (.ref f_reached) = true)
    (a_boxes : PySem.W.nsIn K mainGlobals "_law_boxes" = some (some (.ref f_boxes)))
    (l_boxes : K.lookup f_boxes = some ⟨oc_boxes, od_boxes, .func (PySem.W.fnOf "_law_boxes" "_law_boxes" (defArgs s_boxes) (defBody s_boxes) (defScope s_boxes) .none kV_boxes dc_boxes pm_boxes an_boxes cd_boxes ct_boxes), sl_boxes⟩)
    (c_boxes : PySem.W.codeIn K cd_boxes "_law_boxes" = true) (k_boxes : PySem.W.keepIn K (.ref f_boxes) = true)
    (a_due : PySem.W.nsIn K mainGlobals "_law_due" = some (some (.ref f_due)))
    (l_due : K.lookup f_due = some ⟨oc_due, od_due, .func (PySem.W.fnOf "_law_due" "_law_due" (defArgs s_due) (defBody s_due) (defScope s_due) .none kV_due dc_due pm_due an_due cd_due ct_due), sl_due⟩)
    (c_due : PySem.W.codeIn K cd_due "_law_due" = true) (k_due : PySem.W.keepIn K (.ref f_due) = true)
    (a_heard : PySem.W.nsIn K mainGlobals "_law_heard" = some (some (.ref f_heard)))
    (l_heard : K.lookup f_heard = some ⟨oc_heard, od_heard, .func (PySem.W.fnOf "_law_heard" "_law_heard" (defArgs s_heard) (defBody s_heard) (defScope s_heard) .none kV_heard dc_heard pm_heard an_heard cd_heard ct_heard), sl_heard⟩)
    (c_heard : PySem.W.codeIn K cd_heard "_law_heard" = true) (k_heard : PySem.W.keepIn K (.ref f_heard) = true)
    (a_law : PySem.W.nsIn K mainGlobals "law" = some (some (.ref f_law)))
    (l_law : K.lookup f_law = some ⟨oc_law, od_law, .func (PySem.W.fnOf "law" "law" (defArgs s_law) (defBody s_law) (defScope s_law) .none kV_law dc_law pm_law an_law cd_law ct_law), sl_law⟩)
    (c_law : PySem.W.codeIn K cd_law "law" = true) (k_law : PySem.W.keepIn K (.ref f_law) = true)
    (aC : PySem.W.nsIn K mainGlobals "Machine" = some (some (.ref C)))
    (aI : PySem.W.findIn K (.ref C) "__init__" = some (some (.ref fI))) (iI : PySem.W.isFn K (.ref fI) = true) (lI : K.lookup fI = some ⟨ocI, odI, .func (PySem.W.fnOf "__init__" "Machine.__init__" (defArgs s_Machine_init) (defBody s_Machine_init) (defScope s_Machine_init) .none kVI dcI pmI anI cdI ctI), slI⟩) (cI : PySem.W.codeIn K cdI "Machine.__init__" = true) (kI : PySem.W.keepIn K (.ref fI) = true)
    (pg : PySem.W.plainGet K C Str.empty = true) (hd : PySem.W.hasDictIn K C = true) (po : PySem.W.plainOver K C = true) (sa : PySem.W.findIn K (.ref C) "__setattr__" = some (some (.builtin "object.__setattr__"))) (mk : PySem.W.makesIn K C = true) (kc : PySem.W.keepIn K (.ref C) = true)
    (nB : PySem.W.findIn K (.ref C) "base" = some none) (nS : PySem.W.findIn K (.ref C) "steps" = some none) (nX : PySem.W.findIn K (.ref C) "boxes" = some none) (nM : PySem.W.findIn K (.ref C) "many" = some none)
    (aE : PySem.W.nsIn K mainGlobals "BadMachine" = some (some (.ref CE)))
    (xE : K.lookup CE = some (excClassObj nmE qE CE NE bsE [.ref BE, .type "Exception", .type "BaseException", .type "object"] true snE subE abE colE ddE e0 e1 e2 e3 e5 "Exception.__new__"))
    (saE : PySem.W.findIn K (.ref CE) "__setattr__" = some (some (.builtin "object.__setattr__"))) (bE : PySem.W.subIn K (.ref CE) (.type "BaseException") = some true) (tyE : PySem.W.typeIn K (.ref CE) = some (.type "type")) (kE : PySem.W.keepIn K (.ref CE) = true)
    (icE : PySem.W.isClsIn K CE = true) (gaE : PySem.W.findIn K (.ref CE) "__getattribute__" = some (some (.builtin "BaseException.__getattribute__"))) (ggE : PySem.W.findIn K (.ref CE) "__getattr__" = some none) (hdE : PySem.W.hasDictIn K CE = true)
    (clE : PySem.W.findIn K (.ref CE) "__class__" = some (some (.builtin "object.__class__"))) (gtE : PySem.W.specialIn K (.builtin "object.__class__") "__get__" = some (some (.builtin "getset_descriptor.__get__"))) (tkE : PySem.W.takesIn K (.builtin "object.__class__") = some true) (obE : PySem.W.mroIn K CE (.type "object") = some true)
    (noE : PySem.W.findIn K (.ref CE) "state" = some none) (aB : PySem.W.findIn K (.ref CE) "__init__" = some (some (.ref fB))) (tB : PySem.W.typeIn K (.ref fB) = some (.type "function")) (lB : K.lookup fB = some ⟨ocB, odB, .func (PySem.W.fnOf "__init__" "BadMachine.__init__" (defArgs s_BadMachine_init) (defBody s_BadMachine_init) (defScope s_BadMachine_init) .none kVB dcB pmB anB cdB ctB), slB⟩) (cB : PySem.W.codeIn K cdB "BadMachine.__init__" = true) (kB : PySem.W.keepIn K (.ref fB) = true)
    (aQ : PySem.W.nsIn K mainGlobals "BoxError" = some (some (.ref BE))) (gaQ : PySem.W.specialIn K (.ref BE) "__getattribute__" = some (some (.builtin "type.__getattribute__"))) (rdQ : PySem.W.readsIn K BE (.type "type") = true) (fiQ : PySem.W.findCls K (.ref BE) (.type "type") "__init__" = some (.val (.builtin "Exception.__init__")))
    (bQ : PySem.W.subIn K (.ref BE) (.type "BaseException") = some true) (icQ : PySem.W.isClsIn K BE = true) (tyQ : PySem.W.typeIn K (.ref BE) = some (.type "type")) (suQ : PySem.W.subIn K (.ref CE) (.ref BE) = some true)
    (z_int : PySem.W.nsIn K mainGlobals "int" = some none)
    (z_len : PySem.W.nsIn K mainGlobals "len" = some none)
    (z_range : PySem.W.nsIn K mainGlobals "range" = some none)
    (z_list : PySem.W.nsIn K mainGlobals "list" = some none)
    (z_repr : PySem.W.nsIn K mainGlobals "repr" = some none)
    (z_max : PySem.W.nsIn K mainGlobals "max" = some none)
    (z_min : PySem.W.nsIn K mainGlobals "min" = some none)
    (z_sorted : PySem.W.nsIn K mainGlobals "sorted" = some none)
    (z_tuple : PySem.W.nsIn K mainGlobals "tuple" = some none)
    (z_isinstance : PySem.W.nsIn K mainGlobals "isinstance" = some none) :
    ∃ fd : FuncData, (∀ (s : Shared) (v : Value), BindsTo s fd ⟨[v], []⟩ [("_law_script", v)]) ∧ ∀ base : Heap, K.In base → base.Ns mainGlobals mg → FnG l.prog w K mg base CX0 6 fa fd ["_law_script"] (spLaw K) := by
  have e := hfa.symm.trans (PySem.W.mg_of X G a_law)
  cases e
  have F_draw := fun_mk (st := s_draw) l_draw c_draw k_draw
  have g_draw := PySem.W.mg_of X G a_draw
  have F_deck := fun_mk (st := s_deck) l_deck c_deck k_deck
  have g_deck := PySem.W.mg_of X G a_deck
  have F_rs := fun_mk (st := s_reached_states) l_rs c_rs k_rs
  have g_rs := PySem.W.mg_of X G a_rs
  have F_leads := fun_mk (st := s_leads) l_leads c_leads k_leads
  have g_leads := PySem.W.mg_of X G a_leads
  have F_round := fun_mk (st := s_round) l_round c_round k_round
  have g_round := PySem.W.mg_of X G a_round
  have F_reached := fun_mk (st := s_reached) l_reached c_reached k_reached
  have g_reached := PySem.W.mg_of X G a_reached
  have F_boxes := fun_mk (st := s_boxes) l_boxes c_boxes k_boxes
  have g_boxes := PySem.W.mg_of X G a_boxes
  have F_due := fun_mk (st := s_due) l_due c_due k_due
  have g_due := PySem.W.mg_of X G a_due
  have F_heard := fun_mk (st := s_heard) l_heard c_heard k_heard
  have g_heard := PySem.W.mg_of X G a_heard
  have F_law := fun_mk (st := s_law) l_law c_law k_law
  have T : Bl mg := ⟨PySem.W.mg_none_of X G z_int, PySem.W.mg_none_of X G z_len, PySem.W.mg_none_of X G z_range, PySem.W.mg_none_of X G z_list, PySem.W.mg_none_of X G z_repr, PySem.W.mg_none_of X G z_max, PySem.W.mg_none_of X G z_min, PySem.W.mg_none_of X G z_sorted, PySem.W.mg_none_of X G z_tuple, PySem.W.mg_none_of X G z_isinstance⟩
  refine ⟨PySem.W.fnOf "law" "law" (defArgs s_law) (defBody s_law) (defScope s_law) .none kV_law dc_law pm_law an_law cd_law ct_law, fun s v => .of_eq rfl, fun base _ _ => ?_⟩
  have S : Mac K mg C := ⟨⟨pg, hd, po, sa⟩, nB, nS, nX, nM, PySem.W.mg_of X G aC⟩
  have TE : OexE K CE BE := ⟨⟨nmE, qE, NE, bsE, snE, subE, abE, colE, ddE, e0, e1, e2, e3, e5, xE⟩, saE, bE, tyE, kE⟩
  have HE : HeldE K CE := ⟨icE, gaE, ggE, bE, hdE, clE, gtE, tkE, obE⟩
  have gE := PySem.W.mg_of X G aE
  have gQ := PySem.W.mg_of X G aQ
  have ex := exm_two bQ icQ tyQ suQ
  have FI0 := fun_mk (st := s_Machine_init) lI cI kI
  have FB0 := fun_mk (st := s_BadMachine_init) lB cB kB
  have D_draw := ok_draw (P := l.prog) (w := w) (base := base) F_draw g_draw T
  have D_deck := ok_deck (P := l.prog) (w := w) (base := base) F_deck g_deck T
  have D_rs := ok_reached_states (P := l.prog) (w := w) (base := base) F_rs g_rs T
  have D_round := ok_round (P := l.prog) (w := w) (base := base) F_round g_round T
  have D_due := ok_due F_due g_due T (ok_reached (P := l.prog) (w := w) (base := base) F_reached g_reached T)
  have FB := ok_bad (P := l.prog) (w := w) (base := base) FB0 TE noE gQ gaQ rdQ fiQ
  have FI := ok_init FI0 S T D_rs TE gE aB tB FB (FB0.binds fun _ _ _ _ _ _ us hl => match us, hl with | [_, _], _ => rfl)
  have D_heard := ok_heard F_heard g_heard T S ⟨mk, aI, iI, kc⟩ FI (FI0.binds fun _ _ _ _ _ _ us hl => match us, hl with | [_, _, _, _], _ => rfl) gQ gE HE noE ex
  exact ok_law F_law T D_deck D_draw (ok_leads F_leads g_leads T D_draw) (ok_boxes F_boxes g_boxes T D_draw D_round) D_due D_heard
end NK38
open PySem PySem.W PyProof.Rows
set_option maxRecDepth 100000 in
set_option maxHeartbeats 0 in
theorem PySem.Challenge.cw_whateverboxes_k38_machines_that_are_refu_holds : PySem.Challenge.rw_whateverboxes_k38_machines_that_are_refu.Holds := by
  w_on; o_law; k_head; (case hw => w_witness2)
  k_fill
  refine G3.walk (k := 6) (l := PySem.Challenge.rw_whateverboxes_k38_machines_that_are_refu) rfl rfl ⟨rfl, by decide, by decide⟩ (fun w h Y => PySem.W.kIn_of Y) ?F
  case F =>
    intro w mg fa h KX G hmg
    refine' NK38.all_mk KX G hmg ?a_draw ?l_draw ?c_draw ?k_draw ?a_deck ?l_deck ?c_deck ?k_deck ?a_rs ?l_rs ?c_rs ?k_rs ?a_leads ?l_leads ?c_leads ?k_leads ?a_round ?l_round ?c_round ?k_round ?a_reached ?l_reached ?c_reached ?k_reached ?a_boxes ?l_boxes ?c_boxes ?k_boxes ?a_due ?l_due ?c_due ?k_due ?a_heard ?l_heard ?c_heard ?k_heard ?a_law ?l_law ?c_law ?k_law ?aC ?aI ?iI ?lI ?cI ?kI ?pg ?hd ?po ?sa ?mk ?kc ?nB ?nS ?nX ?nM ?aE ?xE ?saE ?bE ?tyE ?kE ?icE ?gaE ?ggE ?hdE ?clE ?gtE ?tkE ?obE ?noE ?aB ?tB ?lB ?cB ?kB ?aQ ?gaQ ?rdQ ?fiQ ?bQ ?icQ ?tyQ ?suQ ?z_int ?z_len ?z_range ?z_list ?z_repr ?z_max ?z_min ?z_sorted ?z_tuple ?z_isinstance
    (case a_draw => k_is)
    (case l_draw => k_is)
    (case c_draw => k_is)
    (case k_draw => k_is)
    (case a_deck => k_is)
    (case l_deck => k_is)
    (case c_deck => k_is)
    (case k_deck => k_is)
    (case a_rs => k_is)
    (case l_rs => k_is)
    (case c_rs => k_is)
    (case k_rs => k_is)
    (case a_leads => k_is)
    (case l_leads => k_is)
    (case c_leads => k_is)
    (case k_leads => k_is)
    (case a_round => k_is)
    (case l_round => k_is)
    (case c_round => k_is)
    (case k_round => k_is)
    (case a_reached => k_is)
    (case l_reached => k_is)
    (case c_reached => k_is)
    (case k_reached => k_is)
    (case a_boxes => k_is)
    (case l_boxes => k_is)
    (case c_boxes => k_is)
    (case k_boxes => k_is)
    (case a_due => k_is)
    (case l_due => k_is)
    (case c_due => k_is)
    (case k_due => k_is)
    (case a_heard => k_is)
    (case l_heard => k_is)
    (case c_heard => k_is)
    (case k_heard => k_is)
    (case a_law => k_is)
    (case l_law => k_is)
    (case c_law => k_is)
    (case k_law => k_is)
    (case aC => k_is)
    (case aI => k_is)
    (case iI => k_is)
    (case lI => k_is)
    (case cI => k_is)
    (case kI => k_is)
    (case pg => k_is)
    (case hd => k_is)
    (case po => k_is)
    (case sa => k_is)
    (case mk => k_is)
    (case kc => k_is)
    (case nB => k_is)
    (case nS => k_is)
    (case nX => k_is)
    (case nM => k_is)
    (case aE => k_is)
    (case xE => k_is)
    (case saE => k_is)
    (case bE => k_is)
    (case tyE => k_is)
    (case kE => k_is)
    (case icE => k_is)
    (case gaE => k_is)
    (case ggE => k_is)
    (case hdE => k_is)
    (case clE => k_is)
    (case gtE => k_is)
    (case tkE => k_is)
    (case obE => k_is)
    (case noE => k_is)
    (case aB => k_is)
    (case tB => k_is)
    (case lB => k_is)
    (case cB => k_is)
    (case kB => k_is)
    (case aQ => k_is)
    (case gaQ => k_is)
    (case rdQ => k_is)
    (case fiQ => k_is)
    (case bQ => k_is)
    (case icQ => k_is)
    (case tyQ => k_is)
    (case suQ => k_is)
    (case z_int => k_is)
    (case z_len => k_is)
    (case z_range => k_is)
    (case z_list => k_is)
    (case z_repr => k_is)
    (case z_max => k_is)
    (case z_min => k_is)
    (case z_sorted => k_is)
    (case z_tuple => k_is)
    (case z_isinstance => k_is)
