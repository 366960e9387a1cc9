import PyProof.Rows.All
import Wide.All
import OpenK.AllK
import Wide.FinOn
import HandS.ForMost
import HandS.Wide
import HandS.Style
import HandS.Zip
import HandS.MakeKwOnly
import HandS.MakeKw
import HandS.Walk
import HandS.TupAny
import HandS.Star
import HandS.Conv
import HandS.TupMul
import KE.KRevSl
import HandS.Strs
import HandS.Codes
import PyProof.Draws
import HandS.Iter
import HandS.Text
import HandS.WordsList
import HandS.IsInst
import PySem.Challenge.RW_whateverboxes_k10_joined_and_turned
set_option Elab.async false
set_option linter.all false
set_option maxRecDepth 100000
set_option maxHeartbeats 4000000
namespace GL
open PySem PySem.Spec PyProof.Rows L2

/-- nothing that guards itself against its own turn is under way -/
def Calm (A : Around) : Prop := A.guards = some []
theorem Calm.deeper {A : Around} (g : Calm A) (env : Env) : Calm (A.deeper env) := g
theorem Calm.make {A : Around} (g : Calm A) (C : Addr) (us : List Value) (kw : List (Str × Value)) : Calm (A.under (.builtin "type.__call__" ⟨.ref C :: us, kw⟩)) := by
  unfold Calm at *
  simp only [Around.under, Code.guards, Code.isGuard, guardIds]
  first | exact g | (rw [g]; rfl) | (simp [g])

/-- a def keeps its promise wherever no guard is under way -/
structure FnG (P : Program) (w : World) (K : PySem.W.Frag) (mg : Str → Option Value) (base : Heap) (CX : CXT) (k : Nat) (f : Addr) (fd : FuncData) (ps : List Str) (sp : Sp) : Prop where
  len : ∀ vs H Q E, sp vs H Q E → vs.length = ps.length
  run : ∀ (A : Around) (outer : List Env) (s : Shared) (H : Hp) (args : Args) (us : List Value) (vs : List V) (Q : VK) (E : XK),
    Room k A → Calm A → Env0 P w K mg base A outer s H → BindsTo s fd args (ps.zip us) → Vals vs us → sp vs H Q E →
    codeAny (model P w) A (.call (.ref f) args) (CR CX outer P w H s Q E) s
section
variable {P : Program} {w : World} {K : PySem.W.Frag} {mg : Str → Option Value} {base : Heap} {CX : CXT} {j k : Nat} {f : Addr} {fd : FuncData} {ps : List Str} {sp sp' : Sp}
theorem FnG.up (F : FnG P w K mg base CX j f fd ps sp) (h : j ≤ k) : FnG P w K mg base CX k f fd ps sp where
  len := F.len
  run := fun A outer s H args us vs Q E r g => F.run A outer s H args us vs Q E (r.mono h) g
theorem FnG.of (F : FnOk P w K mg base CX k f fd ps sp) : FnG P w K mg base CX k f fd ps sp where
  len := F.len
  run := fun A outer s H args us vs Q E r _ => F.run A outer s H args us vs Q E r
end

/-! what is known of a def of the text by its callers -/
structure DefG (P : Program) (w : World) (K : PySem.W.Frag) (mg : Str → Option Value) (base : Heap) (k : Nat) (x : Str) (ps : List Str) (sp : Sp) : Prop where
  ex : ∃ (f : Addr) (fd : FuncData), FnG P w K mg base CX0 k f fd ps sp ∧ mg x = some (.ref f) ∧ PySem.W.keepIn K (.ref f) = true ∧ Binds K fd ps []

section
variable {X : Cx} {CX : CXT} {k n : Nat} {f C : Addr} {fd : FuncData} {ps ks : List Str} {sp : Sp} {dvs : List V} {ds : List Value} {E : XK} {x m : Str} {p pos apos : Pos} {e o : Expr} {es : List Expr} {ta : TE} {t tk : TA} {kws : List Keyword}
variable {g : List Value → List Value → List Value} {gV : List V → List V → List V}

theorem out_of {pins : List (Addr × Obj)} {σ : L2.St} {H : Hp} {s : Shared} {Q : VK} (hx : Passes CX X E) (I : Inv X pins σ H s) :
    ∀ (r : Result) (s' : Shared), CR CX X.stack X.prog X.w H s Q E r s' → (match r with | .ok (.ret u) => EP X pins σ Q u s' | .ok _ => False | .error e => X.xe e s')
  | .error e, s', q => hx pins σ H s e s' I q
  | .ok (.ret _), _, q => I.after q
  | .ok .next, _, q => q
  | .ok .brk, _, q => q
  | .ok .cont, _, q => q

theorem runG {pins : List (Addr × Obj)} {σ : L2.St} {H : Hp} {s : Shared} {Q : VK} {us : List Value} {vs : List V} (F : FnG X.prog X.w X.K X.mg X.base CX k f fd ps sp) (hr : Room k X.A) (hc : Calm X.A)
    (hb : Binds X.K fd ps ds) (hd : Vals dvs ds) (hx : Passes CX X E) (I : Inv X pins σ H s) (r : Vals vs us) (h : sp (vs ++ dvs) H Q E) :
    wpAny (model X.prog X.w) X.A (call (.ref f) us) (EP X pins σ Q) X.xe s := by
  have both : Vals (vs ++ dvs) (us ++ ds) := Vals.append r hd
  have long : (us ++ ds).length = ps.length := both.length.symm.trans (F.len _ _ _ _ h)
  have go := F.run X.A X.stack s H ⟨us, []⟩ (us ++ ds) (vs ++ dvs) Q E hr hc I.env0 (hb s us I.kIn long) both h
  refine wpAny_call (codeAny_mono go fun r' s' q => ?_)
  have z := out_of hx I r' s' q
  match r', z with
  | .error _, z => exact z
  | .ok (.ret _), z => exact z

theorem pe_def (D : DefG X.prog X.w X.K X.mg X.base k x ps sp) (hr : Room k X.A) (hc : Calm X.A) (hg : Gl X x) (ha : PA X (e :: es) t) (hdb : (x == ("__debug__" : Str)) = false := by decide)
    (he : starEach (e :: es) X.env = (false, eval e X.env) :: starEach es X.env := by rfl) (hpl : (backTo pos (starEach es X.env)).any (·.1) = false := by rfl) :
    PE X (.Call (.Name x p) (e :: es) [] pos) (tCall sp [] E0 t) := by
  obtain ⟨f, fd, F, hm, hk, hb⟩ := D.ex
  exact ⟨fun pins s σ H Q I h => wpAny_Call_Name_kw (ld_glob I hg hm (PySem.W.callWith_K (h₀ := X.base) I.ok.mod.kin hk
    (thn (ha.run pos pins s σ H _ I h) fun us s1 ⟨vs, H1, I1, r, q⟩ => ⟨I1.kIn, runG F hr hc hb .nil pass0 I1 r q⟩) he hpl) hdb)⟩

/-- a method with positional arguments -/
theorem pe_methG {pl : Sem Bool} (he : PE X o ta) (c : Cls X.K C) (hm : Meth X.K C m f) (F : FnG X.prog X.w X.K X.mg X.base CX k f fd ps sp) (hr : Room k X.A) (hc : Calm X.A) (hb : Binds X.K fd ps ds) (hd : Vals dvs ds) (hx : Passes CX X E)
    (ha : PA X (e :: es) t) (hst : starEach (e :: es) X.env = (false, eval e X.env) :: starEach es X.env := by rfl) (hpl : (backTo pos (starEach es X.env)).any (·.1) = false := by rfl)
    (ht : eval (.Call (.Attribute o m apos) (e :: es) [] pos) X.env = (eval o X.env >>= fun ov => standAt apos.atName >>= fun _ => holding [ov] (getMethod ov m pl) >>= fun fx =>
      callWith pos fx.1 fx.2 (backTo pos (starEach (e :: es) X.env)) (backToKw pos (keywordEach [] X.env))) := by rfl) :
    PE X (.Call (.Attribute o m apos) (e :: es) [] pos) (tMeth C m sp dvs E ta t) := by
  constructor
  intro pins s σ H Q I h
  refine PySem.W.methodCall_KW (pl := pl) (thn (he.run pins s σ H _ I h) ?_) ht
  rintro u s1 ⟨_, H1, I1, rx, a, dx, fs, rfl, ea, l, q⟩
  obtain rfl : u = .ref a := rx
  refine getmeth_ok I1 ea c hm l (PySem.W.callWith_K (first := [.ref a]) (h₀ := X.base) I.ok.mod.kin hm.kp (thn (ha.run pos pins s1 σ H1 _ I1 q) ?_) hst hpl)
  rintro us s2 ⟨vs, H2, I2, r, q2⟩
  exact ⟨I2.kIn, runG (us := .ref a :: us) (vs := .ref a :: vs) F hr hc hb hd hx I2 (.cons rfl r) q2⟩

/-- how keywords alone bind behind a receiver -/
def tMethK (C : Addr) (m : Str) (sp : Sp) (n : Nat) (gV : List V → List V → List V) (E : XK) (ta : TE) (tk : TA) : TE := fun σ H Q => ta σ H fun x H1 => ∃ a dx fs, x = .ref a ∧ H1 a = some (.ins C dx fs) ∧ fs.lookup m = none ∧
  tk σ H1 fun zs H2 => zs.length = n ∧ sp (gV [x] zs) H2 Q E
theorem runKG {pins : List (Addr × Obj)} {σ : L2.St} {H : Hp} {s : Shared} {Q : VK} {us ws : List Value} {vs zs : List V} (F : FnG X.prog X.w X.K X.mg X.base CX k f fd ps sp) (hr : Room k X.A) (hc : Calm X.A) (hb : KBn X.K fd ps n ks g gV) (hx : Passes CX X E)
    (I : Inv X pins σ H s) (r : Vals vs us) (rz : Vals zs ws) (l1 : vs.length = n) (l2 : zs.length = ks.length) (h : sp (gV vs zs) H Q E) :
    wpAny (model X.prog X.w) X.A (call (.ref f) us (ks.zip ws)) (EP X pins σ Q) X.xe s := by
  have go := F.run X.A X.stack s H ⟨us, ks.zip ws⟩ (g us ws) (gV vs zs) Q E hr hc I.env0 (hb.to s us ws I.kIn (r.length.symm.trans l1) (rz.length.symm.trans l2)) (hb.rel r rz) h
  refine wpAny_call (codeAny_mono go fun r' s' q => ?_)
  have z := out_of hx I r' s' q
  match r', z with
  | .error _, z => exact z
  | .ok (.ret _), z => exact z
theorem pe_methKG {pl : Sem Bool} (he : PE X o ta) (c : Cls X.K C) (hm : Meth X.K C m f) (F : FnG X.prog X.w X.K X.mg X.base CX k f fd ps sp) (hr : Room k X.A) (hc : Calm X.A) (hb : KBn X.K fd ps 1 ks g gV) (hx : Passes CX X E)
    (hkw : PK X kws tk) (hall : (backToKw pos (keywordEach kws X.env)).all (·.1.isSome) = true := by rfl) (hks : (backToKw pos (keywordEach kws X.env)).filterMap (·.1) = ks := by rfl)
    (hpl : ((backTo pos (starEach [] X.env)).any (·.1) || (backToKw pos (keywordEach kws X.env)).any (·.1.isNone)) = false := by rfl)
    (ht : eval (.Call (.Attribute o m apos) [] kws pos) X.env = (eval o X.env >>= fun ov => standAt apos.atName >>= fun _ => holding [ov] (getMethod ov m pl) >>= fun fx =>
      callWith pos fx.1 fx.2 (backTo pos (starEach [] X.env)) (backToKw pos (keywordEach kws X.env))) := by rfl) :
    PE X (.Call (.Attribute o m apos) [] kws pos) (tMethK C m sp ks.length gV E ta tk) := by
  constructor
  intro pins s σ H Q I h
  refine PySem.W.methodCall_KW (pl := pl) (thn (he.run pins s σ H _ I h) ?_) ht
  rintro u s1 ⟨_, H1, I1, rx, a, dx, fs, rfl, ea, l, q⟩
  obtain rfl : u = .ref a := rx
  refine getmeth_ok I1 ea c hm l (PySem.W.callWith_KW0 (first := [.ref a]) (h₀ := X.base) I.ok.mod.kin hm.kp hall (thn (hkw.run pos pins s1 σ H1 _ I1 q) ?_) hpl)
  rintro ws s2 ⟨zs, H2, I2, rz, l2, q2⟩
  refine ⟨I2.kIn, ?_⟩
  rw [hks]
  exact runKG (us := [.ref a]) (vs := [.ref a]) F hr hc hb hx I2 (.cons rfl .nil) rz rfl l2 q2

/-- a new instance, then its __init__ with what binds -/
theorem makeG {pins : List (Addr × Obj)} {σ : L2.St} {H : Hp} {s : Shared} {Q : VK} {us : List Value} {kw : List (Str × Value)} {all : List Value} {av : Addr → List V} (M : Mk X.K C f) (F : FnG X.prog X.w X.K X.mg X.base CX k f fd ps sp) (hr : Room (k + 1) X.A) (hc : Calm X.A)
    (hx : Passes CX X E) (I : Inv X pins σ H s)
    (hb : ∀ s' : Shared, X.K.In s'.heap → BindsTo s' fd ⟨.ref (s.heap.objs.size + 1) :: us, kw⟩ (ps.zip all)) (r : Vals (av (s.heap.objs.size + 1)) all)
    (h : ∀ x dx, H x = none → H dx = none → dx ≠ x → sp (av x) (upd (upd H dx (.own x)) x (.ins C dx [])) (fun v H2 => v = .non ∧ Q (.ref x) H2) E) :
    wpAny (model X.prog X.w) X.A (call (.ref C) us kw) (EP X pins σ Q) X.xe s := by
  have q0 := h (s.heap.objs.size + 1) s.heap.objs.size (I.hok.fresh (Nat.le_succ _)) (I.hok.fresh (Nat.le_refl _)) (Nat.ne_of_lt (Nat.lt_succ_self _))
  have J := Inv.made (C := C) I
  have go := F.run _ X.stack _ _ ⟨Value.ref (s.heap.objs.size + 1) :: us, kw⟩ all _ _ E (hr.make C us kw) (hc.make C us kw) (J.env0.make C us kw) (hb _ J.kIn) r q0
  refine wpAny_call (make_map (f := f) I.kIn M.makes M.init (beq_iff_eq.mp M.fn) (codeAny_mono go fun r' s' q => ?_))
  match r', q with
  | .error e, q => exact hx pins σ _ _ e s' J q
  | .ok (.ret u), q =>
    obtain ⟨v, H', I3, rv, ev, q3⟩ := J.after q
    cases ev
    exact ⟨rv, ⟨V.ref (s.heap.objs.size + 1), H', I3, rfl, q3⟩⟩
theorem pe_makeG (M : Mk X.K C f) (F : FnG X.prog X.w X.K X.mg X.base CX k f fd ps sp) (hr : Room (k + 1) X.A) (hc : Calm X.A) (hg : Gl X x) (hm : X.mg x = some (.ref C)) (hb : Binds X.K fd ps ds) (hd : Vals dvs ds) (hx : Passes CX X E)
    (ha : PA X (e :: es) t) (hdb : (x == ("__debug__" : Str)) = false := by decide) (he : starEach (e :: es) X.env = (false, eval e X.env) :: starEach es X.env := by rfl) (hpl : (backTo pos (starEach es X.env)).any (·.1) = false := by rfl) :
    PE X (.Call (.Name x p) (e :: es) [] pos) (tMake C sp dvs E t) := by
  constructor
  intro pins s σ H Q I h
  refine wpAny_Call_Name_kw (ld_glob I hg hm (PySem.W.callWith_K (h₀ := X.base) I.ok.mod.kin M.kp (thn (ha.run pos pins s σ H _ I h) ?_) he hpl) hdb)
  rintro us s1 ⟨vs, H1, I1, r, q⟩
  have r2 : Vals (V.ref (s1.heap.objs.size + 1) :: (vs ++ dvs)) (Value.ref (s1.heap.objs.size + 1) :: (us ++ ds)) := .cons rfl (Vals.append r hd)
  have q0 := q (s1.heap.objs.size + 1) s1.heap.objs.size (I1.hok.fresh (Nat.le_succ _)) (I1.hok.fresh (Nat.le_refl _)) (Nat.ne_of_lt (Nat.lt_succ_self _))
  exact ⟨I1.kIn, makeG (av := fun x => .ref x :: (vs ++ dvs)) M F hr hc hx I1 (fun s' X' => hb s' (Value.ref (s1.heap.objs.size + 1) :: us) X' (r2.length.symm.trans (F.len _ _ _ _ q0))) r2 q⟩
theorem pe_makeKG0 (M : Mk X.K C f) (F : FnG X.prog X.w X.K X.mg X.base CX k f fd ps sp) (hr : Room (k + 1) X.A) (hc : Calm X.A) (hg : Gl X x) (hm : X.mg x = some (.ref C)) (hb : KBn X.K fd ps 1 ks g gV) (hx : Passes CX X E) (hkw : PK X kws tk)
    (hall : (backToKw pos (keywordEach kws X.env)).all (·.1.isSome) = true := by rfl) (hks : (backToKw pos (keywordEach kws X.env)).filterMap (·.1) = ks := by rfl) (hdb : (x == ("__debug__" : Str)) = false := by decide)
    (hpl : ((backTo pos (starEach [] X.env)).any (·.1) || (backToKw pos (keywordEach kws X.env)).any (·.1.isNone)) = false := by rfl) :
    PE X (.Call (.Name x p) [] kws pos) (tMakeK C 0 ks.length sp gV E tNil tk) := by
  constructor
  intro pins s σ H Q I h
  refine wpAny_Call_Name_kw (ld_glob I hg hm (PySem.W.callWith_KW0 (h₀ := X.base) I.ok.mod.kin M.kp hall (thn (hkw.run pos pins s σ H _ I h) ?_) hpl) hdb)
  rintro ws s2 ⟨zs, H2, I2, rz, _, l2, q2⟩
  refine ⟨I2.kIn, ?_⟩
  rw [hks]
  exact makeG (av := fun x => gV [.ref x] zs) M F hr hc hx I2 (fun s' X' => hb.to s' [Value.ref (s2.heap.objs.size + 1)] ws X' rfl (rz.length.symm.trans l2)) (hb.rel (.cons rfl .nil) rz) q2

/-- repr of what reads as data -/
theorem call_reprD (hc : Calm X.A) (hu : X.A.units + 100 < cLine) : CallR X (.builtin "repr") (fun xs H Q => ∃ (a : Addr) (d : PyData), xs = [.ref a] ∧ Dp X.K H (.ref a) d ∧ d.showable = true ∧ d.hasDict = false ∧ d.depth ≤ 64 ∧ d.shown.length ≤ sizeLine ∧ Q (.str d.shown) H) := by
  intro pins s σ H xs us Q I r h
  obtain ⟨a, d, rfl, hd, hs, hn, hdp, hz, q⟩ := h
  obtain ⟨as, rd⟩ := Dp.reads I d (.ref a) (.ref a) hd rfl
  rw [Vals.ref1 r]
  exact repr_of_reads' rd hs (PyData.noDict_hsm hn) hc (by omega) (fun _ _ e => e) (fun h' u tk hk => ⟨.str _, H, I.kept hk, ⟨_, rfl⟩, q⟩) hz
end

section
variable {P : Program} {w : World} {K : PySem.W.Frag} {mg : Str → Option Value} {base : Heap}
/-- a def's promise, by its body: whatever its defaults -/
theorem okR {x qual : Str} {params : Arguments} {body : List Stmt} {scope : Scope} {dV kV doc pm cdv ct oc : Value} {an od : Option Addr} {osl : Array (Option Value)} {f : Addr} {N ps : List Str} {k : Nat} {sp : Sp}
    (lk : K.lookup f = some ⟨oc, od, .func (PySem.W.fnOf x qual params body scope dV kV doc pm an cdv ct), osl⟩) (code : PySem.W.codeIn K cdv qual = true) (S : FnScope N ps scope) (len : ∀ vs H Q E, sp vs H Q E → vs.length = ps.length)
    (walk : ∀ (cdv : Value) (A : Around) (outer : List Env) (s : Shared) (H : Hp) (vs : List V) (Q : VK) (E : XK), Room k (A.deeper (envOfC qual scope s.heap.objs.size f cdv)) → Calm (A.deeper (envOfC qual scope s.heap.objs.size f cdv)) → sp vs H Q E →
      ∃ t, PSs (cxOf CX0 P w K mg base N qual scope f cdv A outer s H E).nox body t ∧ t { nx := fun _ H' => Q .non H', rt := Q } (start N vs) H) : FnG P w K mg base CX0 (k + 1) f (PySem.W.fnOf x qual params body scope dV kV doc pm an cdv ct) ps sp := by
  refine ⟨len, ?_⟩
  intro A outer s H args us vs Q E room calm e0 bnd rel want
  have long := len _ _ _ _ want
  have up : ∀ b o, base.get? b = some o → s.heap.get? b = some o := fun b o e => (e0.bs b o e).1
  have kin : K.In s.heap := e0.mod.kin.keeps up
  have lim : s.heap.NoLimit := e0.mod.nolimit.keeps up
  have kinds : ∀ y ∈ ps.zip us, scope.names.lookup y.1 = some .local ∨ (scope.names.lookup y.1 = some .cell ∧ ((cellsFrom (s.heap.objs.size + 1) scope.names []).lookup y.1).isSome = true) := by
    rintro ⟨n, v⟩ hy
    exact (S.par n (List.of_mem_zip hy).1).imp id fun q => ⟨q, PySem.W.cellsFrom_some _ _ _ (.inl q)⟩
  refine codeAny_call_function room.depth (kin _ _ lk) rfl S.co S.gen rfl (PySem.W.codeRec_of kin code) (bnd _ _ _ _ (wpAny_newFunctionEnv_cells S.kind kinds ?_))
  rintro env rfl s1 x
  obtain ⟨t, deriv, reads⟩ := walk cdv A outer s H vs Q E (room.deeper _) (calm.deeper _) want
  have I : Inv (cxOf CX0 P w K mg base N qual scope f cdv A outer s H E) [] (start N vs) H s1 := inv_start S room.hd e0 long rel x
  refine ⟨lim.keeps x.toInCall.keep, codeAny_func (wpAny_mono (deriv.nox.run [] s1 (start N vs) H _ I reads) ?_ fun _ _ z => z)⟩
  intro fl s' hs
  match fl, hs with
  | .ret u, ⟨v, _, H', J, rv, q⟩ => exact ⟨v, H', J.os, J.bare, J.base, J.hok, rv, q⟩
  | .next, ⟨_, H', J, q⟩ => exact ⟨V.non, H', J.os, J.bare, J.base, J.hok, rfl, q⟩
  | .brk, ⟨_, _, _, q⟩ => exact q.elim
  | .cont, ⟨_, _, _, q⟩ => exact q.elim

theorem okG {x qual : Str} {st : Stmt} {f : Addr} {fd : FuncData} {N ps : List Str} {k : Nat} {sp : Sp} (F : Fun K x qual st f fd) (S : FnScope N ps (defScope st)) (len : ∀ vs H Q E, sp vs H Q E → vs.length = ps.length)
    (walk : ∀ (cdv : Value) (A : Around) (outer : List Env) (s : Shared) (H : Hp) (vs : List V) (Q : VK) (E : XK), Room k (A.deeper (envOfC qual (defScope st) s.heap.objs.size f cdv)) → Calm (A.deeper (envOfC qual (defScope st) s.heap.objs.size f cdv)) → sp vs H Q E →
      ∃ t, PSs (cxOf CX0 P w K mg base N qual (defScope st) f cdv A outer s H E).nox (defBody st) t ∧ t { nx := fun _ H' => Q .non H', rt := Q } (start N vs) H) : FnG P w K mg base CX0 (k + 1) f fd ps sp := by
  obtain ⟨oc, od, kV, doc, pm, an, cdv, ct, osl, rfl, lk, code⟩ := F.ex
  exact okR lk code S len walk
theorem okD {x qual : Str} {st : Stmt} {dvs : List V} {kws : List (Str × V)} {f : Addr} {fd : FuncData} {N ps : List Str} {k : Nat} {sp : Sp} (F : FunD K x qual (defArgs st) (defBody st) (defScope st) dvs kws f fd) (S : FnScope N ps (defScope st)) (len : ∀ vs H Q E, sp vs H Q E → vs.length = ps.length)
    (walk : ∀ (cdv : Value) (A : Around) (outer : List Env) (s : Shared) (H : Hp) (vs : List V) (Q : VK) (E : XK), Room k (A.deeper (envOfC qual (defScope st) s.heap.objs.size f cdv)) → Calm (A.deeper (envOfC qual (defScope st) s.heap.objs.size f cdv)) → sp vs H Q E →
      ∃ t, PSs (cxOf CX0 P w K mg base N qual (defScope st) f cdv A outer s H E).nox (defBody st) t ∧ t { nx := fun _ H' => Q .non H', rt := Q } (start N vs) H) : FnG P w K mg base CX0 (k + 1) f fd ps sp := by
  obtain ⟨oc, od, dV, kV, doc, pm, an, cdv, ct, osl, rfl, lk, code, _, _⟩ := F.ex
  exact okR lk code S len walk

/-- the law's call, where the caller guards nothing -/
theorem lawG {mb : Str → Option Value} {k : Nat} {fa a : Addr} {fd : FuncData} {x : Str} {sp : Sp} {s₁ : Shared} {vs : List Value} {ns : List Int}
    (KX : K.In s₁.heap) (hns : s₁.heap.Ns mainGlobals mg) (hb : s₁.heap.Ns builtinsNs mb) (hbb : ∀ x : Str, x ≠ "__name__" → mb x = bootBuiltins x) (hlim : s₁.heap.NoLimit) (hg : s₁.gens = #[])
    (ha : s₁.heap.get? a = some { cls := .type "list", data := .seq vs.toArray }) (hi : IntsAre vs ns) (hl : ns.length ≤ sizeLine) (hr : Room k callerA)
    (F : ∀ base : Heap, K.In base → base.Ns mainGlobals mg → FnG P w K mg base CX0 k fa fd [x] sp) (hbind : ∀ (s : Shared) (u : Value), BindsTo s fd ⟨[u], []⟩ [(x, u)])
    (hsp : ∀ H : Hp, Only H → SqL K H a (ns.map V.int) → sp [.ref a] H (fun v _ => v = .bl true) fun _ _ _ => False) :
    codeAny (model P w) callerA (.call (.ref fa) ⟨[.ref a], []⟩) (fun r s' => r = .ok (.ret (.bool true)) ∧ OldK s₁.heap s'.heap ∧ s'.os = s₁.os ∧ AllBare s'.gens) s₁ := by
  have rel := vals_ints hi
  have core : ∀ H : Hp, Only H → SqL K H a (ns.map V.int) → HOk P w H s₁.heap → (∀ b, H b ≠ none → b = a) → (H a ≠ none → K.lookup a = none) →
      codeAny (model P w) callerA (.call (.ref fa) ⟨[.ref a], []⟩) (fun r s' => r = .ok (.ret (.bool true)) ∧ OldK s₁.heap s'.heap ∧ s'.os = s₁.os ∧ AllBare s'.gens) s₁ := by
    intro H only sq hok alone free
    have off : ∀ {b : Addr}, b ≠ a → H b = none := fun {b} ne => Classical.byContradiction fun z => ne (alone b z)
    have dictOff : ∀ {b : Addr} {o : Obj} {es : Array DictEntry} {ep : Nat}, s₁.heap.get? b = some o → o.data = .dict es ep → H b = none := by
      intro b o es ep e d
      refine off fun eq => ?_
      rw [eq, ha] at e
      cases e
      exact Data.noConfusion d
    have nsK : ∀ {b : Addr} {m : Str → Option Value}, s₁.heap.Ns b m → (hidT s₁.heap H).Ns b m := by
      rintro b m ⟨o, es, ep, e, d, r⟩
      exact ⟨o, es, ep, hidT_get e (dictOff e d), d, r⟩
    have kb : K.In (hidT s₁.heap H) := by
      intro b o e
      refine hidT_get (KX b o e) (Classical.byContradiction fun z => ?_)
      have eq := alone b z
      rw [eq] at z e
      rw [free z] at e
      cases e
    have md : Mod K mg (hidT s₁.heap H) := ⟨kb, nsK hns, ⟨mb, nsK hb, hbb⟩, let ⟨mc, h1, h2⟩ := hlim; ⟨mc, nsK h1, h2⟩⟩
    have e0 : Env0 P w K mg (hidT s₁.heap H) callerA [] s₁ H := ⟨rfl, md, fun b o e => of_hidT e, Nat.le_of_eq (hidT_size _ _), trivial, (fun b z => nomatch z), hok, .of_eq hg⟩
    have go := (F _ kb (nsK hns)).run callerA [] s₁ H ⟨[.ref a], []⟩ [.ref a] [.ref a] _ _ hr rfl e0 (hbind s₁ (.ref a)) (.cons rfl .nil) (hsp H only sq)
    refine codeAny_mono go fun r s' h => ?_
    match r, h with
    | .ok (.ret u), ⟨v, H', os, bare, un, hok', r', q⟩ =>
      have q' : v = .bl true := q
      subst q'
      obtain rfl : u = Value.bool true := r'
      refine ⟨rfl, OldK.of_keep fun b o e => ?_, os, bare⟩
      rcases only b with z | ⟨ob, xs, z⟩
      · exact un.keep b o e z (fun y => nomatch y) (fun y => nomatch y)
      · obtain ⟨e1, _⟩ := hok b _ z
        obtain ⟨e2, _⟩ := hok' b _ (un.frzs b ob _ z)
        exact e.symm.trans e1 ▸ e2
  have lenV := hi.length
  cases hk : K.lookup a with
  | some o =>
    have e := ha.symm.trans (KX a o hk)
    cases e
    exact core (fun _ => none) (fun _ => .inl rfl) (.inr ⟨_, vs.toArray, _, hk, rfl, rfl, rfl, by rw [List.size_toArray, lenV]; exact hl, by simpa using rel⟩) (fun b u z => nomatch z) (fun b z => absurd rfl z) fun z => absurd rfl z
  | none =>
    have at_ : ∀ b, (if b = a then some (HO.frz { cls := .type "list", data := .seq vs.toArray } (.lst (ns.map V.int))) else none) ≠ none → b = a := fun b z => Classical.byContradiction fun y => z (if_neg y)
    refine core (fun b => if b = a then some (.frz { cls := .type "list", data := .seq vs.toArray } (.lst (ns.map V.int))) else none) (fun b => ?_) (.inl (.inr ⟨{ cls := .type "list", data := .seq vs.toArray }, if_pos rfl⟩)) (fun b u z => ?_) at_ fun _ => hk
    · by_cases hb : b = a
      · exact .inr ⟨_, _, if_pos hb⟩
      · exact .inl (if_neg hb)
    · have eb : b = a := at_ b (fun y => nomatch (y.symm.trans z))
      subst eb
      have z' := (if_pos rfl).symm.trans z
      cases z'
      exact ⟨ha, by rw [List.length_map]; exact hl, vs, _, rel, ha⟩
end
theorem walkG {l : PySem.W.OpenLaw} {n k : Nat} {q : Program} {loose : List Str} {XP : (Str → Option Value) → Heap → Prop} {YP : World → Heap → Prop} {d : DefRec} {K : Params → PySem.W.Frag} {sp : PySem.W.Frag → Sp} {x : Str}
    (hn : l.most = some n) (hn2 : n ≤ sizeLine) (hdf : d.params.defaults = []) (hr : Room k callerA)
    (hY : ∀ (w : World) (h : Heap), YP w h → (K w.params).In h)
    (F : ∀ (w : World) (mg : Str → Option Value) (fa : Addr) (h : Heap), (K w.params).In h → h.Ns mainGlobals mg → mg d.name = some (.ref fa) →
      ∃ fd : FuncData, (∀ (s : Shared) (u : Value), BindsTo s fd ⟨[u], []⟩ [(x, u)]) ∧
        ∀ base : Heap, (K w.params).In base → base.Ns mainGlobals mg → FnG l.prog w (K w.params) mg base CX0 k fa fd [x] (sp (K w.params)))
    (hsp : ∀ (K : PySem.W.Frag) (H : Hp) (a : Addr) (ns : List Int), ns.length ≤ n → Only H → SqL K H a (ns.map V.int) → sp K [.ref a] H (fun v _ => v = .bl true) fun _ _ _ => False) :
    PySem.W.WalkO q loose XP YP l.row.toRowW d [] (fun f vs => PySem.call f vs) := by
  refine Att.attach_call hn hdf ?_
  intro w s₀ s₁ mg mb fa o pm cd doc a vs ns G Y ho hd hcd hmg hobj hints hlen hg
  obtain ⟨fd, hb, hF⟩ := F w mg fa _ (hY w _ Y) G.T.g hmg
  exact lawG (hY w _ Y) G.T.g G.T.b G.T.builtins G.T.nolimit hg hobj hints (Nat.le_trans hlen hn2) hr hF hb fun H o s => hsp _ H a ns hlen o s
end GL
namespace GL
open PySem PySem.Spec PyProof.Rows L2
section
variable {K : PySem.W.Frag} {H H' : Hp}
theorem dpa_ints : ∀ ns : List Int, DpAll K H (ns.map V.int) (ns.map PyData.int)
  | [] => .nil
  | n :: r => .cons (.int n) (dpa_ints r)
theorem dpa_strs : ∀ ns : List Str, DpAll K H (ns.map V.str) (ns.map PyData.str)
  | [] => .nil
  | n :: r => .cons (.str n) (dpa_strs r)
theorem dpa_bls : ∀ ns : List Bool, DpAll K H (ns.map V.bl) (ns.map PyData.bool)
  | [] => .nil
  | n :: r => .cons (.bl n) (dpa_bls r)
theorem lay_ints : ∀ ns : List Int, PyData.canLayAll0 (ns.map PyData.int) = true
  | [] => rfl
  | n :: r => by
    show (PyData.canLay0 (.int n) && PyData.canLayAll0 (r.map PyData.int)) = true
    rw [lay_ints r]; rfl
theorem depth_ints : ∀ ns : List Int, PyData.depthAll (ns.map PyData.int) = 0
  | [] => rfl
  | n :: r => by
    show max (PyData.depth (.int n)) (PyData.depthAll (r.map PyData.int)) = 0
    rw [depth_ints r]; rfl
theorem depth_strs : ∀ ns : List Str, PyData.depthAll (ns.map PyData.str) = 0
  | [] => rfl
  | n :: r => by
    show max (PyData.depth (.str n)) (PyData.depthAll (r.map PyData.str)) = 0
    rw [depth_strs r]; rfl
theorem shaped_ints (ns : List Int) : SeqAt.shaped (.list (ns.map PyData.int)) = true := by
  unfold SeqAt.shaped
  rw [show PyData.canLay0 (.list (ns.map PyData.int)) = PyData.canLayAll0 (ns.map PyData.int) from rfl, lay_ints ns]
  rw [show PyData.depth (.list (ns.map PyData.int)) = PyData.depthAll (ns.map PyData.int) + 1 from rfl, depth_ints ns]
  rfl
theorem eqv_ints_nil : ∀ ns : List Int, PyData.eqv (.list (ns.map PyData.int)) (.list []) = decide (ns = [])
  | [] => rfl
  | n :: r => by
    rw [decide_eq_false (show ¬ (n :: r = []) from List.cons_ne_nil n r)]
    rfl

/-! ### what stays -/
theorem Same.new {p : Addr} {o : HO} (h : H p = none) : Same H (upd H p o) := fun b u e => by
  rw [upd_ne (ne_of_none e h)]; exact e
theorem Same.tup {a : Addr} {xs : List V} (e : Same H H') (h : SqT K H a xs) : SqT K H' a xs := by
  rcases h with (h | ⟨o, h⟩) | h
  · exact .inl (.inl (e _ _ h))
  · exact .inl (.inr ⟨o, e _ _ h⟩)
  · exact .inr h
theorem tofT {a : Addr} {xs : List V} (h : H a = some (.tup xs)) : SqT K H a xs := .inl (.inl h)
theorem tofL {a : Addr} {xs : List V} (h : H a = some (.lst xs)) : SqL K H a xs := .inl (.inl h)
theorem small {n : Nat} (h : n ≤ 100000) : n ≤ sizeLine := Nat.le_trans h (by decide)
theorem smallt {n : Nat} (h : n < 100000) : n < sizeLine := Nat.lt_of_lt_of_le h (by decide)

/-! ### the deck of the laws: a dict of a list of ints and an int -/
def deckD (g : Addr) (m : Int) : List (Key × V) := [(Sum.inr "great", .ref g), (Sum.inr "mixed", .int m)]
theorem gm0 : ¬ (("great" : Str) = "mixed") := by decide +kernel
theorem gm : ¬ ((Sum.inr ("great" : Str) : Key) = (Sum.inr ("mixed" : Str) : Key)) := by
  intro e
  injection e with e1
  exact gm0 e1
theorem deck_great (g : Addr) (m : Int) : valV (deckD g m) (Sum.inr "great" : Key) = some (.ref g) := valV_pos rfl
theorem deck_mixed (g : Addr) (m : Int) : valV (deckD g m) (Sum.inr "mixed" : Key) = some (.int m) := by
  unfold deckD
  rw [valV_neg gm, valV_pos rfl]
theorem deck_put (g : Addr) (m m' : Int) : putK (deckD g m) (Sum.inr "mixed" : Key) (.int m') = deckD g m' := by
  unfold putK deckD
  simp only [List.any_cons, List.any_nil, List.map_cons, List.map_nil, decide_eq_false gm, decide_true, Bool.or_true, Bool.false_or, Bool.or_false, if_true]
  rw [if_neg gm]
/-- all but the deck stays -/
structure Mv (d g : Addr) (H H' : Hp) : Prop where
  keep : ∀ b o, H b = some o → b ≠ d → b ≠ g → H' b = some o
structure Deck (H : Hp) (d g : Addr) : Prop where
  ex : ∃ (m : Int) (L : List Int), H d = some (.dK (deckD g m)) ∧ H g = some (.lst (L.map V.int)) ∧ L.length ≤ 63 ∧ 0 ≤ m ∧ m < 2147483587
theorem Deck.ne {d g : Addr} (D : Deck H d g) : d ≠ g := by
  obtain ⟨m, L, h1, h2, _⟩ := D.ex
  exact ne_of h1 h2 (fun z => nomatch z)
theorem Deck.same {d g : Addr} (D : Deck H d g) (s : Same H H') : Deck H' d g := by
  obtain ⟨m, L, h1, h2, r⟩ := D.ex
  exact ⟨⟨m, L, s _ _ h1, s _ _ h2, r⟩⟩
theorem Mv.refl {d g : Addr} : Mv d g H H := ⟨fun _ _ h _ _ => h⟩
theorem Mv.trans {d g : Addr} {H1 H2 H3 : Hp} (a : Mv d g H1 H2) (b : Mv d g H2 H3) : Mv d g H1 H3 := ⟨fun p o h n1 n2 => b.keep p o (a.keep p o h n1 n2) n1 n2⟩
theorem Mv.of {d g : Addr} (s : Same H H') : Mv d g H H' := ⟨fun p o h _ _ => s p o h⟩
theorem Mv.at {d g a : Addr} {o : HO} (m : Mv d g H H') (h : H a = some o) (n : a ≠ d ∧ a ≠ g) : H' a = some o := m.keep _ _ h n.1 n.2
/-- what is new stands apart from the deck -/
theorem Deck.off {d g p : Addr} (D : Deck H d g) (h : H p = none) : p ≠ d ∧ p ≠ g := by
  obtain ⟨m, L, h1, h2, r⟩ := D.ex
  exact ⟨(ne_of_none h1 h).symm, (ne_of_none h2 h).symm⟩
theorem Deck.new {d g p : Addr} {o : HO} (D : Deck H d g) (h : H p = none) : Deck (upd H p o) d g := D.same (Same.new h)
/-- what was new before is new or ours -/
theorem Mv.free {d g p : Addr} (D : Deck H d g) (m : Mv d g H H') (D' : Deck H' d g) (h : H' p = none) : H p = none := by
  have n := D'.off h
  cases e : H p with
  | none => rfl
  | some o => rw [m.keep p o e n.1 n.2] at h; cases h
/-- a change of what was not there -/
theorem Mv.mut {d g p : Addr} {o : HO} (m : Mv d g H H') (h : H p = none) : Mv d g H (upd H' p o) := ⟨fun b u hb n1 n2 => by
  rw [upd_ne (ne_of_none hb h)]
  exact m.keep b u hb n1 n2⟩
theorem Deck.mut {d g p : Addr} {o : HO} (D : Deck H d g) (n : p ≠ d ∧ p ≠ g) : Deck (upd H p o) d g := by
  obtain ⟨m, L, h1, h2, r⟩ := D.ex
  exact ⟨⟨m, L, by rw [upd_ne n.1.symm]; exact h1, by rw [upd_ne n.2.symm]; exact h2, r⟩⟩
def spDraw : Sp := fun vs H Q _ => ∃ (d g : Addr) (n : Int), vs = [.ref d, .int n] ∧ Deck H d g ∧ 0 < n ∧ n < 2 ^ 250 ∧
  ∀ (r : Int) (H' : Hp), 0 ≤ r → r < n → Deck H' d g → Mv d g H H' → Q (.int r) H'
end
def spPickL : Sp := fun vs H Q _ => ∃ (d g a : Addr) (xs : List V), vs = [.ref d, .ref a] ∧ Deck H d g ∧ H a = some (.lst xs) ∧ a ≠ g ∧ xs ≠ [] ∧ xs.length ≤ 1000 ∧
  ∀ (x : V) (H' : Hp), x ∈ xs → Deck H' d g → Mv d g H H' → Q x H'
def spPickS : Sp := fun vs H Q _ => ∃ (d g : Addr) (z : Str), vs = [.ref d, .str z] ∧ Deck H d g ∧ z.cps.toList ≠ [] ∧ z.length ≤ 1000 ∧
  ∀ (c : Nat) (H' : Hp), c ∈ z.cps.toList → Deck H' d g → Mv d g H H' → Q (.str ⟨#[c]⟩) H'
theorem at_in {α : Type} {xs : List α} {r : Int} (h0 : 0 ≤ r) (h1 : r < xs.length) : ∃ x, x ∈ xs ∧ atI xs r = some x := by
  obtain ⟨j, rfl⟩ : ∃ j : Nat, r = (j : Int) := ⟨r.toNat, by omega⟩
  have hj : j < xs.length := by omega
  exact ⟨xs[j], List.getElem_mem hj, atI_nat (List.getElem?_eq_getElem hj)⟩
theorem str_len (z : Str) : z.length = z.cps.toList.length := by
  rw [Array.length_toList]; rfl
theorem pop_at (L : List Int) (c : Int) : ((L ++ [c]).map V.int)[((L ++ [c]).map V.int).length - 1]? = some (.int c) := by
  rw [List.map_append, List.map_singleton, List.length_append, List.length_singleton, Nat.add_sub_cancel, List.getElem?_append_right (Nat.le_refl _), Nat.sub_self]
  rfl
theorem pop_left (L : List Int) (c : Int) : ((L ++ [c]).map V.int).dropLast = L.map V.int := by
  rw [List.map_append, List.map_singleton, List.dropLast_concat]
theorem snoc_of {L : List Int} (h : L ≠ []) : ∃ L0 c, L = L0 ++ [c] := ⟨L.dropLast, L.getLast h, (List.dropLast_concat_getLast h).symm⟩
theorem mul_small {i j : Int} (h0 : 0 ≤ i) (h1 : i < 2 ^ 64) : CMul i j := .inl ⟨by omega, h1⟩
theorem mul_smallR {i j : Int} (h0 : 0 ≤ j) (h1 : j < 2 ^ 64) : CMul i j := .inr ⟨by omega, h1⟩
theorem ty_l {K : PySem.W.Frag} {H : Hp} {a : Addr} {xs : List V} (h : SqL K H a xs) : tyV K "list" (.ref a) H := Or.inl ⟨rfl, xs, h⟩
theorem lt_c {a b : Int} (h : a < b) : a < b := h
theorem def_mk {P : Program} {w : World} {K : PySem.W.Frag} {mg : Str → Option Value} {base : Heap} {k : Nat} {x : Str} {st : Stmt} {f : Addr} {fd : FuncData} {ps : List Str} {sp : Sp} (F : Fun K x x st f fd) (gl : mg x = some (.ref f)) (b : Binds K fd ps []) (h : FnG P w K mg base CX0 k f fd ps sp) : DefG P w K mg base k x ps sp :=
  ⟨⟨f, fd, h, gl, F.kp, b⟩⟩
end GL
namespace GL
open PySem PySem.Spec PyProof.Rows L2 RZ
theorem truth_intsG {prog : Program} {w : World} {A : Around} {ns : List Int} {its : List Value} (r : Vals (ns.map V.int) its) :
    TruthOf prog w A (fun i v => its.toArray[i]? = some v) (fun i => (ns.map fun n => n != 0).getD i false) := by
  intro i v s Q E hv hq
  have hv' : its[i]? = some v := by simpa using hv
  have li : i < ns.length := by
    have := (List.getElem?_eq_some_iff.mp hv').1
    have e := r.length
    rw [List.length_map] at e
    omega
  have e1 : (ns.map V.int)[i]? = some (.int ns[i]) := by rw [List.getElem?_map, List.getElem?_eq_getElem li]; rfl
  obtain ⟨u, hu, ru⟩ := r.get e1
  rw [hv'] at hu
  cases hu
  obtain ⟨t, rfl⟩ := ru
  have hg : (ns.map fun n => n != 0).getD i false = (ns[i] != 0) := by
    rw [List.getD_eq_getElem?_getD, List.getElem?_map, List.getElem?_eq_getElem li]; rfl
  have hq' : Q ((ns.map fun n => n != 0).getD i false) s := hq
  rw [hg] at hq'
  exact PySem.P.truthy_int hq'
section
variable {X : Cx}
theorem walk_zipT {K : PySem.W.Frag} {a b : Addr} {xs ys : List V} {n : Nat} (hn : n = min xs.length ys.length) : Walk (ItzT K a b) n (fun H => SqT K H a xs ∧ SqT K H b ys) (YPair (fun i => xs[i]?) (fun i => ys[i]?)) where
  goes := fun i H hi h => ⟨xs, ys, xs[i]'(by omega), ys[i]'(by omega), h.1, h.2, List.getElem?_eq_getElem _, List.getElem?_eq_getElem _⟩
  stops := fun H h => ⟨xs, ys, h.1, h.2, by omega⟩
  yields := fun i H x H' _ h y => by
    obtain ⟨T, u, v, e1, e2, e3, f1, f2⟩ := y
    exact ⟨T, u, v, e1, e2, e3, f1 _ h.1, f2 _ h.2⟩
theorem op_inK {K : PySem.W.Frag} (h : X.K = K := by rfl) : OpR X (compareOp .In) (rIn K false) := h ▸ op_in_seq
theorem op_notInK {K : PySem.W.Frag} (h : X.K = K := by rfl) : OpR X (compareOp .NotIn) (rIn K true) := h ▸ op_notIn_seq
/-- any of a list of ints -/
def rAnyI (K : PySem.W.Frag) : List V → Hp → VK → Prop := fun vs H Q => ∃ (a : Addr) (ns : List Int), vs = [V.ref a] ∧ SqL K H a (ns.map V.int) ∧ Q (.bl (ns.any fun n => n != 0)) H
theorem cr_anyI (calm : X.calm = true) : CallR X (.builtin "any") (rAnyI X.K) := by
  intro pins s σ H vs us Q I r h
  obtain ⟨a, ns, rfl, hs, q⟩ := h
  obtain ⟨its, rv, hl, _⟩ := I.list hs
  have en : its.length = ns.length := by rw [← rv.length, List.length_map]
  rw [Vals.ref1 r]
  refine call_any_walk (iter_any hl.isList ?_)
  rintro s₂ rfl st hne
  refine ⟨_, _, _, _, _, _, _, rfl, Walks.list (A := X.A.in1) (I.ok.hd calm) _ a hne its.toArray, st, truth_intsG rv, ?_⟩
  intro h' tk hk
  refine ⟨.bl _, H, I.kept (fun b o eo => hk b o (fun hm => ?_) (Heap.get?_push_of_some _ eo)), ?_, q⟩
  · rcases List.mem_cons.mp hm with e1 | hm
    · exact absurd (e1 ▸ Heap.lt_size eo) (Nat.lt_irrefl _)
    · cases hm
  · have ea := any_range (ns.map fun n => n != 0)
    rw [List.length_map] at ea
    show Value.bool _ = Value.bool _
    rw [List.size_toArray, en, ea, List.any_map]
    rfl
end

/-! ### data that may be shown: at most B signs, at most k deep -/
structure Nice (B k : Nat) (d : PyData) : Prop where
  sh : d.showable = true
  nd : d.hasDict = false
  dp : d.depth ≤ k
  sz : d.shown.length ≤ B
theorem Nice.mono {B B' k k' : Nat} {d : PyData} (h : Nice B k d) (hb : B ≤ B') (hk : k ≤ k') : Nice B' k' d := ⟨h.sh, h.nd, Nat.le_trans h.dp hk, Nat.le_trans h.sz hb⟩
theorem shownAll_len : ∀ ds : List PyData, (PyData.shownAll ds).length = ds.length
  | [] => rfl
  | d :: r => by
    show (PyData.shownAll r).length + 1 = r.length + 1
    rw [shownAll_len r]
theorem shownAll_sum {B : Nat} : ∀ ds : List PyData, (∀ d ∈ ds, d.shown.length ≤ B) → ((PyData.shownAll ds).map (·.length)).sum ≤ ds.length * B
  | [], _ => by simp [PyData.shownAll]
  | d :: r, h => by
    have ih := shownAll_sum (B := B) r fun x hx => h x (List.mem_cons_of_mem _ hx)
    have h1 := h d List.mem_cons_self
    show ((d.shown :: PyData.shownAll r).map (·.length)).sum ≤ (r.length + 1) * B
    rw [List.map_cons, List.sum_cons, Nat.succ_mul]
    omega
theorem showableAll_of : ∀ ds : List PyData, (∀ d ∈ ds, d.showable = true) → PyData.showableAll ds = true
  | [], _ => rfl
  | d :: r, h => by
    show (d.showable && PyData.showableAll r) = true
    rw [h d List.mem_cons_self, showableAll_of r fun x hx => h x (List.mem_cons_of_mem _ hx)]; rfl
theorem hasDictAll_of : ∀ ds : List PyData, (∀ d ∈ ds, d.hasDict = false) → PyData.hasDictAll ds = false
  | [], _ => rfl
  | d :: r, h => by
    show (d.hasDict || PyData.hasDictAll r) = false
    rw [h d List.mem_cons_self, hasDictAll_of r fun x hx => h x (List.mem_cons_of_mem _ hx)]; rfl
theorem depthAll_of {k : Nat} : ∀ ds : List PyData, (∀ d ∈ ds, d.depth ≤ k) → PyData.depthAll ds ≤ k
  | [], _ => Nat.zero_le _
  | d :: r, h => by
    show max d.depth (PyData.depthAll r) ≤ k
    have h1 := h d List.mem_cons_self
    have h2 := depthAll_of (k := k) r fun x hx => h x (List.mem_cons_of_mem _ hx)
    omega
theorem Nice.tup {B k n : Nat} {ds : List PyData} (h : ∀ d ∈ ds, Nice B k d) (hn : ds.length ≤ n) : Nice (n * (B + 2) + 3) (k + 1) (.tuple ds) where
  sh := showableAll_of ds fun d hd => (h d hd).sh
  nd := hasDictAll_of ds fun d hd => (h d hd).nd
  dp := by
    show PyData.depthAll ds + 1 ≤ k + 1
    have := depthAll_of ds fun d hd => (h d hd).dp
    omega
  sz := by
    show (tupleText (PyData.shownAll ds)).length ≤ _
    have h1 := tupleText_len_le (PyData.shownAll ds)
    have h2 := shownAll_sum ds fun d hd => (h d hd).sz
    rw [shownAll_len] at h1
    have h3 : ds.length * B + 2 * ds.length ≤ n * (B + 2) := by
      have : ds.length * (B + 2) ≤ n * (B + 2) := Nat.mul_le_mul_right _ hn
      rw [Nat.mul_add] at this
      omega
    omega
theorem Nice.lst {B k n : Nat} {ds : List PyData} (h : ∀ d ∈ ds, Nice B k d) (hn : ds.length ≤ n) : Nice (n * (B + 2) + 3) (k + 1) (.list ds) where
  sh := showableAll_of ds fun d hd => (h d hd).sh
  nd := hasDictAll_of ds fun d hd => (h d hd).nd
  dp := by
    show PyData.depthAll ds + 1 ≤ k + 1
    have := depthAll_of ds fun d hd => (h d hd).dp
    omega
  sz := by
    show (listText (PyData.shownAll ds)).length ≤ _
    have h1 := listText_len_le (PyData.shownAll ds)
    have h2 := shownAll_sum ds fun d hd => (h d hd).sz
    rw [shownAll_len] at h1
    have h3 : ds.length * B + 2 * ds.length ≤ n * (B + 2) := by
      have : ds.length * (B + 2) ≤ n * (B + 2) := Nat.mul_le_mul_right _ hn
      rw [Nat.mul_add] at this
      omega
    omega
theorem Nice.bl (b : Bool) : Nice 5 0 (.bool b) := by
  cases b
  · exact ⟨rfl, rfl, Nat.le_refl _, by decide +kernel⟩
  · exact ⟨rfl, rfl, Nat.le_refl _, by decide +kernel⟩
theorem small_ints : ∀ i : Fin 401, (Str.ofString (toString ((i.val : Int) - 200))).length ≤ 5 ∧ ((i.val : Int) - 200).natAbs.log2 < 1920 := by decide +kernel
theorem Nice.int {i : Int} (h0 : -200 ≤ i) (h1 : i ≤ 200) : Nice 5 0 (.int i) := by
  have h := small_ints ⟨(i + 200).toNat, by omega⟩
  have e : (((i + 200).toNat : Nat) : Int) - 200 = i := by omega
  simp only [e] at h
  exact ⟨decide_eq_true h.2, rfl, Nat.le_refl _, h.1⟩
theorem Nice.str {z : Str} {n : Nat} (hl : z.cps.toList.length ≤ n) (hc : ∀ c ∈ z.cps.toList, c < 128) : Nice (10 * n + 2) 0 (.str z) := by
  refine ⟨rfl, rfl, Nat.le_refl _, ?_⟩
  have h := StrLaws.reprText_len z fun c hm => Nat.lt_trans (hc c hm) (by decide)
  rw [str_len z] at h
  show (reprText z).length ≤ _
  omega
section
variable {X : Cx}
theorem call_reprN (hc : Calm X.A) (hu : X.A.units + 100 < cLine) : CallR X (.builtin "repr") (fun xs H Q => ∃ (a : Addr) (d : PyData) (B k : Nat), xs = [.ref a] ∧ Dp X.K H (.ref a) d ∧ Nice B k d ∧ B ≤ 100000 ∧ k ≤ 60 ∧ Q (.str d.shown) H) := by
  intro pins s σ H xs us Q I r h
  obtain ⟨a, d, B, k, e, hd, hn, hb, hk, q⟩ := h
  exact call_reprD hc hu pins s σ H xs us Q I r ⟨a, d, e, hd, hn.sh, hn.nd, Nat.le_trans hn.dp (by omega), small (Nat.le_trans hn.sz hb), q⟩
end
theorem sq_mv {K : PySem.W.Frag} {H H' : Hp} {d g a : Addr} {xs : List V} (D : Deck H d g) (m : Mv d g H H') (h : SqT K H a xs) : SqT K H' a xs := by
  obtain ⟨k, L, h1, h2, _⟩ := D.ex
  rcases h with (h | ⟨o, h⟩) | h
  · exact .inl (.inl (m.keep _ _ h (ne_of h h1 (fun z => nomatch z)) (ne_of h h2 (fun z => nomatch z))))
  · exact .inl (.inr ⟨o, m.keep _ _ h (ne_of h h1 (fun z => nomatch z)) (ne_of h h2 (fun z => nomatch z))⟩)
  · exact .inr h
/-- t + u, whatever they are -/
theorem catA_of {K : PySem.W.Frag} {H : Hp} {a b : Addr} {xs ys : List V} {Q : VK} (ha : SqT K H a xs) (hb : SqT K H b ys) (hl : xs.length + ys.length ≤ 100000) (q : ∀ p H', Same H H' → SqT K H' p (xs ++ ys) → Q (.ref p) H') : rCatA K (.ref a) (.ref b) H Q := by
  refine ⟨a, b, xs, ys, rfl, rfl, ha, hb, small hl, fun e => ?_, fun _ e => ?_, fun _ _ p np => ?_⟩
  · refine q b H (Same.refl H) ?_
    rw [e, List.nil_append]; exact hb
  · refine q a H (Same.refl H) ?_
    rw [e, List.append_nil]; exact ha
  · exact q p _ (Same.new np) (tofT upd_same)
theorem slA_of {K : PySem.W.Frag} {H : Hp} {a : Addr} {xs : List V} {lo hi : Option Int} {Q : VK} (ha : SqT K H a xs) (q : ∀ p H', Same H H' → SqT K H' p (cutV xs lo hi) → Q (.ref p) H') : rSlA K (.ref a) lo hi H Q := by
  refine ⟨a, xs, rfl, ha, fun e => ?_, fun _ p np => ?_⟩
  · refine q a H (Same.refl H) ?_
    unfold cutV
    rw [e.1, e.2, Nat.sub_zero, List.drop_zero, List.take_length]; exact ha
  · exact q p _ (Same.new np) (tofT upd_same)
end GL
namespace GL
open PySem PySem.Spec PyProof.Rows L2 PySem.W PySem.Calls

/-! ### a target list with a star: (a, .., *b, .., c) -/
section
variable {prog : Program} {w : World} {A : Around} {E : Value → Shared → Prop} {s : Shared}
/-- a tuple told out to n targets, the one at i starred: the middle becomes a new list behind all there is -/
theorem star_items {a : Addr} {xs : Array Value} {n i : Nat} {Q : List Value → Shared → Prop} (ht : IsTup s.heap a xs) (hh : A.handled = none) (hi : i < n) (hn : n ≤ xs.size + 1) (hz : xs.size ≤ 16384)
    (h : ∀ (h' : Heap) (tk : Nat), (∀ b o, s.heap.get? b = some o → h'.get? b = some o) →
      Q (xs.toList.take i ++ [.ref h'.objs.size] ++ (xs.toList.drop i).drop (xs.size + 1 - n)) { s with heap := h'.push { cls := .type "list", data := .seq ((xs.toList.drop i).take (xs.size + 1 - n)).toArray }, toks := tk }) :
    wpAny (model prog w) A (unpackItems (.ref a) n (some i)) Q E s := by
  have la : a < s.heap.objs.size := by obtain ⟨o, ho, _⟩ := ht; exact Heap.lt_size ho
  have na : a ≠ s.heap.objs.size := Nat.ne_of_lt la
  unfold unpackItems notIterableAtAll
  refine wpAny_bind (wpAny_bind (wpAny_specialOf ht.typeIs slot_tuple_iter.lookup (wpAny_pure ?_)))
  simp only [Bool.false_eq_true, if_false]
  refine wpAny_bind (wpAny_holding (iter_tuple ht (wpAny_bind (wpAny_holding (draw_tuple na i 0 _ _ ⟨_, Heap.get?_push_size _ rfl, rfl, rfl⟩ (ht.push _) (by omega) fun h1 it1 sb1 => ?_)))))
  rw [Nat.zero_add] at it1
  have t1 : IsTup h1 a xs := (ht.push _).extBut sb1.extBut na
  have lI : s.heap.objs.size < h1.objs.size := by obtain ⟨o, ho, _⟩ := it1; exact Heap.lt_size ho
  have la1 : a < h1.objs.size := by obtain ⟨o, ho, _⟩ := t1; exact Heap.lt_size ho
  rw [List.drop_zero]
  have l1 : (xs.toList.take i).length = i := by rw [List.length_take, Array.length_toList]; omega
  rw [if_neg (by omega : ¬ (xs.toList.take i).length < i)]
  refine wpAny_bind (wpAny_holding (kun_collect (s := { s with heap := h1 }) (T := "tuple_iterator") (.inr (.inr (.inr rfl))) (Walks.tuple (A := A.in1) hh s.heap.objs.size a na xs) (fun j u st => st.1.typeIs) (k := i) (by omega) ⟨it1, t1⟩ lI la1 (fun h2 tk k2 => ?_) (by rw [sizeLine_eq]; omega)))
  have l2 : (xs.toList.drop i).length = xs.size - i := by rw [List.length_drop, Array.length_toList]
  have l3 : (xs.toList.drop i).length - (n - 1 - i) = xs.size + 1 - n := by omega
  show wpAny _ _ (if (xs.toList.drop i).length < n - 1 - i then _ else _) _ _ _
  rw [if_neg (by omega)]
  show wpAny _ _ (newList ((xs.toList.drop i).take ((xs.toList.drop i).length - (n - 1 - i))) >>= fun d => pure (xs.toList.take i ++ [d] ++ (xs.toList.drop i).drop ((xs.toList.drop i).length - (n - 1 - i)))) _ _ _
  rw [l3]
  have kp : ∀ b o, s.heap.get? b = some o → h2.get? b = some o := fun b o e => k2 b o (Nat.ne_of_lt (Heap.lt_size e)) (sb1.extBut b o (Nat.ne_of_lt (Heap.lt_size e)) (Heap.get?_push_of_some _ e))
  exact wpAny_bind (wpAny_newList (s := { s with heap := h2, toks := tk }) (wpAny_pure (h h2 tk kp)) (by rw [List.length_take, l2, sizeLine_eq]; omega))
end
section
variable {X : Cx} {es : List Expr} {t : TGs} {m n i k : Nat} {pos : Pos}
/-- (a, .., *b, .., c) = a tuple -/
def gStar (K : PySem.W.Frag) (n i : Nat) (t : TGs) : TG := fun v σ H Q => ∃ a xs, v = .ref a ∧ SqT K H a xs ∧ n ≤ xs.length + 1 ∧ xs.length ≤ 1000 ∧
  ∀ D, H D = none → t (xs.take i ++ [.ref D] ++ (xs.drop i).drop (xs.length + 1 - n)) σ (upd H D (.lst ((xs.drop i).take (xs.length + 1 - n)))) Q
theorem pg_star (hc : X.calm = true) (h : PGs X es t) (hn : (assignEach es X.env).length = n := by rfl) (hst : (assignEach es X.env).findIdx? (·.1) = some i := by rfl) (hi : i < n := by decide) : PG X (.Tuple es k pos) (gStar X.K n i t) := by
  constructor
  intro pins s σ H v u Q I r hw
  obtain ⟨a, xs, rfl, hq, h1, h2, hw⟩ := hw
  cases r
  obtain ⟨its, rv, ht, hz⟩ := I.tuple hq
  have el : its.length = xs.length := rv.length.symm
  rw [assign_Tuple]
  refine wpAny_bind (wpAny_standAt ?_)
  unfold unpack
  rw [hn, hst]
  refine wpAny_bind (wpAny_holding (star_items ht (I.ok.hd hc) hi (by rw [List.size_toArray, el]; exact h1) (by rw [List.size_toArray, el]; omega) fun h' tk kp => ?_))
  have I1 : Inv X pins σ H { s with heap := h', toks := tk } := I.kept kp
  have e3 : its.toArray.toList = its := by simp
  have e4 : its.toArray.size = xs.length := by rw [List.size_toArray, el]
  rw [e3, e4]
  have rd : ∀ j, Vals (xs.drop j) (its.drop j) := fun j => rv.drop j
  have rt : Vals ((xs.drop i).take (xs.length + 1 - n)) ((its.drop i).take (xs.length + 1 - n)) := (rd i).take _
  have I2 : Inv X pins σ (upd H h'.objs.size (.lst ((xs.drop i).take (xs.length + 1 - n)))) ({ s with heap := h'.push { cls := .type "list", data := .seq ((its.drop i).take (xs.length + 1 - n)).toArray }, toks := tk } : Shared) :=
    I1.laid (t' := tk) (fun b o e => Heap.get?_push_of_some _ e) (Nat.le_refl _) ⟨by rw [List.length_take, List.length_drop, sizeLine_eq]; omega, _, 0, rt, Heap.get?_push_size _ rfl⟩
  have r1 : Vals [V.ref h'.objs.size] [Value.ref h'.objs.size] := .cons rfl .nil
  exact h.run pins _ σ _ _ _ Q I2 (((rv.take i).append r1).append ((rd i).drop _)) (hw h'.objs.size (I1.hok.fresh (Nat.le_refl _)))
end

section
variable {X : Cx} {t : TG} {u : TGs} {e : Expr} {es : List Expr} {p : Pos}
theorem pgs_consS (h1 : PG X e t) (h2 : PGs X es u) (hs : (assignEach (.Starred e p :: es) X.env).map (·.2) = assign e X.env :: (assignEach es X.env).map (·.2) := by rfl) : PGs X (.Starred e p :: es) (gCons t u) := by
  constructor
  intro pins s σ H vs us Q I r h
  obtain ⟨v, vr, rfl, h⟩ := h
  cases r with
  | cons r rr =>
    rw [hs]
    exact assignInOrder_cons (thn (h1.run pins s σ H _ _ _ I r h) fun _ s1 ⟨σ1, H1, I1, q1⟩ => h2.run pins s1 σ1 H1 _ _ Q I1 rr q1)
end
/-! ### an own operator: x & y by the class's def -/
section
variable {X : Cx} {CX : CXT} {k : Nat} {f C : Addr} {fd : FuncData} {ps : List Str} {sp : Sp} {E : XK} {op : Operator}
/-- what the class must say of an operator's def -/
structure OpK (K : PySem.W.Frag) (C f : Addr) (d : Str) : Prop where
  sf : PySem.W.selfFirst K C = true
  at_ : PySem.W.findIn K (.ref C) d = some (some (.ref f))
  fn : PySem.W.isFn K (.ref f) = true
/-- both sides instances of the class at C; the answer is an object -/
def rOwn (C : Addr) (sp : Sp) (E : XK) : R2 := fun x y H Q => ∃ a dx fs b dy gs, x = .ref a ∧ y = .ref b ∧ H a = some (.ins C dx fs) ∧ H b = some (.ins C dy gs) ∧ sp [.ref a, .ref b] H (fun v H2 => (∃ r, v = .ref r) ∧ Q v H2) E
theorem op_own {d : Str} (o : OpK X.K C f d) (hd : (PySem.dunder op.info.2 : Str) = d) (F : FnG X.prog X.w X.K X.mg X.base CX k f fd ps sp) (hr : Room k X.A) (hc : Calm X.A) (hb : Binds X.K fd ps []) (hx : Passes CX X E) : OpR X (binaryOp op) (rOwn C sp E) := by
  intro pins s σ H x y v u Q I rx ry h
  obtain ⟨a, dx, fs, b, dy, gs, rfl, rfl, ha, hbb, q⟩ := h
  obtain rfl : v = .ref a := rx
  obtain rfl : u = .ref b := ry
  obtain ⟨mA, OA, _⟩ := ins_get I.hok ha
  obtain ⟨mB, OB, _⟩ := ins_get I.hok hbb
  obtain ⟨odA, IA, _⟩ := OA.look
  obtain ⟨odB, IB, _⟩ := OB.look
  obtain ⟨m, fr⟩ := I.fr
  refine PySem.W.binop_K fr I.ok.mod.kin IA (IB.type) o.sf (hd ▸ o.at_) o.fn ?_
  refine wpAny_mono (runG (us := [.ref a, .ref b]) (vs := [.ref a, .ref b]) F hr hc hb .nil hx I (.cons rfl (.cons rfl .nil)) q) (fun u s1 hu => ?_) fun _ _ z => z
  obtain ⟨v, H1, I1, rv, ⟨r, rfl⟩, q1⟩ := hu
  obtain rfl : u = .ref r := rv
  exact ⟨V.ref r, H1, I1, rfl, q1⟩
end

/-! ### defs with *names, where no guard is under way -/
def FnRG (P : Program) (w : World) (K : PySem.W.Frag) (mg : Str → Option Value) (base : Heap) (CX : CXT) (k : Nat) (f : Addr) (sp : Sp) : Prop :=
  ∀ (A : Around) (outer : List Env) (s : Shared) (H : Hp) (us : List Value) (vs : List V) (Q : VK) (E : XK), Room k A → Calm A → Env0 P w K mg base A outer s H → Vals vs us → sp vs H Q E →
    codeAny (model P w) A (.call (.ref f) ⟨us, []⟩) (CR CX outer P w H s Q E) s
section
variable {P : Program} {w : World} {K : PySem.W.Frag} {mg : Str → Option Value} {base : Heap} {k : Nat} {f : Addr} {name qual pv : Str} {params : Arguments} {body : List Stmt} {scope : Scope} {dV kV doc pm cdv ct oc : Value} {an od : Option Addr}
  {osl : Array (Option Value)} {N ps : List Str} {sp : Sp}
/-- def f(a, .., *v) -/
theorem fn_starG (lk : K.lookup f = some ⟨oc, od, .func (PySem.W.fnOf name qual params body scope dV kV doc pm an cdv ct), osl⟩) (hcd : PySem.W.codeIn K cdv qual = true) (S : FnScope N (ps ++ [pv]) scope)
    (hb : ∀ us rest : List Value, us.length = ps.length → bindArgs (PySem.W.fnOf name qual params body scope dV kV doc pm an cdv ct) ⟨us ++ rest, []⟩ = (newTuple rest >>= fun t => pure (ps.zip us ++ [(pv, t)])))
    (walk : ∀ (cdv : Value) (A : Around) (outer : List Env) (s : Shared) (H : Hp) (vs : List V) (Q : VK) (E : XK), Room k (A.deeper (envOfC qual scope s.heap.objs.size f cdv)) → Calm (A.deeper (envOfC qual scope s.heap.objs.size f cdv)) → sp vs H Q E →
      ∃ t, PSs (cxOf CX0 P w K mg base N qual scope f cdv A outer s H E).nox body t ∧ t { nx := fun _ H' => Q .non H', rt := Q } (start N vs) H) :
    FnRG P w K mg base CX0 (k + 1) f (fun vs H Q E => ∃ ws rest, vs = ws ++ rest ∧ ws.length = ps.length ∧ rest.length ≤ sizeLine ∧ ∀ p, H p = Option.none → sp (ws ++ [V.ref p]) (upd H p (.tup rest)) Q E) := by
  intro A outer s H us vs Q E hr hc e0 r hsp
  obtain ⟨ws, rest, rfl, hl, hz, hq⟩ := hsp
  obtain ⟨u1, u2, rfl, r1, r2⟩ := StX.vals_split r
  have free : H s.heap.objs.size = Option.none := e0.hok.fresh (Nat.le_refl _)
  have m1 : u1.length = ps.length := r1.length.symm.trans hl
  have m2 : u2.length ≤ sizeLine := r2.length ▸ hz
  refine StX.run_bnd lk hcd S hr e0 (G := fun xs H2 => ∃ p, H p = Option.none ∧ xs = ws ++ [V.ref p] ∧ H2 = upd H p (.tup rest)) (fun A' Ex Q' h => ?_) fun s2 H2 xs g hr' => ?_
  · rw [hb u1 u2 m1]
    refine wpAny_bind (wpAny_newTuple (wpAny_pure ?_) m2)
    have new : ObjOk P w (upd H s.heap.objs.size (.tup rest)) (s.heap.push ({ cls := .type "tuple", data := .seq u2.toArray } : Obj)) s.heap.objs.size (.tup rest) := ⟨hz, u2, r2, ⟨_, Heap.get?_push_size _ rfl, rfl, _, rfl⟩⟩
    have rr : Vals (ws ++ [V.ref s.heap.objs.size]) (u1 ++ [Value.ref s.heap.objs.size]) := r1.append (.cons rfl .nil)
    have z := h _ _ _ _ (StX.env0_laid e0 new) (StX.un_laid free) rfl (fun e s' f => f) rr (by rw [List.length_append, List.length_append, hl] <;> rfl) ⟨_, free, rfl, rfl⟩
    rw [List.zip_append m1.symm] at z
    exact z
  · obtain ⟨p, hp, rfl, rfl⟩ := g
    obtain ⟨t, d, q⟩ := walk cdv A outer s2 _ _ Q E hr' (hc.deeper _) (hq p hp)
    exact ⟨t, d.nox, q⟩
end
section
variable {X : Cx} {CX : CXT} {k : Nat} {f C : Addr} {sp : Sp} {E : XK} {m : Str} {pos apos : Pos} {e o : Expr} {es : List Expr} {ta : TE} {t : TA}
theorem FnRG.up {P : Program} {w : World} {K : PySem.W.Frag} {mg : Str → Option Value} {base : Heap} {j : Nat} (F : FnRG P w K mg base CX j f sp) (h : j ≤ k) : FnRG P w K mg base CX k f sp := fun A outer s H us vs Q E r => F A outer s H us vs Q E (r.mono h)
theorem runRG {pins : List (Addr × Obj)} {σ : L2.St} {H : Hp} {s : Shared} {Q : VK} {us : List Value} {vs : List V} (F : FnRG X.prog X.w X.K X.mg X.base CX k f sp) (hr : Room k X.A) (hc : Calm X.A) (hx : Passes CX X E) (I : Inv X pins σ H s) (r : Vals vs us) (h : sp vs H Q E) :
    wpAny (model X.prog X.w) X.A (call (.ref f) us) (EP X pins σ Q) X.xe s := by
  refine wpAny_call (codeAny_mono (F X.A X.stack s H us vs Q E hr hc I.env0 r h) fun r' s' q => ?_)
  have z := out_of hx I r' s' q
  match r', z with
  | .error _, z => exact z
  | .ok (.ret _), z => exact z
/-- o.m(e, ..), m with *names -/
theorem pe_methRG {pl : Sem Bool} (he : PE X o ta) (c : Cls X.K C) (hm : Meth X.K C m f) (F : FnRG X.prog X.w X.K X.mg X.base CX k f sp) (hr : Room k X.A) (hc : Calm X.A) (hx : Passes CX X E)
    (ha : PA X (e :: es) t) (hst : starEach (e :: es) X.env = (false, eval e X.env) :: starEach es X.env := by rfl) (hpl : (backTo pos (starEach es X.env)).any (·.1) = false := by rfl)
    (ht : eval (.Call (.Attribute o m apos) (e :: es) [] pos) X.env = (eval o X.env >>= fun ov => standAt apos.atName >>= fun _ => holding [ov] (getMethod ov m pl) >>= fun fx =>
      callWith pos fx.1 fx.2 (backTo pos (starEach (e :: es) X.env)) (backToKw pos (keywordEach [] X.env))) := by rfl) :
    PE X (.Call (.Attribute o m apos) (e :: es) [] pos) (tMeth C m sp [] E ta t) := by
  constructor
  intro pins s σ H Q I h
  refine PySem.W.methodCall_KW (pl := pl) (thn (he.run pins s σ H _ I h) ?_) ht
  rintro u s1 ⟨_, H1, I1, rx, a, dx, fs, rfl, ea, l, q⟩
  obtain rfl : u = .ref a := rx
  refine getmeth_ok I1 ea c hm l (PySem.W.callWith_K (first := [.ref a]) (h₀ := X.base) I.ok.mod.kin hm.kp (thn (ha.run pos pins s1 σ H1 _ I1 q) ?_) hst hpl)
  rintro us s2 ⟨vs, H2, I2, r, q2⟩
  rw [List.append_nil] at q2
  exact ⟨I2.kIn, runRG (us := .ref a :: us) (vs := .ref a :: vs) F hr hc hx I2 (.cons rfl r) q2⟩
/-- o.m() -/
theorem pe_methRG0 {pl : Sem Bool} (he : PE X o ta) (c : Cls X.K C) (hm : Meth X.K C m f) (F : FnRG X.prog X.w X.K X.mg X.base CX k f sp) (hr : Room k X.A) (hc : Calm X.A) (hx : Passes CX X E)
    (ht : eval (.Call (.Attribute o m apos) [] [] pos) X.env = (eval o X.env >>= fun ov => standAt apos.atName >>= fun _ => holding [ov] (getMethod ov m pl) >>= fun fx =>
      callWith pos fx.1 fx.2 (backTo pos (starEach [] X.env)) (backToKw pos (keywordEach [] X.env))) := by rfl) :
    PE X (.Call (.Attribute o m apos) [] [] pos) (tMeth C m sp [] E ta tNil) := by
  constructor
  intro pins s σ H Q I h
  refine PySem.W.methodCall_KW (pl := pl) (thn (he.run pins s σ H _ I h) ?_) ht
  rintro u s1 ⟨_, H1, I1, rx, a, dx, fs, rfl, ea, l, q⟩
  obtain rfl : u = .ref a := rx
  exact getmeth_ok I1 ea c hm l (PySem.W.callWith_K0 (first := [.ref a]) I1.kIn hm.kp (runRG (us := [.ref a]) (vs := [.ref a]) F hr hc hx I1 (.cons rfl .nil) q))
end
end GL
namespace GL
open PySem PySem.Spec PyProof.Rows L2 PySem.W PySem.Calls

section
variable {prog : Program} {w : World} {A : Around} {E : Value → Shared → Prop}
/-- a name laid into a dict that has no such name -/
theorem ns_add {s : Shared} {d : Addr} {es : List DictEntry} {n : Nat} {k : Str} {v : Value} {Q : Unit → Shared → Prop} (hd : s.heap.get? d = some (dictOf es n)) (hs : ∀ e ∈ es, e.key.isStr k = false ∧ e.refKey = false)
    (h : ∀ h', (∀ b o, b ≠ d → s.heap.get? b = some o → h'.get? b = some o) → h'.get? d = some (dictOf (es ++ [⟨PyData.keyHash w.params k, .str k s.toks, v⟩]) (n + 1)) → Q () { s with heap := h', toks := s.toks + 1 }) :
    wpAny (model prog w) A (nsSet d k v) Q E s := by
  have a1 : es.any (·.key.isStr k) = false := List.any_eq_false.mpr fun e he => by rw [(hs e he).1]; decide
  have a2 : es.any (·.refKey) = false := List.any_eq_false.mpr fun e he => by rw [(hs e he).2]; decide
  have put : Obj.putName k (PyData.keyHash w.params k) (.str k s.toks) v (dictOf es n) = dictOf (es ++ [⟨PyData.keyHash w.params k, .str k s.toks, v⟩]) (n + 1) := by
    rw [putName_dict, putL_new fun e he => (hs e he).1]
    show dictOf _ (if es.any (·.key.isStr k) then n else n + 1) = _
    rw [a1, if_neg Bool.false_ne_true]
  have may : aRefKeyMayBeTheName k es.toArray = false := by
    rw [aRefKeyMayBeTheName_at, ← Array.any_toList, ← Array.any_toList]
    show (!es.any (·.key.isStr k) && es.any (·.refKey)) = false
    rw [a2, Bool.and_false]
  unfold nsSet
  refine wpAny_bind (wpAny_bind (wpAny_askSetting (wpAny_pure (wpAny_bind (wpAny_mkText (wpAny_bind (wpAny_loadPart hd ?_)))))))
  dsimp only
  rw [may]
  refine wpAny_updatePart hd (h _ (fun b o hb e => ?_) ?_)
  · exact (Heap.get?_update_other _ _ (Ne.symm hb)).trans e
  · refine (Heap.get?_update_self _ hd ?_).trans (congrArg some put)
    show (Obj.putName k (PyData.keyHash w.params k) (.str k s.toks) v (dictOf es n)).isFreed = false
    rw [put]
    rfl
theorem ns_fill {d : Addr} {Q : PUnit → Shared → Prop} : ∀ (ex : List (Str × Value)) (s : Shared) (es : List DictEntry) (n : Nat), s.heap.get? d = some (dictOf es n) → (∀ e ∈ es, (∀ x ∈ ex, e.key.isStr x.1 = false) ∧ e.refKey = false) → (ex.map (·.1)).Nodup →
    (∀ h', (∀ b o, b ≠ d → s.heap.get? b = some o → h'.get? b = some o) → h'.get? d = some (dictOf (es ++ kwEs w.params s.toks ex) (n + ex.length)) → Q ⟨⟩ { s with heap := h', toks := s.toks + ex.length }) →
    wpAny (model prog w) A (forIn ex PUnit.unit fun x _ => (nsSet d x.1 x.2 >>= fun _ => pure (ForInStep.yield PUnit.unit))) Q E s
  | [], s, es, n, hd, _, _, h => by
    rw [List.forIn_nil]
    exact wpAny_pure (h s.heap (fun _ _ _ e => e) (by rw [show kwEs w.params s.toks [] = [] from rfl, List.append_nil]; exact hd))
  | x :: r, s, es, n, hd, hs, hn, h => by
    obtain ⟨n1, n2⟩ := List.nodup_cons.mp (show (x.1 :: r.map (·.1)).Nodup from hn)
    rw [List.forIn_cons]
    refine wpAny_bind (wpAny_bind (ns_add hd (fun e he => ⟨(hs e he).1 x (.head _), (hs e he).2⟩) fun h1 k1 g1 => wpAny_pure ?_))
    refine ns_fill r { s with heap := h1, toks := s.toks + 1 } _ _ g1 (fun e he => ?_) n2 fun h2 k2 g2 => ?_
    · rcases List.mem_append.mp he with he | he
      · exact ⟨fun y hy => (hs e he).1 y (.tail _ hy), (hs e he).2⟩
      · obtain rfl := List.mem_singleton.mp he
        exact ⟨fun y hy => (beq_eq_false_iff_ne.mpr fun q => n1 (q ▸ List.mem_map_of_mem hy) : (x.1 == y.1) = false), rfl⟩
    · have t1 : s.toks + 1 + r.length = s.toks + (r.length + 1) := by omega
      have t2 : n + 1 + r.length = n + (r.length + 1) := by omega
      show Q ⟨⟩ { s with heap := h2, toks := s.toks + 1 + r.length }
      rw [t1]
      refine h h2 (fun b o hb e => k2 b o hb (k1 b o hb e)) ?_
      rw [t2, List.append_assoc] at g2
      exact g2
end
/-- keywords as a dict's content -/
def kwK (ks : List Str) (zs : List V) : List (Key × V) := (ks.zip zs).map fun q => (.inr q.1, q.2)
def kwV (ks : List Str) (ws : List Value) : List (Key × Value) := (ks.zip ws).map fun q => (.inr q.1, q.2)
theorem kw_rel : ∀ (ks : List Str) {zs : List V} {ws : List Value}, Vals zs ws → KV (kwK ks zs) (kwV ks ws)
  | [], _, _, _ => .nil
  | k :: ks, _, _, .nil => .nil
  | k :: ks, _, _, .cons a r => .cons ⟨rfl, a⟩ (kw_rel ks r)
theorem kw_pairs {prog : Program} {w : World} : ∀ (ex : List (Str × Value)) (t : Tok), Pairs (mixKind prog w) (kwEs w.params t ex) (ex.map fun q => (.inr q.1, q.2))
  | [], _ => Pairs.nil
  | x :: r, t => Pairs.cons (show keyIs (.inr x.1) (.str x.1 t) = true from by simp [keyIs, Value.isStrOf]) rfl (kw_pairs r (t + 1))
theorem kw_obj {P : Program} {w : World} {H : Hp} {h : Heap} {d : Addr} {ks : List Str} {zs : List V} {ws : List Value} {t : Tok} {n : Nat} (hd : h.get? d = some (dictOf (kwEs w.params t (ks.zip ws)) n)) (hs : (d == sysModules) = false) (hn : ks.Nodup) (hl : ks.length ≤ 1000) (r : Vals zs ws) (l : ws.length = ks.length) :
    ObjOk P w H h d (.dK (kwK ks zs)) := by
  refine ⟨?_, hs, kwV ks ws, kw_rel ks r, _, _, _, hd, ⟨rfl, rfl, rfl⟩, rfl, fun e he => ?_, kw_pairs _ _, ?_⟩
  · unfold kwK
    rw [List.length_map, List.length_zip, sizeLine_eq]
    omega
  · obtain ⟨k, u, hk, hh⟩ := kwEs_key _ _ e (List.mem_toArray.mp he)
    exact ⟨.inr k, by rw [hk]; simp [mixKind, keyIs, Value.isStrOf], hh.trans rfl⟩
  · have e : ((ks.zip ws).map fun q => (((.inr q.1 : Key), q.2) : Key × Value)).map (·.1) = ks.map Sum.inr := by
      rw [List.map_map, show ((fun x : Key × Value => x.1) ∘ fun q : Str × Value => ((.inr q.1 : Key), q.2)) = (Sum.inr ∘ Prod.fst) from rfl, ← List.map_map, List.map_fst_zip (by omega)]
    show (((ks.zip ws).map fun q => (((.inr q.1 : Key), q.2) : Key × Value)).map (·.1)).Nodup
    rw [e]
    exact List.Pairwise.map _ (fun _ _ q z => q (Sum.inr.inj z)) hn

/-- a new object laid and tracked ahead of a def's body, by whatever steps -/
theorem env0_new {P : Program} {w : World} {K : PySem.W.Frag} {mg : Str → Option Value} {base : Heap} {A : Around} {outer : List Env} {s : Shared} {H : Hp} {h' : Heap} {tk : Nat} {u : HO} (e0 : Env0 P w K mg base A outer s H)
    (kp : ∀ b o, s.heap.get? b = some o → h'.get? b = some o) (sz : s.heap.objs.size ≤ h'.objs.size) (new : ObjOk P w (upd H s.heap.objs.size u) h' s.heap.objs.size u) :
    Env0 P w K mg base A outer { s with heap := h', toks := tk } (upd H s.heap.objs.size u) where
  frames := e0.frames
  mod := e0.mod
  bs := fun b x e => ⟨kp b x (e0.bs b x e).1, by rw [upd_ne (Nat.ne_of_lt (Heap.lt_size (e0.bs b x e).1))]; exact (e0.bs b x e).2⟩
  bsz := Nat.le_trans e0.bsz sz
  funs := Heap.FunFrames.of_keeps (fun b x e _ => ⟨x, kp b x e, rfl⟩) e0.funs
  frf := fun b hb => by
    obtain ⟨_, x, hx, _⟩ := e0.funs.mem hb
    rw [upd_ne (Nat.ne_of_lt (Heap.lt_size hx))]
    exact e0.frf b hb
  hok := e0.hok.laid kp (Nat.le_refl _) new
  bare := e0.bare

/-! ### a def with **names, called with keywords -/
def FnKG (P : Program) (w : World) (K : PySem.W.Frag) (mg : Str → Option Value) (base : Heap) (CX : CXT) (k : Nat) (f : Addr) (n : Nat) (ks : List Str) (sp : Sp) : Prop :=
  ∀ (A : Around) (outer : List Env) (s : Shared) (H : Hp) (us ws : List Value) (vs zs : List V) (Q : VK) (E : XK), Room k A → Calm A → Env0 P w K mg base A outer s H → Vals vs us → Vals zs ws → vs.length = n → zs.length = ks.length →
    (∀ p, H p = Option.none → sp (vs ++ [V.ref p]) (upd H p (.dK (kwK ks zs))) Q E) → codeAny (model P w) A (.call (.ref f) ⟨us, ks.zip ws⟩) (CR CX outer P w H s Q E) s
section
variable {P : Program} {w : World} {K : PySem.W.Frag} {mg : Str → Option Value} {base : Heap} {k : Nat} {f : Addr} {name qual pd : Str} {params : Arguments} {body : List Stmt} {scope : Scope} {dV kV doc pm cdv ct oc : Value} {an od : Option Addr}
  {osl : Array (Option Value)} {N ps ks : List Str} {sp : Sp}
theorem fn_kwG (lk : K.lookup f = some ⟨oc, od, .func (PySem.W.fnOf name qual params body scope dV kV doc pm an cdv ct), osl⟩) (hcd : PySem.W.codeIn K cdv qual = true) (S : FnScope N (ps ++ [pd]) scope) (hn : ks.Nodup) (hkl : ks.length ≤ 1000)
    (hb : ∀ us ws : List Value, us.length = ps.length → ws.length = ks.length → bindArgs (PySem.W.fnOf name qual params body scope dV kV doc pm an cdv ct) ⟨us, ks.zip ws⟩ =
      ((alloc ({ cls := .type "dict", data := .dict #[] } : Obj) : Sem Addr) >>= fun d => (forIn (ks.zip ws) PUnit.unit fun x _ => (nsSet d x.1 x.2 >>= fun _ => pure (ForInStep.yield PUnit.unit))) >>= fun _ => pure (ps.zip us ++ [(pd, Value.ref d)])))
    (walk : ∀ (cdv : Value) (A : Around) (outer : List Env) (s : Shared) (H : Hp) (vs : List V) (Q : VK) (E : XK), Room k (A.deeper (envOfC qual scope s.heap.objs.size f cdv)) → Calm (A.deeper (envOfC qual scope s.heap.objs.size f cdv)) → sp vs H Q E →
      ∃ t, PSs (cxOf CX0 P w K mg base N qual scope f cdv A outer s H E).nox body t ∧ t { nx := fun _ H' => Q .non H', rt := Q } (start N vs) H) :
    FnKG P w K mg base CX0 (k + 1) f ps.length ks sp := by
  intro A outer s H us ws vs zs Q E hr hc e0 r rz l1 l2 hq
  have free : H s.heap.objs.size = Option.none := e0.hok.fresh (Nat.le_refl _)
  have m1 : us.length = ps.length := r.length.symm.trans l1
  have m2 : ws.length = ks.length := rz.length.symm.trans l2
  refine StX.run_bnd lk hcd S hr e0 (G := fun xs H2 => ∃ p, H p = Option.none ∧ xs = vs ++ [V.ref p] ∧ H2 = upd H p (.dK (kwK ks zs))) (fun A' Ex Q' h => ?_) fun s2 H2 xs g hr' => ?_
  · rw [hb us ws m1 m2]
    have hd : (s.heap.push ({ cls := .type "dict", data := .dict #[] } : Obj)).get? s.heap.objs.size = some (dictOf [] 0) := Heap.get?_push_size _ rfl
    have nx : (((ks.zip ws).map (·.1)).Nodup) := by rw [List.map_fst_zip (by omega)]; exact hn
    refine wpAny_bind (wpAny_alloc (wpAny_bind (ns_fill (ks.zip ws) { s with heap := s.heap.push ({ cls := .type "dict", data := .dict #[] } : Obj) } [] 0 hd (fun e he => nomatch he) nx fun h' kp hg => wpAny_pure ?_)))
    have kp' : ∀ b o, s.heap.get? b = some o → h'.get? b = some o := fun b o e => kp b o (Nat.ne_of_lt (Heap.lt_size e)) (Heap.get?_push_of_some _ e)
    have new : ∀ H', ObjOk P w H' h' s.heap.objs.size (.dK (kwK ks zs)) := fun H' => kw_obj hg (beq_eq_false_iff_ne.mpr (Ne.symm (Nat.ne_of_lt (StX.env0_big e0)))) hn hkl rz m2
    have sz : s.heap.objs.size ≤ h'.objs.size := Nat.le_of_lt (Heap.lt_size hg)
    have rr : Vals (vs ++ [V.ref s.heap.objs.size]) (us ++ [Value.ref s.heap.objs.size]) := r.append (.cons rfl .nil)
    have z := h { s with heap := h', toks := s.toks + (ks.zip ws).length } _ _ _ (env0_new e0 kp' sz (new _)) (Un.laid kp' (Nat.le_refl _) free) rfl (fun e s' f => f) rr (by rw [List.length_append, List.length_append, l1] <;> rfl) ⟨_, free, rfl, rfl⟩
    rw [List.zip_append m1.symm] at z
    exact z
  · obtain ⟨p, hp, rfl, rfl⟩ := g
    obtain ⟨t, d, q⟩ := walk cdv A outer s2 _ _ Q E hr' (hc.deeper _) (hq p hp)
    exact ⟨t, d.nox, q⟩
end
section
variable {X : Cx} {CX : CXT} {k n : Nat} {f C : Addr} {ks : List Str} {sp : Sp} {E : XK} {m : Str} {pos apos : Pos} {o : Expr} {ta : TE} {tk : TA} {kws : List Keyword}
theorem FnKG.up {P : Program} {w : World} {K : PySem.W.Frag} {mg : Str → Option Value} {base : Heap} {j : Nat} (F : FnKG P w K mg base CX j f n ks sp) (h : j ≤ k) : FnKG P w K mg base CX k f n ks sp := fun A outer s H us ws vs zs Q E r => F A outer s H us ws vs zs Q E (r.mono h)
/-- without keywords -/
theorem FnKG.none {P : Program} {w : World} {K : PySem.W.Frag} {mg : Str → Option Value} {base : Heap} (F : FnKG P w K mg base CX k f n [] sp) : FnRG P w K mg base CX k f (fun vs H Q E => vs.length = n ∧ ∀ p, H p = Option.none → sp (vs ++ [V.ref p]) (upd H p (.dK [])) Q E) :=
  fun A outer s H us vs Q E r c e v q => F A outer s H us [] vs [] Q E r c e v .nil q.1 rfl q.2
def tMethKw (C : Addr) (m : Str) (ks : List Str) (sp : Sp) (E : XK) (ta : TE) (tk : TA) : TE := fun σ H Q => ta σ H fun x H1 => ∃ a dx fs, x = .ref a ∧ H1 a = some (.ins C dx fs) ∧ fs.lookup m = Option.none ∧
  tk σ H1 fun zs H2 => zs.length = ks.length ∧ ∀ p, H2 p = Option.none → sp [x, .ref p] (upd H2 p (.dK (kwK ks zs))) Q E
/-- o.m(k=e, ..), m with **names -/
theorem pe_methKwG {pl : Sem Bool} (he : PE X o ta) (c : Cls X.K C) (hm : Meth X.K C m f) (F : FnKG X.prog X.w X.K X.mg X.base CX k f 1 ks sp) (hr : Room k X.A) (hc : Calm X.A) (hx : Passes CX X E)
    (hkw : PK X kws tk) (hall : (backToKw pos (keywordEach kws X.env)).all (·.1.isSome) = true := by rfl) (hks : (backToKw pos (keywordEach kws X.env)).filterMap (·.1) = ks := by rfl)
    (hpl : ((backTo pos (starEach [] X.env)).any (·.1) || (backToKw pos (keywordEach kws X.env)).any (·.1.isNone)) = false := by rfl)
    (ht : eval (.Call (.Attribute o m apos) [] kws pos) X.env = (eval o X.env >>= fun ov => standAt apos.atName >>= fun _ => holding [ov] (getMethod ov m pl) >>= fun fx =>
      callWith pos fx.1 fx.2 (backTo pos (starEach [] X.env)) (backToKw pos (keywordEach kws X.env))) := by rfl) :
    PE X (.Call (.Attribute o m apos) [] kws pos) (tMethKw C m ks sp E ta tk) := by
  constructor
  intro pins s σ H Q I h
  refine PySem.W.methodCall_KW (pl := pl) (thn (he.run pins s σ H _ I h) ?_) ht
  rintro u s1 ⟨_, H1, I1, rx, a, dx, fs, rfl, ea, l, q⟩
  obtain rfl : u = .ref a := rx
  refine getmeth_ok I1 ea c hm l (PySem.W.callWith_KW0 (first := [.ref a]) (h₀ := X.base) I.ok.mod.kin hm.kp hall (thn (hkw.run pos pins s1 σ H1 _ I1 q) ?_) hpl)
  rintro ws s2 ⟨zs, H2, I2, rz, l2, q2⟩
  refine ⟨I2.kIn, ?_⟩
  rw [hks]
  refine wpAny_call (codeAny_mono (F X.A X.stack s2 H2 [.ref a] ws [.ref a] zs Q E hr hc I2.env0 (.cons rfl .nil) rz rfl l2 q2) fun r' s' z => ?_)
  have y := out_of hx I2 r' s' z
  match r', y with
  | .error _, y => exact y
  | .ok (.ret _), y => exact y
end
end GL
namespace GL
open PySem PySem.Spec PyProof.Rows L2 PySem.W PySem.Calls
/-! ### tuples whose own methods are called: it is known that they have no dict -/
def SqZ (K : PySem.W.Frag) (H : Hp) (a : Addr) (xs : List V) : Prop :=
  (∃ o : Obj, H a = some (.frz o (.tup xs)) ∧ o.dict = none) ∨
    ∃ (o : Obj) (its : Array Value) (n : Nat), K.lookup a = some o ∧ o.cls = .type "tuple" ∧ o.dict = none ∧ o.data = .seq its n ∧ its.size ≤ sizeLine ∧ Vals xs its.toList
theorem SqZ.t {K : PySem.W.Frag} {H : Hp} {a : Addr} {xs : List V} (h : SqZ K H a xs) : SqT K H a xs := by
  rcases h with ⟨o, h, _⟩ | ⟨o, its, n, h1, h2, _, h3, h4, h5⟩
  · exact .inl (.inr ⟨o, h⟩)
  · exact .inr ⟨o, its, n, h1, h2, h3, h4, h5⟩
theorem SqZ.to {K : PySem.W.Frag} {H H' : Hp} {a : Addr} {xs : List V} (k : ∀ o, H a = some (.frz o (.tup xs)) → H' a = some (.frz o (.tup xs))) (h : SqZ K H a xs) : SqZ K H' a xs :=
  h.imp (fun ⟨o, h, d⟩ => ⟨o, k o h, d⟩) id
theorem SqZ.same {K : PySem.W.Frag} {H H' : Hp} {a : Addr} {xs : List V} (s : Same H H') (h : SqZ K H a xs) : SqZ K H' a xs := h.to fun _ e => s _ _ e
/-- what is said of a new tuple -/
def NewZ (H : Hp) (xs : List V) (Q : VK) : Prop := ∀ (p : Addr) (o : Obj), H p = none → o.dict = none → Q (.ref p) (upd H p (.frz o (.tup xs)))
section
variable {X : Cx} {pins : List (Addr × Obj)} {σ : L2.St} {H : Hp} {s : Shared}
theorem newZ {xs : List V} {its : List Value} {Q : VK} (I : Inv X pins σ H s) (r : Vals xs its) (hz : xs.length ≤ sizeLine) (q : NewZ H xs Q) : EP X pins σ Q (.ref s.heap.objs.size) { s with heap := s.heap.push { cls := .type "tuple", data := .seq its.toArray } } :=
  ⟨.ref s.heap.objs.size, upd H s.heap.objs.size (.frz ({ cls := .type "tuple", data := .seq its.toArray } : Obj) (.tup xs)),
    I.laid (t' := s.toks) (fun b ob e => Heap.get?_push_of_some _ e) (Nat.le_refl _) (show ObjOk X.prog X.w _ _ _ (.frz _ (.tup xs)) from ⟨Heap.get?_push_size _ rfl, hz, its, r, IsTup.new _ _⟩), rfl, q _ _ (I.hok.fresh (Nat.le_refl _)) rfl⟩
/-- tuple(a list) -/
def kTupZ (K : PySem.W.Frag) : V → Hp → VK → Prop := fun x H Q => ∃ p xs, x = .ref p ∧ SqL K H p xs ∧ NewZ H xs Q
theorem pe_tupleZ {a : Expr} {ta : TE} {p pos : Pos} (hg : Gl X "tuple") (hm : X.mg "tuple" = none) (ha : PE X a ta) (na : starEach [a] X.env = (false, eval a X.env) :: starEach [] X.env := by rfl) :
    PE X (.Call (.Name "tuple" p) [a] [] pos) (tThen ta (kTupZ X.K)) := by
  constructor
  intro pins s σ H Q I h
  refine Call_ (ld_blt I hg hm boot_tuple (PyProof.Rows.callWith_type1 (one_arg ha I h (fun v s2 x H2 I2 r q => ?_) na) na))
  obtain ⟨p, xs, rfl, hs, q⟩ := q
  obtain rfl : v = .ref p := r
  obtain ⟨its, rv, pl, hz⟩ := I2.list hs
  refine call_tuple_list pl.isList (fun h' hk => ?_) (by rw [List.size_toArray, ← rv.length]; exact hz)
  exact newZ (s := { s2 with heap := h' }) (I2.kept (t' := s2.toks) hk) rv hz q
/-- t + u -/
def rCatZ (K : PySem.W.Frag) : R2 := fun x y H Q => ∃ a b xs ys, x = .ref a ∧ y = .ref b ∧ SqT K H a xs ∧ SqT K H b ys ∧ xs.length + ys.length ≤ sizeLine ∧ (xs = [] → Q (.ref b) H) ∧ (xs ≠ [] → ys = [] → Q (.ref a) H) ∧ (xs ≠ [] → ys ≠ [] → NewZ H (xs ++ ys) Q)
theorem op_catZ : OpR X (binaryOp .Add) (rCatZ X.K) := by
  intro pins s σ H x y v u Q I rx ry h
  obtain ⟨a, b, xs, ys, rfl, rfl, ha, hb, hz, q0, q1, q2⟩ := h
  obtain rfl : v = .ref a := rx
  obtain rfl : u = .ref b := ry
  obtain ⟨its, r1, p1, _⟩ := I.tuple ha
  obtain ⟨its2, r2, p2, _⟩ := I.tuple hb
  by_cases hx : xs = []
  · subst hx
    cases r1
    exact cat_tup0 p1 p2 ⟨.ref b, H, I, rfl, q0 rfl⟩
  · refine HT.cat_tup p1 p2 (fun z => hx (r1.nil_iff.mp z)) (fun z => ⟨.ref a, H, I, rfl, q1 hx (r2.nil_iff.mp z)⟩) (fun z => ?_) (by rw [← r1.length, ← r2.length]; exact hz)
    exact newZ I (r1.append r2) (by rw [List.length_append]; exact hz) (q2 hx fun w => z (r2.nil_iff.mpr w))
/-- t[lo:hi] -/
def rSlZ (K : PySem.W.Frag) : V → Option Int → Option Int → Hp → VK → Prop := fun x lo hi H Q => ∃ a xs, x = .ref a ∧ SqT K H a xs ∧
  (HT.sIx xs.length 0 lo = 0 ∧ HT.sIx xs.length xs.length hi = xs.length → Q (.ref a) H) ∧ (¬ (HT.sIx xs.length 0 lo = 0 ∧ HT.sIx xs.length xs.length hi = xs.length) → NewZ H (cutV xs lo hi) Q)
theorem sl_tupZ : SlR X (rSlZ X.K) := by
  intro pins s σ H x v vl vu lo hi sl Q I rx hs pl pu h
  obtain ⟨a, xs, rfl, hx, q1, q2⟩ := h
  obtain rfl : v = .ref a := rx
  obtain ⟨its, r, ht, hz⟩ := I.tuple hx
  have hlen : its.toArray.size = xs.length := by rw [List.size_toArray]; exact r.length.symm
  refine ⟨"tuple", _, PyProof.Rows.slot_tuple_getitem.lookup, ht.typeIs, ?_⟩
  by_cases hw : HT.sIx xs.length 0 lo = 0 ∧ HT.sIx xs.length xs.length hi = xs.length
  · exact getItem_tuple_whole ht hs pl pu (by rw [hlen]; exact hw) ⟨.ref a, H, I, rfl, q1 hw⟩
  · refine HT.getItem_tuple_cut ht hs pl pu (by rw [hlen]; exact hw) ?_ (by rw [hlen]; exact hz)
    rw [hlen]
    exact newZ I ((r.drop (HT.sIx xs.length 0 lo)).take (HT.sIx xs.length xs.length hi - HT.sIx xs.length 0 lo)) (Nat.le_trans (cutV_length xs lo hi) hz) (q2 hw)
variable {o e : Expr} {es : List Expr} {to : TE} {t : TA} {name : Str} {apos cpos : Pos} {id : String} {r : V → List V → Hp → VK → Prop}
/-- t.m(e, ..), m a method of tuples -/
def tBMZ (K : PySem.W.Frag) (r : V → List V → Hp → VK → Prop) (to : TE) (t : TA) : TE := fun σ H Q => to σ H fun x H1 => (∃ a xs, x = .ref a ∧ SqZ K H1 a xs) ∧ t σ H1 fun xs H2 => r x xs H2 Q
theorem pe_bmZ (slot : Slot "tuple" name id) (hty : typeOf (.builtin id) = pure (.type "method_descriptor")) (hm : MtR X id r) (ho : PE X o to) (ha : PA X (e :: es) t)
    (hbase : attributeBase o name X.env (eval o X.env) = eval o X.env := by rfl)
    (hfew : ((backTo cpos (starEach (e :: es) X.env)).all (fun x => !x.1) && (backToKw cpos (keywordEach [] X.env)).all (fun x => x.1.isSome)
      && decide ((e :: es).length + ([] : List Keyword).length + (if ([] : List Keyword).isEmpty then 0 else 1) < 30)) = true := by rfl)
    (hline : (apos.endLine == cpos.line) = true := by rfl) (hs : starEach (e :: es) X.env = (false, eval e X.env) :: starEach es X.env := by rfl) (hplain : (backTo cpos (starEach es X.env)).any (·.1) = false := by rfl) :
    PE X (.Call (.Attribute o name apos) (e :: es) [] cpos) (tBMZ X.K r to t) := by
  constructor
  intro pins s σ H Q I h
  refine wpAny_Call_method_late hbase hfew hline rfl (thn (ho.run pins s σ H _ I h) fun v s1 ⟨x, H1, I1, r1, ty, q1⟩ => ?_)
  obtain ⟨a, xs, rfl, hz⟩ := ty
  obtain rfl : v = .ref a := r1
  have tp : s1.TypeIs (.ref a) "tuple" ∧ ∃ ob, s1.heap.get? a = some ob ∧ ob.dict = none := by
    obtain ⟨its, _, ht, _⟩ := I1.tuple hz.t
    refine ⟨ht.typeIs, ?_⟩
    rcases hz with ⟨ob, e, d⟩ | ⟨ob, _, _, e, _, d, _⟩
    · exact ⟨ob, ((show ObjOk X.prog X.w H1 s1.heap a (.frz ob (.tup xs)) from I1.hok a _ e)).1, d⟩
    · exact ⟨ob, I1.kIn a ob e, d⟩
  refine ⟨"tuple", id, PySem.F.plainAttrs_tuple, slot, hty, tp.1, fun b e => ?_, ?_⟩
  · cases e
    exact tp.2
  have hA := ha.run cpos pins s1 σ H1 _ I1 q1
  rw [hs] at hA ⊢
  refine Calls.callWith_builtin (by show (false || (backTo cpos (starEach es X.env)).any (·.1)) = false; rw [hplain] <;> rfl) (Calls.evalArgs_plain ?_)
  exact thn hA fun us s2 ⟨vs, H2, I2, r2, q2⟩ => hm pins s2 σ H2 (V.ref a) vs _ us Q I2 rfl r2 q2
end

/-! ### t[::-1] -/
section
variable {prog : Program} {w : World} {A : Around} {E : Value → Shared → Prop} {s : Shared}
theorem fm_congr {α β : Type} {f g : α → Option β} : ∀ l : List α, (∀ k ∈ l, f k = g k) → l.filterMap f = l.filterMap g
  | [], _ => rfl
  | a :: r, h => by
    rw [List.filterMap_cons, List.filterMap_cons, h a List.mem_cons_self, fm_congr r fun k hk => h k (List.mem_cons_of_mem _ hk)]
theorem back_list (xs : Array Value) : ((List.range xs.size).filterMap fun (k : Nat) => xs[((xs.size : Int) - 1 + (k : Int) * (-1)).toNat]?).toArray = xs.toList.reverse.toArray := by
  congr 1
  have e : (List.range xs.size).filterMap (fun (k : Nat) => xs[((xs.size : Int) - 1 + (k : Int) * (-1)).toNat]?) = ((List.range xs.size).map fun k => xs.size - 1 - k).filterMap (xs[·]?) := by
    rw [List.filterMap_map]
    refine fm_congr _ fun k hk => ?_
    have := List.mem_range.mp hk
    show xs[((xs.size : Int) - 1 + (k : Int) * (-1)).toNat]? = xs[xs.size - 1 - k]?
    rw [show ((xs.size : Int) - 1 + (k : Int) * (-1)).toNat = xs.size - 1 - k by omega]
  rw [e, krv_range, List.filterMap_reverse, krv_all]
theorem getItem_tuple_back {t sl : Addr} {items : Array Value} {vs : Value} {Q : Value → Shared → Prop} (ht : IsTup s.heap t items) (hs : s.heap.IsSliceOf sl .none .none vs) (ps : IsPart vs (some (-1)))
    (h : Q (.ref s.heap.objs.size) { s with heap := s.heap.push { cls := .type "tuple", data := .seq items.toList.reverse.toArray } })
    (hsz : items.size ≤ sizeLine) : wpAny (model prog w) A (getItem (.ref t) (.ref sl)) Q E s := by
  have fit : sizeOk (.seq items.toList.reverse.toArray) := by
    show items.toList.reverse.toArray.size ≤ sizeLine
    rw [List.size_toArray, List.length_reverse, Array.length_toList]
    exact hsz
  obtain ⟨os, hos, hcs, hds⟩ := id hs
  have hTs : s.TypeIs (.ref sl) "slice" := ⟨os, hos, hcs⟩
  unfold getItem
  try with_reducible refine wpAny_holding ?_
  first | refine wpAny_bind (wpAny_pure ?_) | skip
  refine wpAny_bind (wpAny_sequenceKey ht.typeIs (by decide) ?_)
  refine wpAny_bind (wpAny_callSpecial?_slot (name := Str.ofString "__getitem__") ht.typeIs PyProof.Rows.slot_tuple_getitem
    (wpAny_call_entry PyProof.Rows.slot_tuple_getitem ht.typeIs entry_tuple_getitem ?_ (args_tuple_getitem _ _)))
  show wpAny _ _ (Builtin.Tuple.tupleItemsOf (.ref t) >>= _) _ _ s
  refine wpAny_bind (tupleItemsOf_ ht (wpAny_bind (wpAny_typeOf hTs ?_)))
  rw [if_pos (by decide)]
  have places : Builtin.Slice.slicePlaces ((items.size : Int) - 1) (-1) (-1) = items.size := by
    unfold Builtin.Slice.slicePlaces
    rw [if_neg (by decide)]
    by_cases z : items.size = 0
    · rw [z]; decide
    · rw [if_pos (by omega), show (-(-1 : Int)) = 1 by decide, Int.ediv_one]
      omega
  have app : wpAny (model prog w) A.in1 (Builtin.Slice.sliceApplied (.ref sl) (pure (items.size : Int))) (fun r s' => r = (((items.size : Int) - 1), -1, items.size) ∧ s' = s) (fun _ _ => False) s := by
    unfold Builtin.Slice.sliceApplied Builtin.Slice.sliceFields
    refine wpAny_bind (wpAny_bind (wpAny_field hos hds (x := .none) rfl (wpAny_bind (wpAny_field hos hds (x := .none) rfl (wpAny_bind (wpAny_field hos hds (x := vs) rfl (wpAny_pure ?_)))))))
    refine wpAny_bind (HT.slicePart_ ps ?_)
    show wpAny _ _ (if ((-1 : Int) == 0) = true then _ else _) _ _ s
    rw [if_neg (by decide)]
    refine wpAny_bind (slicePart_none (wpAny_bind (slicePart_none (wpAny_bind (wpAny_pure ?_)))))
    show wpAny _ _ (pure (((items.size : Int) - 1), (-1 : Int), Builtin.Slice.slicePlaces ((items.size : Int) - 1) (-1) (-1))) _ _ s
    rw [places]
    exact wpAny_pure ⟨rfl, rfl⟩
  refine wpAny_bind (wpAny_mono app (fun r s' hr => ?_) fun _ _ z => z.elim)
  obtain ⟨rfl, rfl⟩ := hr
  have no : ¬ ((((items.size : Int) - 1) == 0 && (-1 : Int) == 1 && items.size == items.size) = true) := by
    intro q
    rw [Bool.and_eq_true, Bool.and_eq_true] at q
    exact absurd q.1.2 (by decide)
  show wpAny _ _ (if (((items.size : Int) - 1) == 0 && (-1 : Int) == 1 && items.size == items.size) = true then _ else _) _ _ s'
  rw [if_neg no, back_list]
  first
    | exact wpAny_bind (m := Builtin.Tuple.tupleExact _) (wpAny_newObj_type (wpAny_pure ⟨_, rfl, wpAny_pure h⟩) fit)
    | exact wpAny_bind (m := Builtin.Tuple.tupleExact _) (wpAny_newObj_type (wpAny_bind (wpAny_pure (wpAny_pure ⟨_, rfl, wpAny_pure h⟩))) fit)
    | exact wpAny_bind (wpAny_bind (m := Builtin.Tuple.tupleExact _) (wpAny_newObj_type (wpAny_pure (wpAny_pure ⟨_, rfl, wpAny_pure h⟩)) fit))
    | exact wpAny_bind (wpAny_bind (m := Builtin.Tuple.tupleExact _) (wpAny_newObj_type (wpAny_pure ⟨_, rfl, wpAny_pure h⟩) fit))
end
section
variable {X : Cx}
def tRevZ (K : PySem.W.Frag) (te : TE) : TE := fun σ H Q => te σ H fun x H1 => ∃ a xs, x = .ref a ∧ SqT K H1 a xs ∧ NewZ H1 xs.reverse Q
theorem pe_revZ {e : Expr} {te : TE} {k : Nat} {p1 p2 p3 pos : Pos} (he : PE X e te) : PE X (.Subscript e (.Slice none none (some (.UnaryOp .USub (.Constant (.int 1) k p1) p2)) p3) pos) (tRevZ X.K te) := by
  constructor
  intro pins s σ H Q I h
  refine Subscript_ (thn (he.run pins s σ H _ I h) fun v s1 hv => ?_)
  obtain ⟨x, H1, I1, r1, a, xs, rfl, hx, q⟩ := hv
  obtain rfl : v = .ref a := r1
  have part : PO X (some (.UnaryOp .USub (.Constant (.int 1) k p1) p2)) (tPart (tUn (rU fun i => .int (-i)) (tC (.int 1)))) := po_some (pe_un un_neg pe_int)
  refine wpAny_Slice (thn (po_none.run pins s1 σ H1 (fun o H2 => o = none ∧ H2 = H1) I1 ⟨rfl, rfl⟩) fun vl s2 hl => ?_)
  obtain ⟨l, H2, I2, pl, rfl, rfl⟩ := hl
  refine thn (po_none.run pins s2 σ H2 (fun o H3 => o = none ∧ H3 = H2) I2 ⟨rfl, rfl⟩) fun vu s3 hu => ?_
  obtain ⟨u, H3, I3, pu, rfl, rfl⟩ := hu
  refine thn (part.run pins s3 σ H3 (fun o H4 => o = some (-1) ∧ H4 = H3) I3 ⟨1, rfl, -1, rfl, rfl, rfl⟩) fun vs s4 hp => ?_
  obtain ⟨o, H4, I4, ps, rfl, rfl⟩ := hp
  cases pl
  cases pu
  have I5 : Inv X pins σ H4 { s4 with heap := s4.heap.push { cls := .type "slice", data := .fields #[.none, .none, vs] } } := I4.kept (t' := s4.toks) fun b ob q => Heap.get?_push_of_some _ q
  obtain ⟨its, r, ht, hz⟩ := I5.tuple hx
  show wpAny (model X.prog X.w) X.A (subscriptTail e (.Slice none none (some (.UnaryOp .USub (.Constant (.int 1) k p1) p2)) p3) (.ref a) (.ref s4.heap.objs.size)) (EP X pins σ Q) X.xe { s4 with heap := s4.heap.push { cls := .type "slice", data := .fields #[.none, .none, vs] } }
  refine tail_any (ops := [.ref a, .ref s4.heap.objs.size]) ht.typeIs (PyProof.Rows.slot_tuple_getitem.lookup) ?_ (by with_unfolding_all rfl)
  refine getItem_tuple_back ht (Heap.IsSliceOf.new _ .none .none vs) ps ?_ (by rw [List.size_toArray, ← r.length]; exact hz)
  have e1 : its.toArray.toList.reverse.toArray = its.reverse.toArray := by simp
  rw [e1]
  exact newZ I5 r.reverse (by rw [List.length_reverse]; exact hz) q
end
/-! ### t * 0, t * 1 -/
section
theorem tuple_mul1 (l : Addr) (items : Array Value) (n : Nat) (dd : Option Addr) (sl : Array (Option Value)) (u : Tok) :
    Meets (Builtin.«tuple.__mul__» ⟨[.ref l, .int 1 u], []⟩) (fun _ R s => s.heap.get? l = some { cls := .type "tuple", dict := dd, data := .seq items n, slots := sl } ∧ R (.ok (.ret (Value.ref l))) s) :=
  .of_wp fun prog w A R s h => by
    obtain ⟨hp, g, d, tk, os⟩ := s
    obtain ⟨hl, h⟩ := h
    have f1 := AutoSeq1.idx_int
    have c1 : (items.isEmpty || (1 : Int) == 1) = true := by rw [Bool.or_eq_true]; exact Or.inr (by decide)
    wp_walk using wpAny_loadPart' hl
    repeat (first
      | (refine wpAny_ite_true (decide_eq_true c1) ?_; wp_walk using wpAny_loadPart' hl)
      | (refine wpAny_ite_false (by decide) ?_; wp_walk using wpAny_loadPart' hl))
    exact ⟨_, rfl, h⟩
theorem tuple_mul0 (l : Addr) (items : Array Value) (n : Nat) (dd : Option Addr) (sl : Array (Option Value)) (u : Tok) (ne : items.isEmpty = false) :
    Meets (Builtin.«tuple.__mul__» ⟨[.ref l, .int 0 u], []⟩) (fun _ R s => s.heap.get? l = some { cls := .type "tuple", dict := dd, data := .seq items n, slots := sl } ∧
      R (.ok (.ret (Value.ref s.heap.objs.size))) { s with heap := s.heap.push { cls := Value.type "tuple", data := Data.seq #[] }, toks := s.toks }) :=
  .of_wp fun prog w A R s h => by
    obtain ⟨hp, g, d, tk, os⟩ := s
    obtain ⟨hl, h⟩ := h
    have f1 := AutoSeq1.idx_int
    have c1 : (items.isEmpty || (0 : Int) == 1) = false := by rw [ne, Bool.false_or]; decide
    have c2 : (decide ((0 : Int) ≤ 0) || items.isEmpty) = true := by rw [Bool.or_eq_true]; exact Or.inl (by decide)
    wp_walk using wpAny_loadPart' hl
    repeat (first
      | (refine wpAny_ite_false (decide_eq_false (by rw [c1]; exact Bool.false_ne_true)) ?_; wp_walk using wpAny_loadPart' hl)
      | (refine wpAny_ite_true (decide_eq_true c2) ?_; wp_walk using wpAny_loadPart' hl)
      | (refine wpAny_ite_false (by decide) ?_; wp_walk using wpAny_loadPart' hl))
    exact ⟨_, rfl, h⟩
end
section
variable {X : Cx}
def rRep01 (K : PySem.W.Frag) : R2 := fun x y H Q => ∃ l k xs, x = .ref l ∧ y = .int k ∧ SqT K H l xs ∧ xs ≠ [] ∧ (k = 0 ∨ k = 1) ∧ (k = 0 → NewZ H [] Q) ∧ (k = 1 → Q (.ref l) H)
theorem op_rep01 : OpR X (binaryOp .Mult) (rRep01 X.K) := by
  intro pins s σ H x y v u Q I rx ry h
  obtain ⟨l, k, xs, rfl, rfl, hT, ne, hk, q0, q1⟩ := h
  obtain rfl : v = .ref l := rx
  obtain ⟨t, rfl⟩ := ry
  obtain ⟨its, r, ⟨⟨cls, dd, data, sl⟩, ho, hc, n, hd⟩, hs⟩ := I.tuple hT
  simp only at hc hd
  subst hc hd
  have em : its.toArray.isEmpty = false := by
    cases its with
    | nil => cases r; exact absurd rfl ne
    | cons a b => rfl
  refine wpAny_binaryOp_repeat_ref (T := "tuple") (U := "int") (by decide) ⟨_, ho, rfl⟩ (fun s' => typeIs_int s' k t) noFill_tuple_mul F.fills_int_mul F.slot_int_rmul repeat_tuple F.slot_int_index.lookup
    (call_meets F.slot_int_rmul (typeIs_int s k t) F.entry_int_rmul (F.args_int_rmul_2 _ _) (int_rmul_tuple k t l its.toArray n dd sl) ⟨ho, rfl, ⟨_, ho, rfl⟩, ?_⟩)
  rcases hk with rfl | rfl
  · exact call_meets F.slot_tuple_mul ⟨_, ho, rfl⟩ F.entry_tuple_mul (F.args_tuple_mul_2 _ _) (tuple_mul0 l its.toArray n dd sl t em) ⟨ho, newZ I (its := []) .nil (Nat.zero_le _) (q0 rfl)⟩
  · exact call_meets F.slot_tuple_mul ⟨_, ho, rfl⟩ F.entry_tuple_mul (F.args_tuple_mul_2 _ _) (tuple_mul1 l its.toArray n dd sl t) ⟨ho, ⟨.ref l, H, I, rfl, q1 rfl⟩⟩
end
end GL
namespace GL
open PySem PySem.Spec PyProof.Rows L2
/-! ### rules told with the written part itself: a comprehension's element may then use them -/
section
variable {X : Cx} {K : PySem.W.Frag} {a e o : Expr} {es : List Expr} {ta to : TE} {t : TA} {p pos apos cpos : Pos} {f name : Str} {id : String} {r : V → List V → Hp → VK → Prop}
theorem pe_tupleOfK (hg : Gl X "tuple") (hm : X.mg "tuple" = none) (ha : PE X a ta) (h : X.K = K := by rfl) (na : starEach [a] X.env = (false, eval a X.env) :: starEach [] X.env := by rfl) :
    PE X (.Call (.Name "tuple" p) [a] [] pos) (tThen ta (kTup K)) := h ▸ pe_tupleOf hg hm ha na
theorem pe_tupleZK (hg : Gl X "tuple") (hm : X.mg "tuple" = none) (ha : PE X a ta) (h : X.K = K := by rfl) (na : starEach [a] X.env = (false, eval a X.env) :: starEach [] X.env := by rfl) :
    PE X (.Call (.Name "tuple" p) [a] [] pos) (tThen ta (kTupZ K)) := h ▸ pe_tupleZ hg hm ha na
theorem pe_fldK (he : PE X e ta) (hb : attributeBase e f X.env (eval e X.env) = eval e X.env) (h : X.K = K := by rfl) : PE X (.Attribute e f pos) (tFld K ta f) := h ▸ pe_fld he hb
theorem pa_starK (he : PE X e to) (hr : PA X es t) (h : X.K = K := by rfl) (hs : starEach (.Starred e p :: es) X.env = (true, eval e X.env) :: starEach es X.env := by rfl) : PA X (.Starred e p :: es) (StX.tStar K to t) := h ▸ StX.pa_star he hr hs
theorem pi_tupK {tg : Expr} (he : PE X e ta) (h : X.K = K := by rfl) : PI X tg e (iTup K ta) := h ▸ pi_tup he
theorem ix_tupK (h : X.K = K := by rfl) : IxR X (rIxT K) := h ▸ ix_tup
theorem mt_tup_indexK (h : X.K = K := by rfl) : MtR X "tuple.index" (fun x xs H Q => ∃ p, ∃ ys : List Str, ∃ z j, x = .ref p ∧ xs = [.str z] ∧ SqT K H p (ys.map V.str) ∧ ys[j]? = some z ∧ (∀ m, m < j → ys[m]? ≠ some z) ∧ Q (.int (j : Nat)) H) := h ▸ mt_tup_index
theorem pe_bmZK (slot : Slot "tuple" name id) (hty : typeOf (.builtin id) = pure (.type "method_descriptor")) (hm : MtR X id r) (ho : PE X o to) (ha : PA X (e :: es) t) (h : X.K = K := by rfl)
    (hbase : attributeBase o name X.env (eval o X.env) = eval o X.env := by rfl)
    (hfew : ((backTo cpos (starEach (e :: es) X.env)).all (fun x => !x.1) && (backToKw cpos (keywordEach [] X.env)).all (fun x => x.1.isSome)
      && decide ((e :: es).length + ([] : List Keyword).length + (if ([] : List Keyword).isEmpty then 0 else 1) < 30)) = true := by rfl)
    (hline : (apos.endLine == cpos.line) = true := by rfl) (hs : starEach (e :: es) X.env = (false, eval e X.env) :: starEach es X.env := by rfl) (hplain : (backTo cpos (starEach es X.env)).any (·.1) = false := by rfl) :
    PE X (.Call (.Attribute o name apos) (e :: es) [] cpos) (tBMZ K r to t) := h ▸ pe_bmZ slot hty hm ho ha hbase hfew hline hs hplain
end
end GL
namespace GL
open PySem PySem.Spec PyProof.Rows L2 PySem.W PySem.Calls
/-! ### enumerate(a tuple) -/
section
variable {prog : Program} {w : World} {A : Around} {E : Value → Shared → Prop} {s : Shared}
theorem nextOf_tup_item {it t : Addr} {i : Nat} {items : Array Value} {x : Value} {Q : Value → Shared → Prop} (hit : IsTupIter s.heap it t i) (ht : IsTup s.heap t items) (hx : items[i]? = some x)
    (hQ : ∀ h', IsTupIter h' it t (i + 1) → Heap.SameBut it s.heap h' → Q x { s with heap := h' }) : wpAny (model prog w) A (Builtin.SmallTypes.nextOf (.ref it)) Q E s := by
  obtain ⟨o, ho, hc, hd⟩ := id hit
  obtain ⟨ol, hol, _, nl, hdl⟩ := ht
  unfold Builtin.SmallTypes.nextOf
  refine wpAny_bind (wpAny_callSpecial?_slot (name := Str.ofString "__next__") hit.typeIs slot_tupleiter_next (wpAny_call_entry slot_tupleiter_next hit.typeIs entry_tupleiter_next ?_ (args_tupleiter_next _)))
  show wpAny _ _ (field (.ref it) 0 >>= _) _ _ s
  refine wpAny_bind (wpAny_field ho hd (x := .ref t) rfl ?_)
  show wpAny _ _ (if (Value.ref t == Value.none) = true then _ else _) _ _ s
  rw [if_neg (show ¬ ((Value.ref t == Value.none) = true) from Bool.false_ne_true)]
  show wpAny _ _ (field (.ref it) 1 >>= _) _ _ s
  refine wpAny_bind (wpAny_field ho hd (x := .int i 0) rfl ?_)
  show wpAny _ _ (seqItems? (.ref t) >>= _) _ _ s
  refine wpAny_bind (wpAny_seqItems hol hdl ?_)
  simp only [Int.toNat_natCast, hx]
  refine wpAny_bind (wpAny_setField ho hd (by simp) (wpAny_pure ⟨x, rfl, wpAny_pure (hQ _ ⟨_, Heap.get?_update_self _ ho (Obj.isFreed_of_fields (Obj.data_mapFields hd _)), (Obj.cls_mapFields ..).trans hc, ?_⟩ (Heap.SameBut.update ..))⟩))
  rw [Obj.data_mapFields hd]
  simp [rawInt]
theorem nextOf_tup_end {it t : Addr} {i : Nat} {items : Array Value} {Q : Value → Shared → Prop} (hh : A.handled = none) (hit : IsTupIter s.heap it t i) (ht : IsTup s.heap t items) (hx : items[i]? = none)
    (hE : ∀ h' e, Heap.ExtBut it s.heap h' → (∃ o, h'.get? e = some o ∧ o.cls = .type "StopIteration") → E (.ref e) { s with heap := h' }) : wpAny (model prog w) A (Builtin.SmallTypes.nextOf (.ref it)) Q E s := by
  obtain ⟨o, ho, hc, hd⟩ := id hit
  obtain ⟨ol, hol, _, nl, hdl⟩ := ht
  unfold Builtin.SmallTypes.nextOf
  refine wpAny_bind (wpAny_callSpecial?_slot (name := Str.ofString "__next__") hit.typeIs slot_tupleiter_next (wpAny_call_entry slot_tupleiter_next hit.typeIs entry_tupleiter_next ?_ (args_tupleiter_next _)))
  show wpAny _ _ (field (.ref it) 0 >>= _) _ _ s
  refine wpAny_bind (wpAny_field ho hd (x := .ref t) rfl ?_)
  show wpAny _ _ (if (Value.ref t == Value.none) = true then _ else _) _ _ s
  rw [if_neg (show ¬ ((Value.ref t == Value.none) = true) from Bool.false_ne_true)]
  show wpAny _ _ (field (.ref it) 1 >>= _) _ _ s
  refine wpAny_bind (wpAny_field ho hd (x := .int i 0) rfl ?_)
  show wpAny _ _ (seqItems? (.ref t) >>= _) _ _ s
  refine wpAny_bind (wpAny_seqItems hol hdl ?_)
  simp only [Int.toNat_natCast, hx]
  refine wpAny_bind (wpAny_rule (wpAny_bind (wpAny_setField ho hd (by simp) ?_)))
  show wpAny _ _ (newExc (.type "StopIteration") [] >>= _) _ _ _
  refine wpAny_bind ?_
  simp only [newExc, newTuple]
  refine wpAny_bind (wpAny_newObj_type ?_ (by size_fits))
  refine wpAny_bind (m := firstArgMember _ _) (wpAny_of_eq (a := Value.none) (by first | rfl | (simp only [firstArgMember]; rfl)) ?_)
  refine wpAny_newObj_type ?_ (by size_fits)
  simp only [raiseNew]
  refine wpAny_bind (wpAny_handled ?_)
  first | rw [show A.in1.handled = none from hh] | rw [hh]
  refine wpAny_bind (wpAny_pure (wpAny_throw ?_))
  exact hE _ _ (((Heap.SameBut.update ..).extBut.push _).push _) ⟨_, Heap.get?_push_size _ rfl, rfl⟩
theorem draws_tup (hh : A.handled = none) (it t : Addr) (hne : t ≠ it) (items : Array Value) : Draws prog w A it [it, t] items.size (fun i v => items[i]? = some v) (fun i h => IsTupIter h it t i ∧ IsTup h t items) where
  live := fun _ _ st => let ⟨o, ho, _⟩ := st.1; ⟨o, ho⟩
  frame := fun _ _ _ st hk => ⟨let ⟨o, ho, r⟩ := st.1; ⟨o, hk it (by simp) o ho, r⟩, let ⟨o, ho, r⟩ := st.2; ⟨o, hk t (by simp) o ho, r⟩⟩
  item := fun i s Q E hi st hQ => nextOf_tup_item st.1 st.2 (x := items[i]) (by simp [hi]) fun h' hit' hs' => hQ _ h' s.toks (by simp [hi]) ⟨hit', st.2.extBut hs'.extBut hne⟩ hs'
  done := fun s Q E st hE => nextOf_tup_end hh st.1 st.2 (by simp) hE
theorem meets_enum_newT (l : Addr) (items : Array Value) (n : Nat) (dct : Option Addr) (sl : Array (Option Value)) :
    Meets (Builtin.«enumerate.__new__» ⟨[.type "enumerate", .ref l], []⟩) (fun _ R s => s.heap.get? l = some { cls := .type "tuple", dict := dct, data := .seq items n, slots := sl } ∧
      R (.ok (.ret (.ref (s.heap.push { cls := .type "tuple_iterator", data := .fields #[.ref l, .int 0 0] }).objs.size)))
        { s with heap := (s.heap.push { cls := .type "tuple_iterator", data := .fields #[.ref l, .int 0 0] }).push { cls := .type "enumerate", data := .fields #[.none, .bool false, .ref s.heap.objs.size, rawInt 0, .none, .none] } }) :=
  .of_wp fun prog w A R s h => by
    obtain ⟨hp, g, d, tk, os⟩ := s
    obtain ⟨hl, h⟩ := h
    have hsub := sub_enumerate
    have hL : IsTup (Shared.heap ⟨hp, g, d, tk, os⟩) l items := ⟨_, hl, rfl, n, rfl⟩
    wp_walk using wpAny_loadPart' hl
    refine wpAny_stack_any fun st => wpAny_pure ?_
    split
    · rename_i c _ _ _ _ _
      cases (c == Value.type "enumerate")
      · wp_walk using wpAny_loadPart' hl, iter_tuple hL
        exact ⟨_, rfl, h⟩
      · wp_walk using wpAny_loadPart' hl, iter_tuple hL
        exact ⟨_, rfl, h⟩
    · wp_walk using wpAny_loadPart' hl, iter_tuple hL
      exact ⟨_, rfl, h⟩
theorem call_enum_tup {l : Addr} {items : Array Value} {Q : Value → Shared → Prop} (hL : IsTup s.heap l items)
    (h : ∀ h', IsEnum h' (s.heap.objs.size + 1) s.heap.objs.size 0 .none → IsTupIter h' s.heap.objs.size l 0 → (∀ b o, s.heap.get? b = some o → h'.get? b = some o) → Q (.ref (s.heap.objs.size + 1)) { s with heap := h' }) :
    wpAny (model prog w) A (call (.type "enumerate") [.ref l]) Q E s := by
  obtain ⟨⟨c, dct, dt, sl⟩, hl, hc, n, hd⟩ := hL
  replace hc : c = .type "tuple" := hc
  replace hd : dt = .seq items n := hd
  subst hc hd
  refine callType_new F.called_enumerate (by decide) (F.typeCall_enumerate_1 _) (F.newCall_enumerate_1 _) (fun obj => F.args_object_init_2 obj _) F.entry_enumerate_new (meets_enum_newT l items n dct sl) ⟨hl, ?_⟩
  have hz : (s.heap.push { cls := .type "tuple_iterator", data := .fields #[.ref l, .int 0 0] }).objs.size = s.heap.objs.size + 1 := Heap.size_push ..
  show _ ∧ _
  rw [hz]
  have he : IsEnum ((s.heap.push { cls := .type "tuple_iterator", data := .fields #[.ref l, .int 0 0] }).push { cls := .type "enumerate", data := .fields #[.none, .bool false, .ref s.heap.objs.size, rawInt 0, .none, .none] }) (s.heap.objs.size + 1) s.heap.objs.size 0 .none := by
    have := Heap.get?_push_size (s.heap.push { cls := .type "tuple_iterator", data := .fields #[.ref l, .int 0 0] }) (o := { cls := .type "enumerate", data := .fields #[.none, .bool false, .ref s.heap.objs.size, rawInt 0, .none, .none] }) rfl
    rw [hz] at this
    exact this
  exact ⟨⟨_, he, rfl⟩, h _ he ⟨_, Heap.get?_push_of_some _ (Heap.get?_push_size _ rfl), rfl, rfl⟩ fun b o x => Heap.get?_push_of_some _ (Heap.get?_push_of_some _ x)⟩
end
section
variable {prog : Program} {w : World} {A : Around} {E : Value → Shared → Prop} {s : Shared}
theorem enum_end_tup {e it t : Addr} {k i : Nat} {n : Int} {items : Array Value} {old : Value} {Q : Option Value → Shared → Prop} (hh : A.handled = none) (he : IsEnum s.heap e it n old) (hit : IsTupIter s.heap it t i) (ht : IsTup s.heap t items) (hx : items[i]? = none)
    (hQ : ∀ h', Heap.ExtBut it s.heap h' → Q none { s with heap := h' }) : wpAny (model prog w) A (pyNext (.ref e)) Q E s := by
  have hT : s.TypeIs (.ref e) "enumerate" := ⟨_, he, rfl⟩
  unfold pyNext
  refine wpAny_bind (wpAny_attempt (wpAny_callSpecial?_slot (name := Str.ofString "__next__") hT F.slot_enumerate_next (wpAny_call_entry F.slot_enumerate_next hT F.entry_enumerate_next ?_ (F.args_enumerate_next_1 _))))
  show wpAny _ _ (field (.ref e) 2 >>= _) _ _ _
  refine wpAny_bind (wpAny_field he rfl (x := .ref it) rfl (wpAny_bind (nextOf_tup_end (A := A.in1) hh hit ht hx fun h' x he' hx' => ?_)))
  obtain ⟨o, ho, hc⟩ := hx'
  exact wpAny_bind (wpAny_isInstance (T := "StopIteration") (b := true) ⟨o, ho, hc⟩ isSubtype_stop (wpAny_pure (hQ _ he')))
end
def Itet (K : PySem.W.Frag) (a : Addr) : It :=
  ⟨fun i H => ∃ (xs : List V) (x : V), SqT K H a xs ∧ xs[i]? = some x, fun i H v H' => ∃ T x, v = .ref T ∧ H T = none ∧ H' = upd H T (.tup [.int (i : Nat), x]) ∧ ∀ xs, SqT K H a xs → xs[i]? = some x, fun i H => ∃ xs : List V, SqT K H a xs ∧ xs.length ≤ i⟩
theorem turn_enumT {P : Program} {w : World} {K : PySem.W.Frag} {elts : List Expr} {kk : Nat} {tpos : Pos} (a e it : Addr) :
    Turn P w K (.Tuple elts kk tpos) (Itet K a) [e, it] e (fun i h => (∃ old, IsEnum h e it ((i : Nat) : Int) old) ∧ IsTupIter h it a i ∧ e ≠ it ∧ a ≠ it ∧ a ≠ e) where
  mem := by simp
  obj := fun i h st b hb => by
    obtain ⟨⟨old, he⟩, ⟨o, ho, hc, hd⟩, _⟩ := st
    rcases (by simpa using hb : b = e ∨ b = it) with rfl | rfl
    · exact ⟨_, he, fun v q => nomatch q⟩
    · exact ⟨o, ho, fun v q => by rw [hd] at q; cases q⟩
  keep := fun i h h' st k => let ⟨⟨old, he⟩, ⟨o, ho, r⟩, hne⟩ := st; ⟨⟨old, k e (by simp) _ he⟩, ⟨o, k it (by simp) o ho, r⟩, hne⟩
  item := by
    intro X hP hw hK hc i pins s σ H E I hf st hg
    subst hP hw hK
    obtain ⟨⟨old, he⟩, hit, hne, nai, nae⟩ := st
    obtain ⟨xs, x, hq, hx⟩ := hg
    obtain ⟨its, rv, p, hz⟩ := I.tuple hq
    obtain ⟨u, hu, ru⟩ := rv.get hx
    have hel : e < s.heap.objs.size := Heap.lt_size he
    have hil : it < s.heap.objs.size := by obtain ⟨_, q, _⟩ := hit; exact Heap.lt_size q
    have li : i < its.toArray.size := by rw [List.size_toArray]; exact (List.getElem?_eq_some_iff.mp hu).1
    refine wpAny_pyNext_enum_itemD (draws_tup (A := X.A.in1) (I.ok.hd hc) it a nai its.toArray) he ⟨hit, p⟩ li hne (by simp [hne, Ne.symm nae]) fun y h' tk hy ho st' hT hsz hk => ?_
    have ey : y = u := Option.some.inj (hy.symm.trans (by simpa using hu))
    subst ey
    refine ⟨_, rfl, wpAny_letOwnedTupleGo_enum (s := { s with heap := h', toks := tk + 1 }) ho fun h'' he' sb => ?_⟩
    have hT2 : h''.get? s.heap.objs.size = some { cls := .type "tuple", data := .seq #[.int i tk, y] } := (sb.2 _ (Nat.ne_of_gt hel)).trans hT
    have new : ObjOk X.prog X.w (upd H s.heap.objs.size (.tup [.int (i : Nat), x])) h'' s.heap.objs.size (.tup [.int (i : Nat), x]) :=
      ⟨by show 2 ≤ sizeLine; decide, [.int i tk, y], .cons ⟨_, rfl⟩ (.cons ru .nil), ⟨_, hT2, rfl, _, rfl⟩⟩
    have I1 : Inv X pins σ (upd H s.heap.objs.size (.tup [.int (i : Nat), x])) { s with heap := h'', toks := tk + 1 } :=
      I.turnedNew (ch := [e, it]) (fun b ob hb q => (sb.2 b (fun z => hb (by simp [z]))).trans (hk b ob (fun z => hb (by simp [z])) (fun z => hb (by simp [z])) q)) hf (Nat.le_refl _) new
    refine ⟨.ref s.heap.objs.size, _, I1, rfl, ⟨_, x, rfl, I.hok.fresh (Nat.le_refl _), rfl, fun ys hy => ?_⟩, ⟨⟨y, ?_⟩, ?_, hne, nai, nae⟩, fun b hb => ?_⟩
    · obtain ⟨its2, rv2, p2, _⟩ := I.tuple hy
      have e2 : its2 = its := by
        obtain ⟨o1, g1, _, n1, d1⟩ := p
        obtain ⟨o2, g2, _, n2, d2⟩ := p2
        rw [g1] at g2
        cases g2
        rw [d1] at d2
        injection d2 with d3 _
        exact (List.toArray_inj d3).symm
      rw [e2] at rv2
      rw [rv2.inj rv]
      exact hx
    · have e1 : ((i + 1 : Nat) : Int) = (i : Int) + 1 := by omega
      rw [e1]; exact he'
    · obtain ⟨o, ho', r⟩ := st'.1
      exact ⟨o, (sb.2 it (Ne.symm hne)).trans ho', r⟩
    · have hb' : b < s.heap.objs.size := by
        rcases (by simpa using hb : b = e ∨ b = it) with rfl | rfl
        · exact hel
        · exact hil
      rw [upd_ne (Nat.ne_of_lt hb')]
      exact (hf b hb).1
  done := by
    intro X hP hw hK hc i pins s σ H E I hf st hg
    subst hP hw hK
    obtain ⟨⟨old, he⟩, hit, hne, nai, nae⟩ := st
    obtain ⟨xs, hq, hx⟩ := hg
    obtain ⟨its, rv, p, hz⟩ := I.tuple hq
    obtain ⟨f0, f1, f2, f3, f4, f5⟩ := hf it (by simp)
    have hl := rv.length
    exact enum_end_tup (k := 0) (I.ok.hd hc) he hit p (by simp; omega) fun h' eb => ⟨rfl, I.turned (t' := s.toks) (fun b o hb q => eb b o hb q) f0 f1 f3 f4 f5⟩
  self := fun A i s Q E st h => let ⟨⟨_, he⟩, _⟩ := st; wpAny_pyIter_enum he h
def iEnumT (K : PySem.W.Frag) (ta : TA) : TI := fun σ H R => ta σ H fun vs H1 => ∃ a xs, vs = [.ref a] ∧ SqT K H1 a xs ∧ R (Itet K a) H1
theorem pi_enumT {X : Cx} {e : Expr} {ta : TA} {p pos tpos : Pos} {elts : List Expr} {kk : Nat} (hg : Gl X "enumerate") (hm : X.mg "enumerate" = none) (ha : PA X [e] ta) (hs : starEach [e] X.env = [(false, eval e X.env)] := by rfl) :
    PI X (.Tuple elts kk tpos) (.Call (.Name "enumerate" p) [e] [] pos) (iEnumT X.K ta) := by
  constructor
  intro pins s σ H R I h
  refine Call_ (ld_blt I hg hm boot_enumerate (PyProof.Rows.callWith_type1 (thn (ha.run pos pins s σ H _ I h) fun us s1 hv => ?_) hs rfl))
  obtain ⟨vs, H1, I1, r1, a, xs, rfl, hq, q⟩ := hv
  cases r1 with
  | cons r rr =>
    cases rr
    cases r
    obtain ⟨its, rv, p', hz⟩ := I1.tuple hq
    have la : a < s1.heap.objs.size := by obtain ⟨o, g, _⟩ := p'; exact Heap.lt_size g
    refine call_enum_tup p' fun h' he hit hk => wpAny_pyIter_enum he ?_
    have I2 : Inv X pins σ H1 { s1 with heap := h' } := I1.kept (t' := s1.toks) hk
    refine ⟨s1.heap.objs.size + 1, [s1.heap.objs.size + 1, s1.heap.objs.size], _, _, H1, rfl, I2, turn_enumT a (s1.heap.objs.size + 1) s1.heap.objs.size, ⟨⟨.none, he⟩, hit, Nat.succ_ne_self _, Nat.ne_of_lt la, Nat.ne_of_lt (Nat.lt_succ_of_lt la)⟩, fun b hb => ?_, q⟩
    have hle : s1.heap.objs.size ≤ b := by
      rcases (by simpa using hb : b = s1.heap.objs.size + 1 ∨ b = s1.heap.objs.size) with rfl | rfl
      · exact Nat.le_add_right _ _
      · exact Nat.le_refl _
    exact I1.fpOk hle (I1.hok.fresh hle)
theorem walk_enumT {K : PySem.W.Frag} {a : Addr} {xs : List V} : Walk (Itet K a) xs.length (fun H => SqT K H a xs) (YPair (fun i => some (.int (i : Nat))) (fun i => xs[i]?)) := by
  refine ⟨fun i _ hi q => ⟨xs, xs[i], q, by simp [hi]⟩, fun _ q => ⟨xs, q, Nat.le_refl _⟩, fun i H v H' _ q y => ?_⟩
  obtain ⟨T, x, h1, h2, h3, h4⟩ := y
  exact ⟨T, .int (i : Nat), x, h1, h2, h3, rfl, h4 xs q⟩
end GL
namespace GL
open PySem PySem.Spec PyProof.Rows L2
/-! ### shown texts are plain signs -/
def Asc (z : Str) : Prop := ∀ c ∈ z.cps.toList, c < 128
def ascC (z : Str) : Bool := z.cps.toList.all fun c => decide (c < 128)
theorem ascB {z : Str} (h : ascC z = true) : Asc z := fun c hc => of_decide_eq_true (List.all_eq_true.mp h c hc)
theorem asc_app {x y : Str} (hx : Asc x) (hy : Asc y) : Asc (x ++ y) := fun c hc => by
  have e : (x ++ y).cps.toList = x.cps.toList ++ y.cps.toList := by
    show (x.cps ++ y.cps).toList = _
    rw [Array.toList_append]
  rw [e] at hc
  exact (List.mem_append.mp hc).elim (hx c) (hy c)
theorem repr_small : ∀ c : Fin 128, (∀ d ∈ Builtin.Str.reprChar 39 c.val, d < 128) ∧ ∀ d ∈ Builtin.Str.reprChar 34 c.val, d < 128 := by decide +kernel
theorem quote_two (x : Str) : reprQuote x = 39 ∨ reprQuote x = 34 := by
  unfold reprQuote
  split
  · exact .inr rfl
  · exact .inl rfl
theorem asc_repr {x : Str} (hx : Asc x) : Asc (reprText x) := by
  have hq := quote_two x
  have fold : ∀ (l : List Nat) (acc : Array Nat), (∀ c ∈ l, c < 128) → (∀ c ∈ acc.toList, c < 128) → ∀ c ∈ (l.foldl (fun out c => out ++ (Builtin.Str.reprChar (reprQuote x) c).toArray) acc).toList, c < 128 := by
    intro l
    induction l with
    | nil => exact fun acc _ h => h
    | cons d r ih =>
      intro acc h1 h2
      refine ih _ (fun c hc => h1 c (List.mem_cons_of_mem _ hc)) fun c hc => ?_
      rw [Array.toList_append] at hc
      rcases List.mem_append.mp hc with hc | hc
      · exact h2 c hc
      · have s := repr_small ⟨d, h1 d List.mem_cons_self⟩
        rcases hq with e | e
        · rw [e] at hc; exact s.1 c (by simpa using hc)
        · rw [e] at hc; exact s.2 c (by simpa using hc)
  have q128 : reprQuote x < 128 := by rcases hq with e | e <;> rw [e] <;> decide
  intro c hc
  unfold reprText at hc
  have hc : c ∈ ((x.cps.foldl (fun out c => out ++ (Builtin.Str.reprChar (reprQuote x) c).toArray) #[reprQuote x]).push (reprQuote x)).toList := hc
  rw [Array.toList_push, ← Array.foldl_toList] at hc
  rcases List.mem_append.mp hc with hc | hc
  · have one : ∀ d ∈ (#[reprQuote x] : Array Nat).toList, d < 128 := fun d hd => by
      have e : d = reprQuote x := List.mem_singleton.mp hd
      rw [e]
      exact q128
    exact fold _ _ hx one c hc
  · have e : c = reprQuote x := List.mem_singleton.mp hc
    rw [e]
    exact q128
theorem asc_from : ∀ (ts : List Str) (k : Nat) (acc : Str), Asc acc → (∀ t ∈ ts, Asc t) → Asc (textFrom k acc ts)
  | [], _, _, h, _ => h
  | t :: r, k, acc, h, h2 => by
    refine asc_from r (k + 1) _ (asc_app (asc_app h ?_) (h2 t List.mem_cons_self)) fun y hy => h2 y (List.mem_cons_of_mem _ hy)
    split
    · exact (ascB (z := (", " : String)) (by decide +kernel))
    · exact (ascB (z := ("" : String)) (by decide +kernel))
theorem asc_join : ∀ ts : List Str, (∀ t ∈ ts, Asc t) → Asc (Str.join ", " ts)
  | [], _ => (ascB (z := ("" : String)) (by decide +kernel))
  | [x], h => h x List.mem_cons_self
  | x :: y :: r, h => asc_app (asc_app (h x List.mem_cons_self) (ascB (z := (", " : String)) (by decide +kernel))) (asc_join (y :: r) fun z hz => h z (List.mem_cons_of_mem _ hz))
theorem asc_all : ∀ ds : List PyData, (∀ d ∈ ds, Asc d.shown) → ∀ t ∈ PyData.shownAll ds, Asc t
  | [], _, t, ht => nomatch ht
  | d :: r, h, t, ht => by
    rcases List.mem_cons.mp (show t ∈ d.shown :: PyData.shownAll r from ht) with rfl | ht
    · exact h d List.mem_cons_self
    · exact asc_all r (fun x hx => h x (List.mem_cons_of_mem _ hx)) t ht
theorem asc_lst {ds : List PyData} (h : ∀ d ∈ ds, Asc d.shown) : Asc (PyData.list ds).shown := by
  show Asc (listText (PyData.shownAll ds))
  exact asc_app (asc_from _ _ _ (ascB (z := ("[" : String)) (by decide +kernel)) (asc_all ds h)) (ascB (z := ("]" : String)) (by decide +kernel))
theorem asc_tup {ds : List PyData} (h : ∀ d ∈ ds, Asc d.shown) : Asc (PyData.tuple ds).shown := by
  show Asc (tupleText (PyData.shownAll ds))
  unfold tupleText
  refine asc_app (asc_app (ascB (z := ("(" : String)) (by decide +kernel)) (asc_join _ (asc_all ds h))) ?_
  split
  · exact (ascB (z := (",)" : String)) (by decide +kernel))
  · exact (ascB (z := (")" : String)) (by decide +kernel))
theorem asc_str {z : Str} (h : Asc z) : Asc (PyData.str z).shown := asc_repr h
theorem asc_ints : ∀ i : Fin 401, ∀ c ∈ (Str.ofString (toString ((i.val : Int) - 200))).cps.toList, c < 128 := by decide +kernel
theorem asc_int {i : Int} (h0 : -200 ≤ i) (h1 : i ≤ 200) : Asc (PyData.int i).shown := by
  have h := asc_ints ⟨(i + 200).toNat, by omega⟩
  have e : (((i + 200).toNat : Nat) : Int) - 200 = i := by omega
  simp only [e] at h
  exact h
end GL
namespace KX
open PySem PySem.Spec PyProof.Rows L2 GL RZ TL
theorem nodup_of {α : Type} : ∀ {l : List α}, (∀ (a b : Nat) (x : α), l[a]? = some x → l[b]? = some x → a = b) → l.Nodup
  | [], _ => List.nodup_nil
  | y :: r, h => List.nodup_cons.mpr ⟨fun hy => by
      obtain ⟨i, hi⟩ := List.getElem?_of_mem hy
      have := h 0 (i + 1) y rfl hi
      omega, nodup_of fun a b x ea eb => by
      have := h (a + 1) (b + 1) x ea eb
      omega⟩
abbrev abcL : List Nat := (Str.ofString "abcdefghijklmnopqrstuvwxyz").cps.toList
theorem abcL_nodup : abcL.Nodup := by decide +kernel
theorem abcL_len : abcL.length = 26 := by decide +kernel
theorem sign_join {ws : List Str} (h : ∀ z ∈ ws, ∃ c, z = (⟨#[c]⟩ : Str)) : ∀ i : Nat, (joinL [] (ws.map tl))[i]? = (ws[i]?).bind fun z => z.cps.toList[0]? := by
  induction ws with
  | nil => intro i; rfl
  | cons z r ih =>
    obtain ⟨k, rfl⟩ := h z List.mem_cons_self
    have ih' := ih fun y hy => h y (List.mem_cons_of_mem _ hy)
    cases r with
    | nil => intro i; cases i <;> rfl
    | cons y r =>
      intro i
      cases i with
      | zero => rfl
      | succ i => exact ih' i
/-- how the names that are called lie: one word with another letter at one place -/
structure NmAt (at_ fi : Int) (i : Nat) (ns ws : List Str) : Prop where
  ex : ∃ (cs : List Nat) (w0 : List Str), cs.length = i ∧ ns = cs.map (fun c => Txt.join "" (w0.set at_.toNat ⟨#[c]⟩)) ∧ (∀ j c, cs[j]? = some c → abcL[((fi + 7 * (j : Nat)) % 26).toNat]? = some c) ∧
    (∀ c, ws.set at_.toNat ⟨#[c]⟩ = w0.set at_.toNat ⟨#[c]⟩) ∧ (∀ z ∈ w0, ∃ c, z = (⟨#[c]⟩ : Str)) ∧ at_.toNat < w0.length
theorem NmAt.new {at_ fi : Int} {ws : List Str} (h : ∀ z ∈ ws, ∃ c, z = (⟨#[c]⟩ : Str)) (l : at_.toNat < ws.length) : NmAt at_ fi 0 [] ws := ⟨⟨[], ws, rfl, rfl, fun j c e => (by cases e), fun c => rfl, h, l⟩⟩
theorem NmAt.step {at_ fi : Int} {i c : Nat} {ns ws : List Str} (n : NmAt at_ fi i ns ws) (h : abcL[((fi + 7 * (i : Nat)) % 26).toNat]? = some c) : NmAt at_ fi (i + 1) (ns ++ [Txt.join "" (ws.set at_.toNat ⟨#[c]⟩)]) (ws.set at_.toNat ⟨#[c]⟩) := by
  obtain ⟨cs, w0, h1, rfl, h3, h4, h5, h6⟩ := n.ex
  refine ⟨cs ++ [c], w0, by rw [List.length_append, h1]; rfl, ?_, ?_, ?_, h5, h6⟩
  · rw [List.map_append, h4]; rfl
  · intro j d e
    rcases Nat.lt_or_ge j cs.length with hj | hj
    · rw [List.getElem?_append_left hj] at e
      exact h3 j d e
    · rw [List.getElem?_append_right hj] at e
      have e0 : j - cs.length = 0 := by
        rcases Nat.eq_zero_or_pos (j - cs.length) with z | z
        · exact z
        · rw [List.getElem?_eq_none (by show 1 ≤ _; omega)] at e; cases e
      rw [e0] at e
      cases e
      rw [show j = i by omega]
      exact h
  · intro d
    rw [List.set_set, h4]
theorem tl_join0 (ws : List Str) : (Txt.join "" ws).cps.toList = joinL [] (ws.map tl) := by
  have e0 : tl ("" : Str) = [] := by decide +kernel
  rw [join_eq]
  have := tl_join "" ws
  rw [e0] at this
  exact this
theorem word_at {w0 : List Str} {k c : Nat} (h5 : ∀ z ∈ w0, ∃ c, z = (⟨#[c]⟩ : Str)) (h6 : k < w0.length) : (Txt.join "" (w0.set k ⟨#[c]⟩)).cps.toList[k]? = some c := by
  rw [tl_join0, sign_join]
  · rw [List.getElem?_set_self h6]; rfl
  · intro z hz
    rcases List.mem_or_eq_of_mem_set hz with hz | rfl
    · exact h5 z hz
    · exact ⟨c, rfl⟩
theorem NmAt.nodup {at_ fi : Int} {i : Nat} {ns ws : List Str} (n : NmAt at_ fi i ns ws) (hi : i ≤ 6) : ns.Nodup := by
  obtain ⟨cs, w0, h1, rfl, h3, h4, h5, h6⟩ := n.ex
  have cd : cs.Nodup := by
    refine nodup_of fun a b x ea eb => ?_
    have eq := nd_ix abcL_nodup (h3 a x ea) (h3 b x eb)
    have p1 := (List.getElem?_eq_some_iff.mp ea).1
    have p2 := (List.getElem?_eq_some_iff.mp eb).1
    omega
  refine List.Pairwise.map _ (fun a b ne e => ne ?_) cd
  have q1 := word_at (c := a) h5 h6
  have q2 := word_at (c := b) h5 h6
  rw [e, q2] at q1
  exact (Option.some.inj q1).symm
theorem NmAt.one {at_ fi : Int} {i : Nat} {ns ws : List Str} (n : NmAt at_ fi i ns ws) : ∀ z ∈ ns, 1 ≤ z.cps.toList.length := by
  obtain ⟨cs, w0, h1, rfl, h3, h4, h5, h6⟩ := n.ex
  intro z hz
  obtain ⟨c, _, rfl⟩ := List.mem_map.mp hz
  have q := (List.getElem?_eq_some_iff.mp (word_at (c := c) h5 h6)).1
  omega
/-- names of one sign and their place -/
def NumAt (ms : List Str) : Prop := ∀ j z, ms[j]? = some z → ∃ p : Str, p.cps.toList.length = 1 ∧ z = p ++ Str.ofString (toString ((j : Nat) : Int))
theorem NumAt.snoc {ms : List Str} {p : Str} (h : NumAt ms) (hp : p.cps.toList.length = 1) : NumAt (ms ++ [p ++ Str.ofString (toString ((ms.length : Nat) : Int))]) := by
  intro j z e
  rcases Nat.lt_or_ge j ms.length with hj | hj
  · rw [List.getElem?_append_left hj] at e
    exact h j z e
  · rw [List.getElem?_append_right hj] at e
    have e0 : j - ms.length = 0 := by
      rcases Nat.eq_zero_or_pos (j - ms.length) with q | q
      · exact q
      · rw [List.getElem?_eq_none (by show 1 ≤ _; omega)] at e; cases e
    rw [e0] at e
    cases e
    rw [show j = ms.length by omega]
    exact ⟨p, hp, rfl⟩
theorem num_inj : ∀ a b : Nat, a < 6 → b < 6 → (Str.ofString (toString ((a : Nat) : Int))).cps.toList = (Str.ofString (toString ((b : Nat) : Int))).cps.toList → a = b := by
  intro a b ha hb
  have h : a = 0 ∨ a = 1 ∨ a = 2 ∨ a = 3 ∨ a = 4 ∨ a = 5 := by omega
  have k : b = 0 ∨ b = 1 ∨ b = 2 ∨ b = 3 ∨ b = 4 ∨ b = 5 := by omega
  rcases h with rfl | rfl | rfl | rfl | rfl | rfl <;> rcases k with rfl | rfl | rfl | rfl | rfl | rfl <;> first | exact fun _ => rfl | (intro e; exact absurd e (by decide +kernel))
theorem NumAt.nodup {ms : List Str} (h : NumAt ms) (l : ms.length ≤ 6) : ms.Nodup := by
  refine nodup_of fun a b x ea eb => ?_
  obtain ⟨p, hp, ep⟩ := h a _ ea
  obtain ⟨q, hq, eq⟩ := h b _ eb
  have z : (p ++ Str.ofString (toString ((a : Nat) : Int))).cps.toList = (q ++ Str.ofString (toString ((b : Nat) : Int))).cps.toList := by rw [← ep, ← eq]
  have ap : ∀ x y : Str, (x ++ y).cps.toList = x.cps.toList ++ y.cps.toList := fun x y => by
    show (x.cps ++ y.cps).toList = _
    rw [Array.toList_append]
  rw [ap, ap] at z
  have := (List.append_inj z (hp.trans hq.symm)).2
  have p1 := (List.getElem?_eq_some_iff.mp ea).1
  have p2 := (List.getElem?_eq_some_iff.mp eb).1
  exact num_inj _ _ (by omega) (by omega) this
end KX
namespace KX
open PySem PySem.Spec PyProof.Rows L2 GL
def topS (i : Nat) : Stmt := PySem.Challenge.pw_whateverboxes_k10_joined_and_turned.main.body.getD i (.Pass ⟨0, 0, 0, 0⟩)
/-! the built-ins that the text uses are still the built-ins -/
structure Bl (mg : Str → Option Value) : Prop where
  int : mg "int" = none
  len : mg "len" = none
  range : mg "range" = none
  tuple : mg "tuple" = none
  str : mg "str" = none
  abs : mg "abs" = none
  any : mg "any" = none
  sum : mg "sum" = none
  zip : mg "zip" = none
  enumerate : mg "enumerate" = none
  repr : mg "repr" = none

section
variable {P : Program} {w : World} {K : PySem.W.Frag} {mg : Str → Option Value} {base : Heap}
abbrev s_draw : Stmt := topS 29
theorem sc_draw : FnScope ["_law_deck_here", "_law_many", "_law_cell", "_law_mixed"] ["_law_deck_here", "_law_many"] (defScope s_draw) := ⟨rfl, rfl, rfl, by decide +kernel, rfl, by decide +kernel, by decide +kernel⟩
theorem ok_draw {f : Addr} {fd : FuncData} (F : Fun K "_law_draw" "_law_draw" s_draw f fd) (gl : mg "_law_draw" = some (.ref f)) (T : Bl mg) : DefG P w K mg base 1 "_law_draw" ["_law_deck_here", "_law_many"] spDraw := by
  refine def_mk F gl (F.binds fun _ _ _ _ _ _ us hl => match us, hl with | [_, _], _ => rfl) (okG F sc_draw (fun vs H Q E h => ?_) fun cdv A outer s H vs Q E hr hc h => ?_)
  · obtain ⟨d, g, n, rfl, _⟩ := h
    rfl
  · obtain ⟨d, g, n, rfl, D, n0, nB, q⟩ := h
    have nd := sc_draw.nd
    have hu := hu_of hr
    have hu64 := hr.units
    obtain ⟨m, L, hd, hg, hL, m0, mB⟩ := id D.ex
    have dg := D.ne
    refine ⟨_, (pss_cons (ps_if (pt_cmpR (op_neD hu64) (pe_dget hu (pv 0) pe_str (fun _ _ => rfl)) (pe_lst pa_nil) (nomark _))
        (pss_cons (ps_set (i := 2) nd rfl (by first | exact Or.inl rfl | exact Or.inr rfl) (pe_callTy call_int1 rfl T.int boot_int (pa_cons (pe_bm0 PySem.F.plainAttrs_list PySem.F.slot_list_pop PySem.F.type_list_pop mt_pop (pe_dget hu (pv 0) pe_str (fun _ _ => rfl))) pa_nil)))
        (pss_cons (ps_if (pt_cmpR op_ge (pv 2) (pv 1) (nomark _))
          (pss_one (ps_expr (pe_bm PySem.F.plainAttrs_list PySem.F.slot_list_append PySem.F.type_list_append mt_append (pe_dget hu (pv 0) pe_str (fun _ _ => rfl)) (pa_cons (pe_op op_fdivW (pv 2) (pv 1)) pa_nil))))
          pss_nil)
        (pss_one (ps_ret (pe_op op_mod (pv 2) (pv 1))))))
        pss_nil)
      (pss_cons (ps_set (i := 3) nd rfl (by first | exact Or.inl rfl | exact Or.inr rfl) (pe_op op_mod (pe_callTy call_int1 rfl T.int boot_int (pa_cons (pe_op op_add (pe_op op_mul (pe_callTy call_int1 rfl T.int boot_int (pa_cons (pe_dget hu (pv 0) pe_str (fun _ _ => rfl)) pa_nil)) pe_int) pe_int) pa_nil)) pe_int))
      (pss_cons (ps_dput hu (pv 0) pe_str (pv 3) rfl)
      (pss_cons (ps_set (i := 3) nd rfl (by first | exact Or.inl rfl | exact Or.inr rfl) (pe_op op_mod (pe_callTy call_int1 rfl T.int boot_int (pa_cons (pe_op op_add (pe_op op_mul (pv 3) (pv 3)) (pe_op op_mul pe_int (pv 3))) pa_nil)) pe_int))
      (pss_one (ps_ret (pe_op op_mod (pe_op op_fdivW (pv 3) pe_int) (pv 1)))))))), ?_⟩
    -- deck["great"] != []
    refine ⟨_, rfl, d, _, rfl, deck_great g m ▸ DGet.k (k := Sum.inr "great") hd, Nat.zero_le _, fun o no => ?_⟩
    have god : o ≠ g := (ne_of_none hg no).symm
    have dod : o ≠ d := (ne_of_none hd no).symm
    have sm : Same H (upd H o (.lst [])) := Same.new no
    refine ⟨_, _, .lst (tofL (sm _ _ hg)) (dpa_ints L), .lst (tofL upd_same) .nil, shaped_ints L, shaped_ints [], _, rfl, ?_⟩
    rw [eqv_ints_nil]
    refine ite2 (fun e => ?_) (fun e => ?_)
    · -- cell = int(deck["great"].pop())
      have hne : L ≠ [] := fun z => by rw [z] at e; exact absurd e (by decide)
      obtain ⟨L0, c, rfl⟩ := snoc_of hne
      rw [List.length_append, List.length_singleton] at hL
      have g1 := sm _ _ hg
      refine ⟨_, rfl, d, _, rfl, deck_great g m ▸ DGet.k (k := Sum.inr "great") (sm _ _ hd), ty_l (tofL g1), g, _, _, rfl, rfl, g1, pop_at L0 c, .inl ⟨c, rfl, ?_⟩⟩
      rw [pop_left]
      refine ⟨_, rfl, _, rfl, c, n, rfl, rfl, _, rfl, ?_⟩
      have h1 : upd (upd H o (.lst [])) g (.lst (L0.map V.int)) d = some (.dK (deckD g m)) := by rw [upd_ne dg]; exact sm _ _ hd
      have kp : ∀ x : HO, Mv d g H (upd (upd H o (.lst [])) g x) := fun x => ⟨fun b u hb _ n2 => by rw [upd_ne n2]; exact sm _ _ hb⟩
      refine ite2 (fun _ => ?_) (fun _ => ?_)
      · refine ⟨_, rfl, d, _, rfl, deck_great g m ▸ DGet.k (k := Sum.inr "great") h1, ty_l (tofL upd_same), _, rfl, _, rfl, c, n, rfl, rfl, wide_div (b := 250) n0 (by omega) (by decide) (by decide), g, _, _, rfl, rfl, upd_same, ?_, ?_⟩
        · rw [List.length_map]; exact smallt (by omega)
        · refine ⟨_, rfl, _, rfl, c, n, rfl, rfl, n0, ?_⟩
          rw [upd_upd]
          refine q _ _ (Int.emod_nonneg _ (by omega)) (Int.emod_lt_of_pos _ n0) ⟨m, L0 ++ [c / n], by rw [upd_ne dg]; exact sm _ _ hd, ?_, ?_, m0, mB⟩ (kp _)
          · rw [upd_same, List.map_append, List.map_singleton]
          · rw [List.length_append, List.length_singleton]; exact hL
      · refine ⟨_, rfl, _, rfl, c, n, rfl, rfl, n0, ?_⟩
        exact q _ _ (Int.emod_nonneg _ (by omega)) (Int.emod_lt_of_pos _ n0) ⟨m, L0, h1, upd_same, by omega, m0, mB⟩ (kp _)
    · -- mixed = ..
      refine ⟨_, rfl, d, _, rfl, deck_mixed g m ▸ DGet.k (k := Sum.inr "mixed") (sm _ _ hd), .inl ⟨m, rfl, m, 69621, rfl, rfl, mul_small m0 (by omega), _, 113, rfl, rfl, .inl ⟨_, rfl, _, 2147483587, rfl, rfl, (show (0 : Int) < 2147483587 by decide), ?_⟩⟩⟩
      have a0 : 0 ≤ (m * 69621 + 113) % 2147483587 := Int.emod_nonneg _ (by decide)
      have a1 : (m * 69621 + 113) % 2147483587 < 2147483587 := Int.emod_lt_of_pos _ (by decide)
      refine ⟨_, rfl, _, rfl, d, _, rfl, DPut.k (k := Sum.inr "mixed") (sm _ _ hd) (by show 2 < sizeLine; exact smallt (by omega)), ?_⟩
      rw [deck_put]
      refine ⟨_, rfl, _, rfl, _, _, rfl, rfl, mul_small a0 (by omega), _, rfl, 39373, _, rfl, rfl, mul_small (by decide) (by decide), _, _, rfl, rfl, .inl ⟨_, rfl, _, 2147483579, rfl, rfl, (show (0 : Int) < 2147483579 by decide), ?_⟩⟩
      refine ⟨_, rfl, _, 64, rfl, rfl, wide_div (b := 8) (by decide) (by decide) (by decide) (by decide), _, rfl, _, n, rfl, rfl, n0, ?_⟩
      exact q _ _ (Int.emod_nonneg _ (by omega)) (Int.emod_lt_of_pos _ n0) ⟨_, L, upd_same, by rw [upd_ne dg.symm]; exact sm _ _ hg, hL, a0, a1⟩ ⟨fun b u hb n1 _ => by rw [upd_ne n1]; exact sm _ _ hb⟩
end
end KX
namespace KX
open PySem PySem.Spec PyProof.Rows L2 GL
theorem deck_merge (g : Addr) (m : Int) : mergeK [] (deckD g m) = deckD g m := by
  have e1 : putK ([] : List (Key × V)) (Sum.inr "great" : Key) (V.ref g) = [((Sum.inr "great" : Key), V.ref g)] := rfl
  have e2 : putK [((Sum.inr "great" : Key), V.ref g)] (Sum.inr "mixed" : Key) (V.int m) = deckD g m := by
    unfold putK
    simp only [List.any_cons, List.any_nil, decide_eq_false gm, Bool.or_false]
    rfl
  show putK (putK ([] : List (Key × V)) (Sum.inr "great" : Key) (V.ref g)) (Sum.inr "mixed" : Key) (V.int m) = _
  rw [e1, e2]
def spDeck (K : PySem.W.Frag) : Sp := fun vs H Q _ => ∃ (a : Addr) (ns : List Int), vs = [.ref a] ∧ SqL K H a (ns.map V.int) ∧ ns.length ≤ 63 ∧
  ∀ (d g : Addr) (H' : Hp), Same H H' → H d = none → H g = none → Deck H' d g → Q (.ref d) H'
theorem cut_map (ns : List Int) (lo hi : Option Int) : cutV (ns.map V.int) lo hi = ((ns.drop (HT.sIx ns.length 0 lo)).take (HT.sIx ns.length ns.length hi - HT.sIx ns.length 0 lo)).map V.int := by
  unfold cutV
  rw [List.length_map, List.map_take, List.map_drop]
theorem cut_ints (ns : List Int) (lo hi : Option Int) : ∃ ms : List Int, cutV (ns.map V.int) lo hi = ms.map V.int ∧ ms.length ≤ ns.length := by
  refine ⟨_, cut_map ns lo hi, ?_⟩
  rw [List.length_take, List.length_drop]
  omega
theorem ints_at {ns : List Int} {i : Nat} {x : V} (h : (ns.map V.int)[i]? = some x) : ∃ n, x = .int n ∧ i < ns.length := by
  rw [List.getElem?_map] at h
  cases e : ns[i]? with
  | none => rw [e] at h; cases h
  | some n =>
    rw [e] at h
    exact ⟨n, (Option.some.inj h).symm, (List.getElem?_eq_some_iff.mp e).1⟩
section
variable {P : Program} {w : World} {K : PySem.W.Frag} {mg : Str → Option Value} {base : Heap}
abbrev s_deck : Stmt := topS 28
theorem sc_deck : FnScope ["_law_script", "_law_mixed", "_law_cell"] ["_law_script"] (defScope s_deck) := ⟨rfl, rfl, rfl, by decide +kernel, rfl, by decide +kernel, by decide +kernel⟩
theorem ok_deck {f : Addr} {fd : FuncData} (F : Fun K "_law_deck" "_law_deck" s_deck f fd) (gl : mg "_law_deck" = some (.ref f)) (T : Bl mg) : DefG P w K mg base 1 "_law_deck" ["_law_script"] (spDeck K) := by
  refine def_mk F gl (F.binds fun _ _ _ _ _ _ us hl => match us, hl with | [_], _ => rfl) (okG F sc_deck (fun vs H Q E h => ?_) fun cdv A outer s H vs Q E hr hc h => ?_)
  · obtain ⟨a, ns, rfl, _⟩ := h
    rfl
  · obtain ⟨a, ns, rfl, hS, hlen, q⟩ := h
    have nd := sc_deck.nd
    refine ⟨_, (pss_cons (ps_set (i := 1) nd rfl (by first | exact Or.inl rfl | exact Or.inr rfl) pe_int)
      (pss_cons (ps_for PassesOwn.never rfl (pi_list (pe_slice sl_list (pv 0) po_none (po_some pe_int))) (pg_name (i := 2) nd rfl (by first | exact Or.inl rfl | exact Or.inr rfl))
        (pss_one (ps_set (i := 1) nd rfl (by first | exact Or.inl rfl | exact Or.inr rfl) (pe_op op_mod (pe_callTy call_int1 rfl T.int boot_int (pa_cons (pe_op op_add (pe_op op_add (pe_op op_mul (pv 1) pe_int) (pe_op op_mod (pe_callTy call_int1 rfl T.int boot_int (pa_cons (pv 2) pa_nil)) pe_int)) pe_int) pa_nil)) pe_int))))
      (pss_one (ps_ret (pe_disp (pps_cons pe_str (pe_revL (pe_lc (own := [("_law_cell", 2)]) (g := gName 2) rfl nd (pi_list (pe_slice sl_list (pv 0) po_none (po_some pe_int))) (blkOk_by (own := [("_law_cell", 2)]) (N := ["_law_script", "_law_mixed", "_law_cell"]) (sc := defScope s_deck) (by decide +kernel)) (fun _ _ _ _ _ => pg_name (i := 2) nd rfl (by first | exact Or.inl rfl | exact Or.inr rfl)) (fun _ _ _ _ _ => pts_one (pt_cmpR op_ge (pv 2) (pe_op op_pow pe_int pe_int) (nomark _))) (fun _ _ _ _ _ => pv 2)))
        (pps_cons pe_str (pv 1) pps_nil)) rfl rfl (by decide) (by decide)))))), ?_⟩
    -- for cell in script[:63]
    refine ⟨_, rfl, 63, rfl, a, _, rfl, hS, fun c nc => ?_⟩
    obtain ⟨ms, em, lm⟩ := cut_ints ns none (some 63)
    rw [em]
    have s1 : Same H (upd H c (.lst (ms.map V.int))) := Same.new nc
    refine ⟨c, rfl, ⟨_, tofL upd_same⟩, for_list (K := K) (a := c) (xs := ms.map V.int) (fun i σ H2 => ∃ (m : Int) (v : Option V), σ = [some (.ref a), some (.int m), v] ∧ H2 = upd H c (.lst (ms.map V.int)) ∧ 0 ≤ m ∧ m < 2147483587)
      ⟨_, none, rfl, rfl, by decide, by decide⟩ (fun i σ H2 _ ⟨_, _, _, e, _⟩ => by rw [e]; exact tofL upd_same) ?_ ?_⟩
    · rintro i y σ H2 hi ⟨m, v, rfl, rfl, m0, m1⟩
      obtain ⟨x, rfl, _⟩ := ints_at hi
      have b0 := Int.emod_nonneg x (show (2147483629 : Int) ≠ 0 by decide)
      refine ⟨_, rfl, m, 48271, rfl, rfl, mul_small m0 (by omega), _, rfl, .inl ⟨x, rfl, x, 2147483629, rfl, rfl, (show (0 : Int) < 2147483629 by decide), _, _, rfl, rfl, _, _, rfl, rfl, .inl ⟨_, rfl, _, 2147483587, rfl, rfl, (show (0 : Int) < 2147483587 by decide), _, _, rfl, rfl, Int.emod_nonneg _ (by decide), Int.emod_lt_of_pos _ (by decide)⟩⟩⟩
    · rintro σ H2 ⟨m, v, rfl, rfl, m0, m1⟩
      intro p np
      have npc : c ≠ p := ne_of_none upd_same np
      have s2 : Same H (upd (upd H c (.lst (ms.map V.int))) p (.dK [])) := s1.trans (Same.new np)
      refine ⟨_, rfl, 63, rfl, a, _, rfl, s2.seq hS, fun c2 nc2 => ?_⟩
      rw [em]
      have s3 := s2.trans (Same.new (o := .lst (ms.map V.int)) nc2)
      have ncp : p ≠ c2 := ne_of_none upd_same nc2
      refine ⟨c2, rfl, ⟨_, tofL upd_same⟩, fun D nD => ?_⟩
      have ncD : c2 ≠ D := ne_of_none upd_same nD
      have npD : p ≠ D := ne_of_none (by rw [upd_ne ncp]; exact upd_same) nD
      refine lc_list (K := K) (a := c2) (xs := ms.map V.int) (fun i H2 => ∃ L : List Int, Same H H2 ∧ H2 D = some (.lst (L.map V.int)) ∧ H2 c2 = some (.lst (ms.map V.int)) ∧ H2 p = some (.dK []) ∧ L.length ≤ i)
        ⟨[], s3.trans (Same.new nD), upd_same, by rw [upd_ne ncD]; exact upd_same, by rw [upd_ne npD, upd_ne ncp]; exact upd_same, Nat.le_refl _⟩
        (fun i H2 _ ⟨_, _, _, e, _⟩ => tofL e) ?_ ?_
      · rintro i y H2 hi ⟨L, sm, hD, hc2, hp, hL⟩
        obtain ⟨x, rfl, hil⟩ := ints_at hi
        refine ⟨rfl, _, rfl, 10, 18, rfl, rfl, ⟨by decide, by decide, by decide⟩, _, _, rfl, rfl, _, rfl, ?_⟩
        refine ite2 (fun _ => ?_) (fun _ => ?_)
        · refine ⟨_, rfl, _, hD, by rw [List.length_map]; exact smallt (by omega), L ++ [x], ?_, ?_, ?_, ?_, ?_⟩
          · intro b u hb
            rw [upd_ne (ne_of_none hb (s3.free nD))]
            exact sm _ _ hb
          · rw [upd_same, List.map_append]; rfl
          · rw [upd_ne ncD]; exact hc2
          · rw [upd_ne npD]; exact hp
          · rw [List.length_append]; exact Nat.succ_le_succ hL
        · exact ⟨L, sm, hD, hc2, hp, by omega⟩
      · rintro H2 ⟨L, sm, hD, hc2, hp, hL⟩
        refine ⟨D, _, rfl, tofL hD, fun g ng => ⟨_, rfl, ?_, deckD g m, rfl, (show 2 ≤ 15 by decide), ?_⟩⟩
        · rw [upd_ne (ne_of_none hp ng)]; exact hp
        · rw [deck_merge]
          have npg : p ≠ g := ne_of_none hp ng
          refine q p g _ (fun b u hb => ?_) (s1.free np) (sm.free ng) ⟨m, L.reverse, upd_same, ?_, ?_, m0, m1⟩
          · rw [upd_ne (ne_of_none hb (s1.free np)), upd_ne (ne_of_none hb (sm.free ng))]
            exact sm _ _ hb
          · rw [upd_ne npg.symm, upd_same, List.map_reverse]
          · rw [List.length_reverse]
            rw [List.length_map] at hL
            omega
end
end KX
namespace KX
open PySem PySem.Spec PyProof.Rows L2 GL
section
variable {P : Program} {w : World} {K : PySem.W.Frag} {mg : Str → Option Value} {base : Heap}
abbrev s_pick : Stmt := topS 30
theorem sc_pick : FnScope ["_law_deck_here", "_law_some"] ["_law_deck_here", "_law_some"] (defScope s_pick) := ⟨rfl, rfl, rfl, by decide +kernel, rfl, by decide +kernel, by decide +kernel⟩
theorem ok_pickL {f : Addr} {fd : FuncData} (F : Fun K "_law_pick" "_law_pick" s_pick f fd) (gl : mg "_law_pick" = some (.ref f)) (T : Bl mg) (D_draw : DefG P w K mg base 1 "_law_draw" ["_law_deck_here", "_law_many"] spDraw) :
    DefG P w K mg base 2 "_law_pick" ["_law_deck_here", "_law_some"] spPickL := by
  refine def_mk F gl (F.binds fun _ _ _ _ _ _ us hl => match us, hl with | [_, _], _ => rfl) (okG F sc_pick (fun vs H Q E h => ?_) fun cdv A outer s H vs Q E hr hc h => ?_)
  · obtain ⟨d, g, a, xs, rfl, _⟩ := h
    rfl
  · obtain ⟨d, g, a, xs, rfl, D, ha, nag, hne, hl, q⟩ := h
    have nd := sc_pick.nd
    refine ⟨_, (pss_one (ps_ret (pe_ix ix_list (pv 1) (pe_def D_draw (hr.mono (by decide)) hc rfl (pa_cons (pv 0) (pa_cons (pe_callB call_len_seq rfl T.len boot_len (pa_cons (pv 1) pa_nil)) pa_nil))) (fun _ _ => rfl)))), ?_⟩
    have nad : a ≠ d ∧ a ≠ g := ⟨by obtain ⟨m, L, h1, _⟩ := D.ex; exact (ne_of h1 ha (fun z => nomatch z)).symm, nag⟩
    have h0 : 0 < xs.length := List.length_pos_iff.mpr hne
    refine ⟨_, rfl, _, rfl, _, rfl, a, xs, rfl, .inl (tofL ha), d, g, _, rfl, D, by omega, by omega, fun r H' r0 r1 D' M => ?_⟩
    obtain ⟨x, hx, e⟩ := at_in (xs := xs) r0 r1
    exact ⟨a, xs, r, x, rfl, rfl, tofL (M.at ha nad), e, q x H' hx D' M⟩
theorem ok_pickS {f : Addr} {fd : FuncData} (F : Fun K "_law_pick" "_law_pick" s_pick f fd) (gl : mg "_law_pick" = some (.ref f)) (T : Bl mg) (D_draw : DefG P w K mg base 1 "_law_draw" ["_law_deck_here", "_law_many"] spDraw) :
    DefG P w K mg base 2 "_law_pick" ["_law_deck_here", "_law_some"] spPickS := by
  refine def_mk F gl (F.binds fun _ _ _ _ _ _ us hl => match us, hl with | [_, _], _ => rfl) (okG F sc_pick (fun vs H Q E h => ?_) fun cdv A outer s H vs Q E hr hc h => ?_)
  · obtain ⟨d, g, z, rfl, _⟩ := h
    rfl
  · obtain ⟨d, g, z, rfl, D, hne, hl, q⟩ := h
    have nd := sc_pick.nd
    refine ⟨_, (pss_one (ps_ret (pe_ix ix_str (pv 1) (pe_def D_draw (hr.mono (by decide)) hc rfl (pa_cons (pv 0) (pa_cons (pe_callB call_len_str rfl T.len boot_len (pa_cons (pv 1) pa_nil)) pa_nil))) (fun _ _ => rfl)))), ?_⟩
    have h0 : 0 < z.cps.toList.length := List.length_pos_iff.mpr hne
    have e0 := str_len z
    refine ⟨_, rfl, _, rfl, _, rfl, z, rfl, small (by omega), d, g, _, rfl, D, by omega, by omega, fun r H' r0 r1 D' M => ?_⟩
    obtain ⟨x, hx, e⟩ := at_in (xs := z.cps.toList) r0 (by omega)
    exact ⟨z, r, x, rfl, rfl, small (by omega), e, q x H' hx D' M⟩
end
end KX
namespace KX
open PySem PySem.Spec PyProof.Rows L2 GL RZ
/-- the sum of the products -/
def prods (ns ms : List Int) : List Int := List.zipWith (fun a b => a * b) ns ms
def dotI (ns ms : List Int) : Int := (prods ns ms).sum
theorem prods_at {ns ms : List Int} {i : Nat} {a b : Int} (h1 : ns[i]? = some a) (h2 : ms[i]? = some b) : (prods ns ms)[i]? = some (a * b) := by
  unfold prods
  rw [List.getElem?_zipWith, h1, h2]
theorem prods_len (ns ms : List Int) : (prods ns ms).length = min ns.length ms.length := by
  unfold prods
  rw [List.length_zipWith]
theorem map_at {ns : List Int} {i : Nat} (h : i < ns.length) : (ns.map V.int)[i]? = some (.int ns[i]) := by
  rw [List.getElem?_map, List.getElem?_eq_getElem h]; rfl
def Small (ns : List Int) : Prop := ∀ n ∈ ns, -(2 ^ 64) < n ∧ n < 2 ^ 64
def spSum (K : PySem.W.Frag) : Sp := fun vs H Q _ => ∃ (a b : Addr) (ns ms : List Int), vs = [.ref a, .ref b] ∧ SqT K H a (ns.map V.int) ∧ SqT K H b (ms.map V.int) ∧ ns.length = ms.length ∧ ns.length ≤ 1000 ∧ Small ns ∧ Q (.int (dotI ns ms)) H
def spDot (K : PySem.W.Frag) : Sp := fun vs H Q _ => ∃ (a b : Addr) (ns ms : List Int), vs = [.ref a, .ref b] ∧ SqT K H a (ns.map V.int) ∧ SqT K H b (ms.map V.int) ∧ ns.length = ms.length ∧ ns.length ≤ 1000 ∧ Small ns ∧ ∀ H', Same H H' → Q (.int (dotI ns ms)) H'
section
variable {P : Program} {w : World} {K : PySem.W.Frag} {mg : Str → Option Value} {base : Heap}
abbrev s_dot : Stmt := topS 5
theorem sc_dot : FnScope ["row", "other", "one", "two"] ["row", "other"] (defScope s_dot) := ⟨rfl, rfl, rfl, by decide +kernel, rfl, by decide +kernel, by decide +kernel⟩
theorem ok_dot {f : Addr} {fd : FuncData} (F : Fun K "dot" "dot" s_dot f fd) (gl : mg "dot" = some (.ref f)) (T : Bl mg) : DefG P w K mg base 1 "dot" ["row", "other"] (spDot K) := by
  refine def_mk F gl (F.binds fun _ _ _ _ _ _ us hl => match us, hl with | [_, _], _ => rfl) (okG F sc_dot (fun vs H Q E h => ?_) fun cdv A outer s H vs Q E hr hc h => ?_)
  · obtain ⟨a, b, ns, ms, rfl, _⟩ := h
    rfl
  · obtain ⟨a, b, ns, ms, rfl, hA, hB, el, hl, sm, q⟩ := h
    have nd := sc_dot.nd
    refine ⟨_, (pss_one (ps_ret (pe_callB (cr_sum rfl) rfl T.sum boot_sum (pa_cons (pe_lc (own := [("one", 2), ("two", 3)]) (g := (gTup K 2 (gCons (gName 2) (gCons (gName 3) gNil)))) (tt := tYes) rfl nd (pi_zipA rfl T.zip (pa_cons (pv 0) (pa_cons (pv 1) pa_nil))) (blkOk_by (own := [("one", 2), ("two", 3)]) (N := ["row", "other", "one", "two"]) (sc := defScope s_dot) (by decide +kernel)) (fun _ _ _ _ _ => (pg_tup rfl (pgs_cons (pg_name (i := 2) nd rfl (by first | exact Or.inl rfl | exact Or.inr rfl)) (pgs_cons (pg_name (i := 3) nd rfl (by first | exact Or.inl rfl | exact Or.inr rfl)) pgs_nil)))) (fun _ _ _ _ _ => pts_nil) (fun _ _ _ _ _ => (pe_op op_mul (pv 2) (pv 3)))) pa_nil)))), ?_⟩
    refine ⟨_, rfl, _, rfl, a, b, _, _, rfl, .inr ⟨hA, hB, fun D nD => ?_⟩⟩
    refine lc_it (walk_zipT (K := K) (a := a) (b := b) (xs := ns.map V.int) (ys := ms.map V.int) (n := ns.length) (by rw [List.length_map, List.length_map]; omega))
      (fun i H2 => Same H H2 ∧ H2 D = some (.lst (((prods ns ms).take i).map V.int))) ⟨Same.new nD, upd_same⟩ (fun i H2 _ h => ⟨Same.tup h.1 hA, Same.tup h.1 hB⟩) ?_ ?_
    · rintro i x H2 H3 hi ⟨s2, hD⟩ ⟨t, u, v, rfl, nt, rfl, f1, f2⟩
      have m1 := map_at hi
      have m2 := map_at (show i < ms.length by omega)
      have e1 : u = .int ns[i] := Option.some.inj (f1.symm.trans m1)
      have e2 : v = .int ms[i] := Option.some.inj (f2.symm.trans m2)
      subst e1 e2
      have sx := sm ns[i] (List.getElem_mem hi)
      have nDt : D ≠ t := ne_of_none hD nt
      refine ⟨t, _, rfl, tofT upd_same, rfl, _, _, rfl, _, _, rfl, rfl, rfl, ?_⟩
      refine ⟨_, rfl, _, rfl, _, _, rfl, rfl, .inl sx, _, (by rw [upd_ne nDt]; exact hD), ?_, ?_, ?_⟩
      · rw [List.length_map, List.length_take]; exact smallt (by omega)
      · intro p o hp
        rw [upd_ne (ne_of_none hp nD), upd_ne (ne_of_none (s2 _ _ hp) nt)]
        exact s2 _ _ hp
      · rw [upd_same, List.take_add_one, prods_at (List.getElem?_eq_getElem hi) (List.getElem?_eq_getElem (show i < ms.length by omega)), List.map_append]
        rfl
    · rintro H2 ⟨s2, hD⟩
      rw [List.take_of_length_le (by rw [prods_len]; omega)] at hD
      exact ⟨D, _, rfl, tofL hD, q H2 s2⟩
end
end KX
namespace KX
open PySem PySem.Spec PyProof.Rows L2 GL RZ
def spConst : Sp := fun vs H Q _ => ∃ (d g : Addr) (wv : Int), vs = [.ref d, .int wv] ∧ Deck H d g ∧ ∀ (c : Int) (H' : Hp), -41 ≤ c → c ≤ 41 → Deck H' d g → Mv d g H H' → Q (.int c) H'
def spFactors : Sp := fun vs H Q _ => ∃ (d g : Addr) (n : Int), vs = [.ref d, .int n] ∧ Deck H d g ∧ 1 ≤ n ∧ n ≤ 6 ∧
  ∀ (p : Addr) (fs : List Int) (H' : Hp), Deck H' d g → Mv d g H H' → H' p = some (.tup (fs.map V.int)) → (fs.length : Int) = n → (∀ f ∈ fs, -9 ≤ f ∧ f ≤ 9) → Q (.ref p) H'
section
variable {P : Program} {w : World} {K : PySem.W.Frag} {mg : Str → Option Value} {base : Heap}
abbrev s_factors : Stmt := topS 32
theorem sc_factors : FnScope ["_law_deck_here", "_law_many", "_law_far", "_law_k"] ["_law_deck_here", "_law_many"] (defScope s_factors) := ⟨rfl, rfl, rfl, by decide +kernel, rfl, by decide +kernel, by decide +kernel⟩
theorem ok_factors {f : Addr} {fd : FuncData} (F : Fun K "_law_factors" "_law_factors" s_factors f fd) (gl : mg "_law_factors" = some (.ref f)) (T : Bl mg) (D_draw : DefG P w K mg base 1 "_law_draw" ["_law_deck_here", "_law_many"] spDraw)
    (D_pick : DefG P w K mg base 2 "_law_pick" ["_law_deck_here", "_law_some"] spPickL) : DefG P w K mg base 3 "_law_factors" ["_law_deck_here", "_law_many"] spFactors := by
  refine def_mk F gl (F.binds fun _ _ _ _ _ _ us hl => match us, hl with | [_, _], _ => rfl) (okG F sc_factors (fun vs H Q E h => ?_) fun cdv A outer s H vs Q E hr hc h => ?_)
  · obtain ⟨d, g, n, rfl, _⟩ := h
    rfl
  · obtain ⟨d, g, n, rfl, D, n1, n6, q⟩ := h
    have nd := sc_factors.nd
    refine ⟨_, (pss_cons (ps_set (i := 2) nd rfl (by first | exact Or.inl rfl | exact Or.inr rfl) (pe_def D_pick (hr.mono (by decide)) hc (by rfl) (pa_cons (pv 0) (pa_cons (pe_lst (pa_cons pe_int (pa_cons pe_int (pa_cons pe_int pa_nil)))) pa_nil))))
      (pss_one (ps_ret (pe_tupleOf rfl T.tuple (pe_lc (own := [("_law_k", 3)]) (g := (gName 3)) (tt := tYes) rfl nd (pi_range1 rfl T.range (pa_cons (pv 1) pa_nil)) (blkOk_by (own := [("_law_k", 3)]) (N := ["_law_deck_here", "_law_many", "_law_far", "_law_k"]) (sc := defScope s_factors) (by decide +kernel)) (fun _ _ _ _ _ => (pg_name (i := 3) nd rfl (by first | exact Or.inl rfl | exact Or.inr rfl))) (fun _ _ _ _ _ => pts_nil) (fun _ _ _ _ _ => (pe_op op_sub (pe_def D_draw (hr.mono (by decide)) hc (by rfl) (pa_cons (pv 0) (pa_cons (pe_op op_add (pe_op op_mul pe_int (pv 2)) pe_int) pa_nil))) (pv 2)))))))), ?_⟩
    refine ⟨_, rfl, (show 3 ≤ sizeLine from small (by decide)), fun p np => ?_⟩
    have off := D.off np
    refine ⟨d, g, p, _, rfl, D.new np, upd_same, off.2, (fun z => nomatch z), (show 3 ≤ 1000 by decide), fun x H1 hx D1 M1 => ?_⟩
    have hk : ∃ k : Int, x = .int k ∧ 1 ≤ k ∧ k ≤ 9 := by
      rcases List.mem_cons.mp hx with rfl | hx
      · exact ⟨1, rfl, by decide, by decide⟩
      rcases List.mem_cons.mp hx with rfl | hx
      · exact ⟨2, rfl, by decide, by decide⟩
      rcases List.mem_cons.mp hx with rfl | hx
      · exact ⟨9, rfl, by decide, by decide⟩
      · cases hx
    obtain ⟨k, rfl, k0, k1⟩ := hk
    have M0 : Mv d g H H1 := (Mv.of (Same.new np)).trans M1
    refine ⟨_, rfl, n, rfl, by omega, by omega, fun D' nD => ?_⟩
    have offD := D1.off nD
    refine lc_range (fun i H2 => Deck H2 d g ∧ Mv d g H H2 ∧ ∃ fs : List Int, H2 D' = some (.lst (fs.map V.int)) ∧ fs.length = i ∧ ∀ f ∈ fs, -9 ≤ f ∧ f ≤ 9) ⟨D1.new nD, M0.trans (Mv.of (Same.new nD)), [], upd_same, rfl, fun f hf => nomatch hf⟩ ?_ ?_
    · rintro i H2 hi ⟨D2, M2, fs, hD, hfl, hfs⟩
      refine ⟨rfl, _, rfl, _, rfl, 2, k, rfl, rfl, .inl ⟨by decide, by decide⟩, _, _, rfl, rfl, d, g, _, rfl, D2, by omega, by omega, fun r H3 r0 r1 D3 M3 => ?_⟩
      refine ⟨_, rfl, r, k, rfl, rfl, _, M3.at hD offD, ?_, D3.mut offD, (M2.trans M3).mut (M0.free D D1 nD), fs ++ [r - k], ?_, ?_, ?_⟩
      · rw [List.length_map]; exact smallt (by omega)
      · rw [upd_same, List.map_append]; rfl
      · rw [List.length_append, hfl]; rfl
      · intro f hf
        rcases List.mem_append.mp hf with hf | hf
        · exact hfs f hf
        · rw [List.mem_singleton.mp hf]
          omega
    · rintro H2 ⟨D2, M2, fs, hD, hfl, hfs⟩
      refine .inl ⟨D', _, rfl, tofL hD, fun t nt => q t fs _ (D2.new nt) (M2.trans (Mv.of (Same.new nt))) upd_same (by omega) hfs⟩
end
end KX
namespace KX
open PySem PySem.Spec PyProof.Rows L2 GL RZ
abbrev Row := List Int × Int
abbrev Rst := List Int × Int × Int
inductive RowsAt (H : Hp) : List V → List Row → Prop
  | nil : RowsAt H [] []
  | cons {p q : Addr} {fs : List Int} {c : Int} {xs : List V} {rs : List Row} : H p = some (.tup [.ref q, .int c]) → H q = some (.tup (fs.map V.int)) → RowsAt H xs rs → RowsAt H (.ref p :: xs) ((fs, c) :: rs)
inductive RestsAt (H : Hp) : List V → List Rst → Prop
  | nil : RestsAt H [] []
  | cons {p q : Addr} {fs : List Int} {c m : Int} {xs : List V} {rs : List Rst} : H p = some (.tup [.ref q, .int c, .int m]) → H q = some (.tup (fs.map V.int)) → RestsAt H xs rs → RestsAt H (.ref p :: xs) ((fs, c, m) :: rs)
theorem RowsAt.len {H : Hp} : ∀ {xs : List V} {rs : List Row}, RowsAt H xs rs → xs.length = rs.length
  | _, _, .nil => rfl
  | _, _, .cons _ _ t => congrArg Nat.succ t.len
theorem RestsAt.len {H : Hp} : ∀ {xs : List V} {rs : List Rst}, RestsAt H xs rs → xs.length = rs.length
  | _, _, .nil => rfl
  | _, _, .cons _ _ t => congrArg Nat.succ t.len
theorem RowsAt.to {H H' : Hp} (k : ∀ a xs, H a = some (.tup xs) → H' a = some (.tup xs)) : ∀ {xs : List V} {rs : List Row}, RowsAt H xs rs → RowsAt H' xs rs
  | _, _, .nil => .nil
  | _, _, .cons a b t => .cons (k _ _ a) (k _ _ b) (t.to k)
theorem RestsAt.to {H H' : Hp} (k : ∀ a xs, H a = some (.tup xs) → H' a = some (.tup xs)) : ∀ {xs : List V} {rs : List Rst}, RestsAt H xs rs → RestsAt H' xs rs
  | _, _, .nil => .nil
  | _, _, .cons a b t => .cons (k _ _ a) (k _ _ b) (t.to k)
theorem RowsAt.snoc {H : Hp} {p q : Addr} {fs : List Int} {c : Int} (h1 : H p = some (.tup [.ref q, .int c])) (h2 : H q = some (.tup (fs.map V.int))) : ∀ {xs : List V} {rs : List Row}, RowsAt H xs rs → RowsAt H (xs ++ [.ref p]) (rs ++ [(fs, c)])
  | _, _, .nil => .cons h1 h2 .nil
  | _, _, .cons a b t => .cons a b (t.snoc h1 h2)
theorem RestsAt.snoc {H : Hp} {p q : Addr} {fs : List Int} {c m : Int} (h1 : H p = some (.tup [.ref q, .int c, .int m])) (h2 : H q = some (.tup (fs.map V.int))) : ∀ {xs : List V} {rs : List Rst}, RestsAt H xs rs → RestsAt H (xs ++ [.ref p]) (rs ++ [(fs, c, m)])
  | _, _, .nil => .cons h1 h2 .nil
  | _, _, .cons a b t => .cons a b (t.snoc h1 h2)
theorem RowsAt.get {H : Hp} : ∀ {xs : List V} {rs : List Row} {i : Nat} {x : V}, RowsAt H xs rs → xs[i]? = some x → ∃ p q fs c, x = .ref p ∧ H p = some (.tup [.ref q, .int c]) ∧ H q = some (.tup (fs.map V.int)) ∧ rs[i]? = some (fs, c)
  | _, _, _, _, .nil, e => by cases e
  | _, _, 0, _, .cons a b t, e => by cases e; exact ⟨_, _, _, _, rfl, a, b, rfl⟩
  | _, _, i + 1, _, .cons a b t, e => RowsAt.get (i := i) t (by simpa using e)
theorem RestsAt.get {H : Hp} : ∀ {xs : List V} {rs : List Rst} {i : Nat} {x : V}, RestsAt H xs rs → xs[i]? = some x → ∃ p q fs c m, x = .ref p ∧ H p = some (.tup [.ref q, .int c, .int m]) ∧ H q = some (.tup (fs.map V.int)) ∧ rs[i]? = some (fs, c, m)
  | _, _, _, _, .nil, e => by cases e
  | _, _, 0, _, .cons a b t, e => by cases e; exact ⟨_, _, _, _, _, rfl, a, b, rfl⟩
  | _, _, i + 1, _, .cons a b t, e => RestsAt.get (i := i) t (by simpa using e)
theorem tups_same {H H' : Hp} (s : Same H H') : ∀ a xs, H a = some (.tup xs) → H' a = some (.tup xs) := fun _ _ h => s _ _ h
theorem tups_mv {H H' : Hp} {d g : Addr} (D : Deck H d g) (m : Mv d g H H') : ∀ a xs, H a = some (.tup xs) → H' a = some (.tup xs) := fun a xs h => by
  obtain ⟨k, L, h1, h2, _⟩ := D.ex
  exact m.keep _ _ h (ne_of h h1 (fun z => nomatch z)) (ne_of h h2 (fun z => nomatch z))
def okRow (ms : List Int) (r : Row) : Bool := decide (dotI r.1 ms - r.2 = 0)
def okRst (ms : List Int) (r : Rst) : Bool := decide ((dotI r.1 ms - r.2.1) % r.2.2 = 0)
def dueB (rows : List Row) (rests : List Rst) (ms : List Int) : Bool := rows.all (okRow ms) && rests.all (okRst ms)
def Fine (n : Nat) (fs : List Int) : Prop := fs.length = n ∧ ∀ f ∈ fs, -9 ≤ f ∧ f ≤ 9
theorem Fine.small {n : Nat} {fs : List Int} (h : Fine n fs) : Small fs := fun f hf => by have := h.2 f hf; exact ⟨by omega, by omega⟩
def FineR (n : Nat) (rows : List Row) : Prop := ∀ r ∈ rows, Fine n r.1 ∧ -41 ≤ r.2 ∧ r.2 ≤ 41
def FineS (n : Nat) (rests : List Rst) : Prop := ∀ r ∈ rests, Fine n r.1 ∧ (-41 ≤ r.2.1 ∧ r.2.1 ≤ 41) ∧ 2 ≤ r.2.2 ∧ r.2.2 ≤ 12
theorem all_take {α : Type} {l : List α} {p : α → Bool} {i : Nat} {x : α} (h : l[i]? = some x) : (l.take (i + 1)).all p = ((l.take i).all p && p x) := by
  rw [List.take_add_one, h, Option.toList_some, List.all_append]
  simp
theorem all_bad {α : Type} {l : List α} {p : α → Bool} {i : Nat} {x : α} (h : l[i]? = some x) (hp : p x = false) : l.all p = false := by
  rw [List.all_eq_false]
  exact ⟨x, List.mem_of_getElem? h, by rw [hp]; exact Bool.false_ne_true⟩
def spDue (K : PySem.W.Frag) : Sp := fun vs H Q _ => ∃ (a b t : Addr) (xs ys : List V) (rows : List Row) (rests : List Rst) (ms : List Int), vs = [.ref a, .ref b, .ref t] ∧ SqT K H a xs ∧ RowsAt H xs rows ∧ SqT K H b ys ∧ RestsAt H ys rests ∧ SqT K H t (ms.map V.int) ∧
  ms.length ≤ 100 ∧ FineR ms.length rows ∧ FineS ms.length rests ∧ Q (.bl (dueB rows rests ms)) H
section
variable {P : Program} {w : World} {K : PySem.W.Frag} {mg : Str → Option Value} {base : Heap}
end
end KX
namespace KX
open PySem PySem.Spec PyProof.Rows L2 GL RZ
/-! ### the class -/
def flds (x y z : V) : List (Str × V) := putF "rests" z (putF "rows" y (putF "names" x []))
theorem f_rests (x y z : V) : (flds x y z).lookup ("rests" : Str) = some z := by
  unfold flds; rw [lookup_putF, if_pos rfl]
theorem f_rows (x y z : V) : (flds x y z).lookup ("rows" : Str) = some y := by
  unfold flds; rw [lookup_putF, if_neg (by decide +kernel), lookup_putF, if_pos rfl]
theorem f_names (x y z : V) : (flds x y z).lookup ("names" : Str) = some x := by
  unfold flds; rw [lookup_putF, if_neg (by decide +kernel), lookup_putF, if_neg (by decide +kernel), lookup_putF, if_pos rfl]
theorem f_no (x y z : V) {m : Str} (h1 : ¬ m = "rests") (h2 : ¬ m = "rows") (h3 : ¬ m = "names") : (flds x y z).lookup m = none := by
  unfold flds; rw [lookup_putF, if_neg h1, lookup_putF, if_neg h2, lookup_putF, if_neg h3]; rfl
theorem fl1 (x : V) : (putF ("names" : Str) x []).length = 1 := rfl
theorem fl2 (x y : V) : (putF ("rows" : Str) y (putF ("names" : Str) x [])).length = 2 := by
  show (if ("names" : Str) = "rows" then [(("names" : Str), y)] else (("names" : Str), x) :: putF "rows" y []).length = 2
  rw [if_neg (by decide +kernel)]; rfl
structure Sys (K : PySem.W.Frag) (mg : Str → Option Value) (C : Addr) : Prop where
  cl : Cls K C
  nN : NoAttr K C "names"
  nR : NoAttr K C "rows"
  nS : NoAttr K C "rests"
  mgC : mg "System" = some (.ref C)
def spInit (C : Addr) : Sp := fun vs H Q _ => ∃ (s dx : Addr) (x y z : V), vs = [.ref s, x, y, z] ∧ H s = some (.ins C dx []) ∧ Q .non (upd H s (.ins C dx (flds x y z)))
def spFul (K : PySem.W.Frag) (C : Addr) : Sp := fun vs H Q _ => ∃ (s dx a b t : Addr) (x : V) (xs ys : List V) (rows : List Row) (rests : List Rst) (ms : List Int), vs = [.ref s, .ref t] ∧ H s = some (.ins C dx (flds x (.ref a) (.ref b))) ∧ SqT K H a xs ∧ RowsAt H xs rows ∧ SqT K H b ys ∧ RestsAt H ys rests ∧
  SqT K H t (ms.map V.int) ∧ ms.length ≤ 100 ∧ rows.length ≤ 100 ∧ rests.length ≤ 100 ∧ FineR ms.length rows ∧ FineS ms.length rests ∧ ∀ H', Same H H' → Q (.bl (dueB rows rests ms)) H'
theorem dec_int (a b : Int) : decide (V.int a = V.int b) = decide (a - b = 0) := by
  by_cases h : a = b
  · subst h; rw [decide_eq_true rfl, decide_eq_true (Int.sub_self a)]
  · rw [decide_eq_false (fun e => h (V.int.inj e)), decide_eq_false (by omega)]
theorem any_not {α : Type} (p : α → Bool) : ∀ l : List α, (l.map fun r => !p r).any id = !(l.all p)
  | [] => rfl
  | x :: r => by
    rw [List.map_cons, List.any_cons, any_not p r, List.all_cons, Bool.not_and]; rfl
theorem any_rest (ms : List Int) : ∀ l : List Rst, (l.map fun r => (dotI r.1 ms - r.2.1) % r.2.2).any (fun n => n != 0) = !(l.all (okRst ms))
  | [] => rfl
  | x :: r => by
    rw [List.map_cons, List.any_cons, any_rest ms r, List.all_cons, Bool.not_and]
    congr 1
section
variable {P : Program} {w : World} {K : PySem.W.Frag} {mg : Str → Option Value} {base : Heap}
abbrev s_init : Stmt := inClass (topS 22) 0
theorem sc_init : FnScope ["self", "names", "rows", "rests"] ["self", "names", "rows", "rests"] (defScope s_init) := ⟨rfl, rfl, rfl, by decide +kernel, rfl, by decide +kernel, by decide +kernel⟩
theorem ok_init {f C E0 : Addr} {fd : FuncData} (F : FunD K "__init__" "System.__init__" (defArgs s_init) (defBody s_init) (defScope s_init) [.ref E0] [] f fd) (S : Sys K mg C) : FnG P w K mg base CX0 1 f fd ["self", "names", "rows", "rests"] (spInit C) := by
  refine okD F sc_init (fun vs H Q E h => ?_) fun cdv A outer s H vs Q E hr hc h => ?_
  · obtain ⟨s, dx, x, y, z, rfl, _⟩ := h
    rfl
  · obtain ⟨p, dx, x, y, z, rfl, hp, q⟩ := h
    refine ⟨_, (pss_cons (ps_fld (pv 0) (pv 1) rfl) (pss_cons (ps_fld (pv 0) (pv 2) rfl) (pss_one (ps_fld (pv 0) (pv 3) rfl)))), ?_⟩
    refine ⟨_, rfl, _, rfl, p, C, dx, _, rfl, hp, S.cl, S.nN, (show 0 < 1000 by decide), _, rfl, _, rfl, p, C, dx, _, rfl, upd_same, S.cl, S.nR, (show 1 < 1000 by decide), _, rfl, _, rfl, p, C, dx, _, rfl, upd_same, S.cl, S.nS, ?_, ?_⟩
    · rw [fl2]; decide
    · rw [upd_upd, upd_upd]; exact q
abbrev s_ful : Stmt := inClass (topS 22) 1
theorem sc_ful : FnScope ["self", "numbers", "factors", "constant", "modulus"] ["self", "numbers"] (defScope s_ful) := ⟨rfl, rfl, rfl, by decide +kernel, rfl, by decide +kernel, by decide +kernel⟩
theorem ok_ful {f C : Addr} {fd : FuncData} (F : Fun K "fulfils" "System.fulfils" s_ful f fd) (S : Sys K mg C) (T : Bl mg) (D_dot : DefG P w K mg base 1 "dot" ["row", "other"] (spDot K)) : FnG P w K mg base CX0 2 f fd ["self", "numbers"] (spFul K C) := by
  refine okG F sc_ful (fun vs H Q E h => ?_) fun cdv A outer s H vs Q E hr hc h => ?_
  · obtain ⟨s, dx, a, b, t, x, xs, ys, rows, rests, ms, rfl, _⟩ := h
    rfl
  · obtain ⟨p, dx, a, b, t, x, xs, ys, rows, rests, ms, rfl, hp, hA, rA, hB, rB, hT, hm, l1, l2, fR, fS, q⟩ := h
    have nd := sc_ful.nd
    refine ⟨_, (pss_cons (ps_if (pt_val (pe_callB (cr_any rfl) (by rfl) T.any boot_any (pa_cons (pe_lc (own := [("factors", 2), ("constant", 3)]) (g := (gTup K 2 (gCons (gName 2) (gCons (gName 3) gNil)))) (tt := tYes) rfl nd (pi_tup (pe_fld (pv 0) rfl)) (blkOk_by (own := [("factors", 2), ("constant", 3)]) (N := ["self", "numbers", "factors", "constant", "modulus"]) (sc := defScope s_ful) (by decide +kernel)) (fun _ _ _ _ _ => (pg_tup rfl (pgs_cons (pg_name (i := 2) nd rfl (by first | exact Or.inl rfl | exact Or.inr rfl)) (pgs_cons (pg_name (i := 3) nd rfl (by first | exact Or.inl rfl | exact Or.inr rfl)) pgs_nil)))) (fun _ _ _ _ _ => pts_nil) (fun _ _ _ _ _ => (pe_cmpR op_ne (pe_def D_dot (hr.mono (by decide)) hc (by rfl) (pa_cons (pv 2) (pa_cons (pv 1) pa_nil))) (pv 3) (nomark _)))) pa_nil)))
        (pss_one (ps_ret pe_bl))
        pss_nil)
      (pss_one (ps_ret (pe_not (pe_callB (cr_anyI rfl) (by rfl) T.any boot_any (pa_cons (pe_lc (own := [("factors", 2), ("constant", 3), ("modulus", 4)]) (g := (gTup K 3 (gCons (gName 2) (gCons (gName 3) (gCons (gName 4) gNil))))) (tt := tYes) rfl nd (pi_tup (pe_fld (pv 0) rfl)) (blkOk_by (own := [("factors", 2), ("constant", 3), ("modulus", 4)]) (N := ["self", "numbers", "factors", "constant", "modulus"]) (sc := defScope s_ful) (by decide +kernel)) (fun _ _ _ _ _ => (pg_tup rfl (pgs_cons (pg_name (i := 2) nd rfl (by first | exact Or.inl rfl | exact Or.inr rfl)) (pgs_cons (pg_name (i := 3) nd rfl (by first | exact Or.inl rfl | exact Or.inr rfl)) (pgs_cons (pg_name (i := 4) nd rfl (by first | exact Or.inl rfl | exact Or.inr rfl)) pgs_nil))))) (fun _ _ _ _ _ => pts_nil) (fun _ _ _ _ _ => (pe_op op_mod (pe_op op_sub (pe_def D_dot (hr.mono (by decide)) hc (by rfl) (pa_cons (pv 2) (pa_cons (pv 1) pa_nil))) (pv 3)) (pv 4)))) pa_nil)))))), ?_⟩
    refine ⟨_, rfl, p, C, dx, _, _, rfl, hp, S.cl, S.nR, f_rows _ _ _, a, rfl, ⟨_, hA⟩, fun D nD => ?_⟩
    refine lc_tup (K := K) (a := a) (xs := xs) (fun i H2 => Same H H2 ∧ H2 D = some (.lst (((rows.take i).map fun r => !okRow ms r).map V.bl))) ⟨Same.new nD, upd_same⟩ (fun i H2 _ h => Same.tup h.1 hA) ?_ ?_
    · rintro i y H2 hi ⟨s2, hD⟩
      obtain ⟨k1, k2, fs, c, rfl, hk1, hk2, hr2⟩ := (rA.to (tups_same s2)).get hi
      have fr : Fine ms.length fs ∧ -41 ≤ c ∧ c ≤ 41 := fR _ (List.mem_of_getElem? hr2)
      have il := (List.getElem?_eq_some_iff.mp hr2).1
      refine ⟨k1, _, rfl, tofT hk1, rfl, _, _, rfl, _, _, rfl, rfl, rfl, ?_⟩
      refine ⟨_, rfl, _, rfl, k2, t, fs, ms, rfl, tofT hk2, Same.tup s2 hT, fr.1.1, by have := fr.1.1; omega, fr.1.small, fun H3 s3 => ⟨_, rfl, rfl, _, s3 _ _ hD, ?_, ?_, ?_⟩⟩
      · rw [List.length_map, List.length_map, List.length_take]; exact smallt (by omega)
      · intro u o hu
        rw [upd_ne (ne_of_none hu nD)]
        exact s3 _ _ (s2 _ _ hu)
      · rw [upd_same, List.take_add_one, hr2, dec_int, List.map_append, List.map_append]
        rfl
    · rintro H2 ⟨s2, hD⟩
      rw [rA.len, List.take_length] at hD
      refine ⟨D, _, rfl, tofL hD, _, rfl, ?_⟩
      rw [any_not]
      refine ite2 (fun e => ?_) (fun e => ?_)
      · have z : dueB rows rests ms = false := by
          unfold dueB
          cases h : rows.all (okRow ms) with
          | true => rw [h] at e; exact absurd e (by decide)
          | false => rfl
        have q2 := q H2 s2
        rw [z] at q2
        exact q2
      · have e1 : rows.all (okRow ms) = true := by
          cases h : rows.all (okRow ms) with
          | true => rfl
          | false => rw [h] at e; exact absurd rfl e
        refine ⟨_, rfl, p, C, dx, _, _, rfl, s2 _ _ hp, S.cl, S.nS, f_rests _ _ _, b, rfl, ⟨_, Same.tup s2 hB⟩, fun D2 nD2 => ?_⟩
        refine lc_tup (K := K) (a := b) (xs := ys) (fun i H3 => Same H2 H3 ∧ H3 D2 = some (.lst (((rests.take i).map fun r => (dotI r.1 ms - r.2.1) % r.2.2).map V.int))) ⟨Same.new nD2, upd_same⟩ (fun i H3 _ h => Same.tup h.1 (Same.tup s2 hB)) ?_ ?_
        · rintro i y H3 hi ⟨s3, hD2⟩
          obtain ⟨k1, k2, fs, c, m, rfl, hk1, hk2, hr2⟩ := (rB.to (tups_same (s2.trans s3))).get hi
          have fr : Fine ms.length fs ∧ (-41 ≤ c ∧ c ≤ 41) ∧ 2 ≤ m ∧ m ≤ 12 := fS _ (List.mem_of_getElem? hr2)
          have hm0 : (0 : Int) < m := by have := fr.2.2.1; omega
          have il := (List.getElem?_eq_some_iff.mp hr2).1
          refine ⟨k1, _, rfl, tofT hk1, rfl, _, _, rfl, _, _, rfl, _, _, rfl, rfl, rfl, ?_⟩
          refine ⟨_, rfl, _, rfl, k2, t, fs, ms, rfl, tofT hk2, Same.tup (s2.trans s3) hT, fr.1.1, by have := fr.1.1; omega, fr.1.small, fun H4 s4 => ⟨_, rfl, _, _, rfl, rfl, _, rfl, _, _, rfl, rfl, hm0, _, s4 _ _ hD2, ?_, ?_, ?_⟩⟩
          · rw [List.length_map, List.length_map, List.length_take]; exact smallt (by omega)
          · intro u o hu
            rw [upd_ne (ne_of_none hu nD2)]
            exact s4 _ _ (s3 _ _ hu)
          · rw [upd_same, List.take_add_one, hr2, List.map_append, List.map_append]
            rfl
        · rintro H3 ⟨s3, hD2⟩
          rw [rB.len, List.take_length] at hD2
          refine ⟨D2, _, rfl, tofL hD2, _, rfl, ?_⟩
          rw [any_rest, Bool.not_not]
          have z : dueB rows rests ms = rests.all (okRst ms) := by unfold dueB; rw [e1, Bool.true_and]
          rw [← z]
          exact q H3 (s2.trans s3)
end
end KX
namespace KX
open PySem PySem.Spec PyProof.Rows L2 GL RZ TL
/-- a short word of plain signs -/
def Word (z : Str) : Prop := z.cps.toList.length ≤ 40 ∧ ∀ c ∈ z.cps.toList, c < 128
def Sign (z : Str) : Prop := ∃ c, z = ⟨#[c]⟩ ∧ c < 128
theorem joinL_len : ∀ ls : List (List Nat), (∀ l ∈ ls, l.length = 1) → (joinL [] ls).length = ls.length
  | [], _ => rfl
  | [p], h => h p List.mem_cons_self
  | p :: q :: r, h => by
    have ih := joinL_len (q :: r) fun l hl => h l (List.mem_cons_of_mem _ hl)
    show (p ++ ([] ++ joinL [] (q :: r))).length = (q :: r).length + 1
    rw [List.nil_append, List.length_append, ih, h p List.mem_cons_self, Nat.add_comm]
theorem joinL_mem {c : Nat} : ∀ ls : List (List Nat), c ∈ joinL [] ls → ∃ l ∈ ls, c ∈ l
  | [], h => nomatch h
  | [p], h => ⟨p, List.mem_cons_self, h⟩
  | p :: q :: r, h => by
    have h' : c ∈ p ++ ([] ++ joinL [] (q :: r)) := h
    rw [List.nil_append] at h'
    rcases List.mem_append.mp h' with h | h
    · exact ⟨p, List.mem_cons_self, h⟩
    · obtain ⟨l, hl, hc⟩ := joinL_mem (q :: r) h
      exact ⟨l, List.mem_cons_of_mem _ hl, hc⟩
theorem tl_empty : tl ("" : Str) = [] := by decide +kernel
theorem join_word {ws : List Str} (h : ∀ z ∈ ws, Sign z) (hl : ws.length ≤ 40) : Word (Txt.join "" ws) := by
  have e : (Txt.join "" ws).cps.toList = joinL [] (ws.map tl) := by
    rw [join_eq]
    have := tl_join "" ws
    rw [tl_empty] at this
    exact this
  unfold Word
  rw [e]
  refine ⟨?_, fun c hc => ?_⟩
  · rw [joinL_len]
    · rw [List.length_map]; exact hl
    · intro l hm
      obtain ⟨z, hz, rfl⟩ := List.mem_map.mp hm
      obtain ⟨k, rfl, _⟩ := h z hz
      rfl
  · obtain ⟨l, hm, hc⟩ := joinL_mem _ hc
    obtain ⟨z, hz, rfl⟩ := List.mem_map.mp hm
    obtain ⟨k, rfl, hk⟩ := h z hz
    have : c = k := List.mem_singleton.mp hc
    rw [this]; exact hk
theorem join_len8 {ws : List Str} (h : ∀ z ∈ ws, Sign z) : (Txt.join "" ws).cps.toList.length = ws.length := by
  have e : (Txt.join "" ws).cps.toList = joinL [] (ws.map tl) := by
    rw [join_eq]
    have := tl_join "" ws
    rw [tl_empty] at this
    exact this
  rw [e, joinL_len]
  · rw [List.length_map]
  · intro l hm
    obtain ⟨z, hz, rfl⟩ := List.mem_map.mp hm
    obtain ⟨k, rfl, _⟩ := h z hz
    rfl
theorem sign_len {ws : List Str} (h : ∀ z ∈ ws, Sign z) : (ws.map (·.length)).sum = ws.length := by
  induction ws with
  | nil => rfl
  | cons z r ih =>
    obtain ⟨k, rfl, _⟩ := h z List.mem_cons_self
    rw [List.map_cons, List.sum_cons, ih fun y hy => h y (List.mem_cons_of_mem _ hy), List.length_cons, Nat.add_comm]
    rfl
theorem cut_word {z : Str} (h : Word z) (hl : z.cps.toList.length ≤ 20) (lo hi : Option Int) : (cutS z lo hi).cps.toList.length ≤ 20 ∧ ∀ c ∈ (cutS z lo hi).cps.toList, c < 128 := by
  unfold cutS
  refine ⟨?_, fun c hc => h.2 c ?_⟩
  · show (List.take _ (List.drop _ _)).length ≤ 20
    rw [List.length_take, List.length_drop]
    omega
  · exact List.mem_of_mem_drop (List.mem_of_mem_take hc)
theorem app_list (x y : Str) : (x ++ y).cps.toList = x.cps.toList ++ y.cps.toList := by
  show (x.cps ++ y.cps).toList = _
  rw [Array.toList_append]
theorem num_word : ∀ k : Nat, k < 6 → (Str.ofString (toString (k : Int))).cps.toList.length ≤ 2 ∧ ∀ c ∈ (Str.ofString (toString (k : Int))).cps.toList, c < 128 := by
  intro k hk
  have h : k = 0 ∨ k = 1 ∨ k = 2 ∨ k = 3 ∨ k = 4 ∨ k = 5 := by omega
  rcases h with rfl | rfl | rfl | rfl | rfl | rfl <;> exact ⟨by decide +kernel, by decide +kernel⟩
theorem log_small : ∀ k : Nat, k < 6 → (k : Int).natAbs.log2 < 1920 := by
  intro k hk
  have h : k = 0 ∨ k = 1 ∨ k = 2 ∨ k = 3 ∨ k = 4 ∨ k = 5 := by omega
  rcases h with rfl | rfl | rfl | rfl | rfl | rfl <;> decide
theorem lay_words : ∀ ns : List Str, (∀ z ∈ ns, Word z) → PyData.canLayAll0 (ns.map PyData.str) = true
  | [], _ => rfl
  | n :: r, h => by
    have h1 := h n List.mem_cons_self
    show (PyData.strOk n && PyData.canLayAll0 (r.map PyData.str)) = true
    rw [lay_words r fun y hy => h y (List.mem_cons_of_mem _ hy), Bool.and_true]
    unfold PyData.strOk
    rw [← Array.all_toList, List.all_eq_true]
    intro c hc
    exact decide_eq_true (Nat.lt_trans (h1.2 c hc) (by decide))
theorem shaped_words (ns : List Str) (h : ∀ z ∈ ns, Word z) : SeqAt.shaped (.list (ns.map PyData.str)) = true := by
  unfold SeqAt.shaped
  rw [show PyData.canLay0 (.list (ns.map PyData.str)) = PyData.canLayAll0 (ns.map PyData.str) from rfl, lay_words ns h]
  rw [show PyData.depth (.list (ns.map PyData.str)) = PyData.depthAll (ns.map PyData.str) + 1 from rfl, depth_strs ns]
  rfl
theorem strs_at {ns : List Str} {i : Nat} {x : V} (h : (ns.map V.str)[i]? = some x) : ∃ n, x = .str n ∧ n ∈ ns ∧ i < ns.length := by
  rw [List.getElem?_map] at h
  cases e : ns[i]? with
  | none => rw [e] at h; cases h
  | some n =>
    rw [e] at h
    exact ⟨n, (Option.some.inj h).symm, List.mem_of_getElem? e, (List.getElem?_eq_some_iff.mp e).1⟩
theorem ixN_of {n : Nat} {r : Int} (h0 : 0 ≤ r) (h1 : r < n) : ixN n r = some r.toNat := by
  unfold ixN
  rw [if_pos h0, if_pos h1]
theorem let_at {fi : Int} {i c : Nat} (e : atI (Str.ofString "abcdefghijklmnopqrstuvwxyz").cps.toList ((fi + 7 * (0 + (i : Nat))) % 26) = some c) : abcL[((fi + 7 * (i : Nat)) % 26).toNat]? = some c := by
  unfold atI ixN at e
  rw [if_pos (Int.emod_nonneg _ (by decide)), show (Str.ofString "abcdefghijklmnopqrstuvwxyz").cps.toList.length = 26 from abcL_len, if_pos (show (fi + 7 * (0 + (i : Int))) % 26 < ((26 : Nat) : Int) from Int.emod_lt_of_pos _ (by decide)), show (0 + (i : Int)) = (i : Int) by omega] at e
  exact e
theorem cut_one {z : Str} (h : 1 ≤ z.cps.toList.length) : (cutS z none (some 1)).cps.toList.length = 1 := by
  unfold cutS
  have e2 : HT.sIx z.length z.length (some (1 : Int)) = min 1 z.length := HT.sIx_nat _ _ 1
  rw [HT.sIx_none, e2]
  show (List.take _ (List.drop 0 z.cps.toList)).length = 1
  rw [List.length_take, List.length_drop, str_len]
  omega
def spCalled (K : PySem.W.Frag) : Sp := fun vs H Q _ => ∃ (d g : Addr) (n : Int), vs = [.ref d, .int n] ∧ Deck H d g ∧ 1 ≤ n ∧ n ≤ 6 ∧
  ∀ (p : Addr) (ns : List Str) (H' : Hp), Deck H' d g → Mv d g H H' → SqZ K H' p (ns.map V.str) → (ns.length : Int) = n → (∀ z ∈ ns, Word z) → ns.Nodup → Q (.ref p) H'
abbrev abc : Str := "abcdefghijklmnopqrstuvwxyz"
theorem abc_len : abc.cps.toList.length = 26 := by decide +kernel
theorem abc_low : ∀ c ∈ abc.cps.toList, c < 128 := by decide +kernel
theorem abc9_len : (abc ++ "0123456789").cps.toList.length = 36 := by decide +kernel
theorem abc9_low : ∀ c ∈ (abc ++ "0123456789").cps.toList, c < 128 := by decide +kernel
section
variable {P : Program} {w : World} {K : PySem.W.Frag} {mg : Str → Option Value} {base : Heap}
abbrev s_called : Stmt := topS 31
theorem sc_called : FnScope ["_law_deck_here", "_law_many", "_law_letters", "_law_word", "_law_k", "_law_at", "_law_first", "_law_found", "_law_kept", "_law_name"] ["_law_deck_here", "_law_many"] (defScope s_called) := ⟨rfl, rfl, rfl, by decide +kernel, rfl, by decide +kernel, by decide +kernel⟩
theorem ok_called {f : Addr} {fd : FuncData} (F : Fun K "_law_called" "_law_called" s_called f fd) (gl : mg "_law_called" = some (.ref f)) (T : Bl mg) (D_draw : DefG P w K mg base 1 "_law_draw" ["_law_deck_here", "_law_many"] spDraw)
    (D_pick : DefG P w K mg base 2 "_law_pick" ["_law_deck_here", "_law_some"] spPickS) : DefG P w K mg base 3 "_law_called" ["_law_deck_here", "_law_many"] (spCalled K) := by
  refine def_mk F gl (F.binds fun _ _ _ _ _ _ us hl => match us, hl with | [_, _], _ => rfl) (okG F sc_called (fun vs H Q E h => ?_) fun cdv A outer s H vs Q E hr hc h => ?_)
  · obtain ⟨d, g, n, rfl, _⟩ := h
    rfl
  · obtain ⟨d, g, n, rfl, D, n1, n6, q⟩ := h
    have nd := sc_called.nd
    have hu64 := hr.units
    refine ⟨_, (pss_cons (ps_set (i := 2) nd rfl (by first | exact Or.inl rfl | exact Or.inr rfl) pe_str)
      (pss_cons (ps_set (i := 3) nd rfl (by first | exact Or.inl rfl | exact Or.inr rfl) (pe_lst (pa_cons (pe_def D_pick (hr.mono (by decide)) hc (by rfl) (pa_cons (pv 0) (pa_cons (pv 2) pa_nil))) pa_nil)))
      (pss_cons (ps_for PassesOwn.never rfl (pi_range1 (by rfl) T.range (pa_cons (pe_def D_draw (hr.mono (by decide)) hc (by rfl) (pa_cons (pv 0) (pa_cons pe_int pa_nil))) pa_nil)) (pg_name (i := 4) nd rfl (by first | exact Or.inl rfl | exact Or.inr rfl))
        (pss_one (ps_expr (pe_bm PySem.F.plainAttrs_list PySem.F.slot_list_append PySem.F.type_list_append mt_append (pv 3) (pa_cons (pe_def D_pick (hr.mono (by decide)) hc (by rfl) (pa_cons (pv 0) (pa_cons (pe_op op_add_str (pv 2) pe_str) pa_nil))) pa_nil)))))
      (pss_cons (ps_par3 (i := 5) (j := 6) (l := 7) rfl nd rfl rfl rfl (by decide) (by decide) (by decide) rfl rfl rfl (pa_cons (pe_def D_draw (hr.mono (by decide)) hc (by rfl) (pa_cons (pv 0) (pa_cons (pe_callB call_len_seq (by rfl) T.len boot_len (pa_cons (pv 3) pa_nil)) pa_nil))) (pa_cons (pe_def D_draw (hr.mono (by decide)) hc (by rfl) (pa_cons (pv 0) (pa_cons pe_int pa_nil))) (pa_cons (pe_lst pa_nil) pa_nil))) rfl)
      (pss_cons (ps_for PassesOwn.never rfl (pi_range1 (by rfl) T.range (pa_cons (pv 1) pa_nil)) (pg_name (i := 4) nd rfl (by first | exact Or.inl rfl | exact Or.inr rfl))
        (pss_cons (ps_asg (pe_ix ix_str (pv 2) (pe_op op_mod (pe_op op_add (pv 6) (pe_op op_mul pe_int (pv 4))) pe_int) (fun _ _ => rfl)) (pg_sub (pv 3) (pv 5) set_list))
        (pss_one (ps_expr (pe_bm PySem.F.plainAttrs_list PySem.F.slot_list_append PySem.F.type_list_append mt_append (pv 7) (pa_cons (pe_join pe_str (pv 3)) pa_nil))))))
      (pss_cons (ps_set (i := 8) nd rfl (by first | exact Or.inl rfl | exact Or.inr rfl) (pe_lst (pa_cons pe_str (pa_cons pe_str (pa_cons pe_str (pa_cons pe_str (pa_cons pe_str (pa_cons pe_str (pa_cons pe_str (pa_cons pe_str (pa_cons pe_str pa_nil)))))))))))
      (pss_cons (ps_if (pt_cmpR (op_neD hu64) (pe_lc (own := [("_law_name", 9)]) (g := (gName 9)) rfl nd (pi_list (pv 7)) (blkOk_by (own := [("_law_name", 9)]) (N := ["_law_deck_here", "_law_many", "_law_letters", "_law_word", "_law_k", "_law_at", "_law_first", "_law_found", "_law_kept", "_law_name"]) (sc := defScope s_called) (by decide +kernel)) (fun _ _ _ _ _ => (pg_name (i := 9) nd rfl (by first | exact Or.inl rfl | exact Or.inr rfl))) (fun _ _ _ _ _ => (pts_one (pt_cmpR (op_inK (K := K)) (pv 9) (pv 8) (by with_unfolding_all rfl)))) (fun _ _ _ _ _ => (pv 9))) (pe_lst pa_nil) (nomark _))
        (pss_one (ps_setLc (i := 7) (own := [("_law_k", 4), ("_law_name", 9)]) (g := (gTup K 2 (gCons (gName 4) (gCons (gName 9) gNil)))) (tt := tYes) rfl nd rfl rfl (sw_true rfl rfl rfl (by decide +kernel)) (pi_enum (by rfl) T.enumerate (pa_cons (pv 7) pa_nil)) (blkOk_by (own := [("_law_k", 4), ("_law_name", 9)]) (N := ["_law_deck_here", "_law_many", "_law_letters", "_law_word", "_law_k", "_law_at", "_law_first", "_law_found", "_law_kept", "_law_name"]) (sc := defScope s_called) (by decide +kernel)) (fun _ _ _ _ _ => (pg_tup rfl (pgs_cons (pg_name (i := 4) nd rfl (by first | exact Or.inl rfl | exact Or.inr rfl)) (pgs_cons (pg_name (i := 9) nd rfl (by first | exact Or.inl rfl | exact Or.inr rfl)) pgs_nil)))) (fun _ _ _ _ _ => pts_nil) (fun _ _ _ _ _ => (pe_op op_add_str (pe_slice sl_str (pv 9) po_none (po_some pe_int)) (pe_callTy call_str_int (by rfl) T.str boot_str (pa_cons (pv 4) pa_nil))))))
        pss_nil)
      (pss_one (ps_ret (pe_tupleZ (by rfl) T.tuple (pv 7))))))))))), ?_⟩
    -- letters; word = [pick(letters)]
    refine ⟨_, rfl, _, rfl, d, g, abc, rfl, D, (fun z => by have := abc_len; rw [z] at this; cases this), by rw [str_len, abc_len]; decide, fun c0 H1 hc0 D1 M1 => ⟨(show 1 ≤ sizeLine from small (by decide)), fun p np => ?_⟩⟩
    have offp := D1.off np
    have npH := M1.free D D1 np
    -- for k in range(draw(8))
    refine ⟨_, rfl, d, g, 8, rfl, D1.new np, by decide, by decide, fun r8 H2 r80 r81 D2 M2 => ⟨r8, rfl, by omega, by omega, ?_⟩⟩
    have M02 : Mv d g H H2 := M1.trans ((Mv.of (Same.new np)).trans M2)
    refine for_range (fun i σ H3 => Deck H3 d g ∧ Mv d g H H3 ∧ ∃ (ws : List Str) (v4 : Option V), σ = [some (.ref d), some (.int n), some (.str abc), some (.ref p), v4, none, none, none, none, none] ∧ H3 p = some (.lst (ws.map V.str)) ∧ (∀ z ∈ ws, Sign z) ∧ ws.length = 1 + i)
      ⟨D2, M02, [⟨#[c0]⟩], none, rfl, M2.at upd_same offp, fun z hz => ⟨c0, List.mem_singleton.mp hz, abc_low c0 hc0⟩, rfl⟩ ?_ ?_
    · rintro i σ H3 hi ⟨D3, M3, ws, v4, rfl, hp, hs, hl⟩
      refine ⟨_, rfl, ty_l (tofL hp), _, rfl, _, rfl, abc, _, rfl, rfl, small (by rw [str_len, str_len, abc_len]; decide), d, g, _, rfl, D3, (fun z => by have := abc9_len; rw [z] at this; cases this), by rw [str_len, abc9_len]; decide, fun c H4 hc4 D4 M4 => ?_⟩
      refine ⟨p, _, _, rfl, rfl, M4.at hp offp, by rw [List.length_map]; exact smallt (by omega), D4.mut offp, (M3.trans M4).mut npH, ws ++ [⟨#[c]⟩], _, rfl, ?_, ?_, ?_⟩
      · rw [upd_same, List.map_append]; rfl
      · intro z hz
        rcases List.mem_append.mp hz with hz | hz
        · exact hs z hz
        · exact ⟨c, List.mem_singleton.mp hz, abc9_low c hc4⟩
      · rw [List.length_append, hl]; rfl
    · rintro σ H3 ⟨D3, M3, ws, v4, rfl, hp, hs, hl⟩
      have hl8 : ws.length ≤ 8 := by omega
      -- at, first, found
      refine ⟨_, rfl, _, rfl, p, _, rfl, .inl (tofL hp), d, g, _, rfl, D3, by rw [List.length_map]; omega, by rw [List.length_map]; omega, fun at_ H4 a0 a1 D4 M4 => ?_⟩
      rw [List.length_map] at a1
      refine ⟨_, rfl, d, g, 26, rfl, D4, by decide, by decide, fun fi H5 f0 f1 D5 M5 => ⟨Nat.zero_le _, fun fn nfn => ?_⟩⟩
      have offn := D5.off nfn
      have hp5 : H5 p = some (.lst (ws.map V.str)) := M5.at (M4.at hp offp) offp
      have npf : p ≠ fn := ne_of_none hp5 nfn
      have M05 : Mv d g H H5 := M3.trans (M4.trans M5)
      have nfH := M05.free D D5 nfn
      refine ⟨_, _, _, rfl, ?_⟩
      -- for k in range(many)
      refine ⟨_, rfl, n, rfl, by omega, by omega, ?_⟩
      refine for_range (fun i σ H6 => Deck H6 d g ∧ Mv d g H H6 ∧ ∃ (ws ns : List Str) (v4 : Option V), σ = [some (.ref d), some (.int n), some (.str abc), some (.ref p), v4, some (.int at_), some (.int fi), some (.ref fn), none, none] ∧
          H6 p = some (.lst (ws.map V.str)) ∧ (∀ z ∈ ws, Sign z) ∧ ws.length ≤ 8 ∧ at_ < ws.length ∧ H6 fn = some (.lst (ns.map V.str)) ∧ ns.length = i ∧ NmAt at_ fi i ns ws ∧ ∀ z ∈ ns, Word z ∧ z.cps.toList.length ≤ 8)
        ⟨D5.new nfn, M05.trans (Mv.of (Same.new nfn)), ws, [], v4, rfl, by rw [upd_ne npf]; exact hp5, hs, hl8, a1, upd_same, rfl, NmAt.new (fun z hz => (hs z hz).imp fun c q => q.1) (by omega), fun z hz => nomatch hz⟩ ?_ ?_
      · rintro i σ H6 hi ⟨D6, M6, ws, ns, v4, rfl, hp, hs, hl, ha, hf, hn, hnm, hw⟩
        obtain ⟨c, hcm, ec⟩ := at_in (xs := abc.cps.toList) (r := (fi + 7 * (0 + (i : Nat))) % 26) (Int.emod_nonneg _ (by decide)) (by rw [abc_len]; exact Int.emod_lt_of_pos _ (by decide))
        refine ⟨_, rfl, _, rfl, _, rfl, 7, _, rfl, rfl, mul_small (by decide) (by decide), _, _, rfl, rfl, _, 26, rfl, rfl, (show (0 : Int) < 26 by decide), abc, _, c, rfl, rfl, small (by rw [str_len, abc_len]; decide), ec, ?_⟩
        have hs2 : ∀ z ∈ ws.set at_.toNat ⟨#[c]⟩, Sign z := fun z hz => by
          rcases List.mem_or_eq_of_mem_set hz with hz | rfl
          · exact hs z hz
          · exact ⟨c, rfl, abc_low c hcm⟩
        refine ⟨_, rfl, _, rfl, p, _, at_, at_.toNat, rfl, rfl, hp, ixN_of a0 (by rw [List.length_map]; exact ha), ?_⟩
        have em : (ws.map V.str).set at_.toNat (.str ⟨#[c]⟩) = (ws.set at_.toNat ⟨#[c]⟩).map V.str := by rw [List.map_set]
        rw [em]
        have hf2 : upd H6 p (.lst ((ws.set at_.toNat ⟨#[c]⟩).map V.str)) fn = some (.lst (ns.map V.str)) := by rw [upd_ne npf.symm]; exact hf
        have jw := join_word hs2 (by rw [List.length_set]; omega)
        refine ⟨_, rfl, ty_l (tofL hf2), ⟨_, rfl⟩, _, rfl, "", p, ws.set at_.toNat ⟨#[c]⟩, rfl, rfl, .inl (tofL upd_same), ?_, fn, _, _, rfl, rfl, hf2, by rw [List.length_map]; exact smallt (by omega), (D6.mut offp).mut offn, (M6.mut npH).mut nfH, ws.set at_.toNat ⟨#[c]⟩, ns ++ [Txt.join "" (ws.set at_.toNat ⟨#[c]⟩)], _, rfl, ?_, hs2, by rw [List.length_set]; exact hl, by rw [List.length_set]; exact ha, ?_, ?_, hnm.step (let_at ec), ?_⟩
        · rw [sign_len hs2, List.length_set]
          have : (Str.ofString "").length = 0 := by decide +kernel
          rw [this]
          omega
        · rw [upd_ne npf, upd_same]
        · rw [upd_same, List.map_append]; rfl
        · rw [List.length_append, hn]; rfl
        · intro z hz
          rcases List.mem_append.mp hz with hz | hz
          · exact hw z hz
          · rw [List.mem_singleton.mp hz]
            exact ⟨jw, by rw [← str_len]; exact (show (Txt.join "" (ws.set at_.toNat ⟨#[c]⟩)).length ≤ 8 from by
              rw [str_len]
              have := jw.1
              have e := join_len8 hs2
              rw [e, List.length_set]; exact hl)⟩
      · rintro σ H6 ⟨D6, M6, ws2, ns, v5, rfl, hp6, hs6, hl6, ha6, hf6, hn6, hnm6, hw6⟩
        have fin : ∀ (Hx : Hp) (x : Addr) (ms : List Str), Deck Hx d g → Mv d g H Hx → Hx x = some (.lst (ms.map V.str)) → (ms.length : Int) = n → (∀ z ∈ ms, Word z) → ms.Nodup → kTupZ K (.ref x) Hx Q :=
          fun Hx x ms Dx Mx hx hlx hwx hdx => ⟨x, _, rfl, tofL hx, fun t o nt od => q t ms _ (Dx.new nt) (Mx.trans (Mv.of (Same.new nt))) (.inl ⟨o, upd_same, od⟩) hlx hwx hdx⟩
        -- kept
        refine ⟨(show 9 ≤ sizeLine from small (by decide)), fun kp nkp => ?_⟩
        have s7 := Same.new (o := .lst [.str "check", .str "input", .str "keep", .str "let", .str "mod", .str "names", .str "open", .str "self", .str "take"]) nkp
        have hk7 : upd H6 kp (.lst [.str "check", .str "input", .str "keep", .str "let", .str "mod", .str "names", .str "open", .str "self", .str "take"]) kp = some (.lst [.str "check", .str "input", .str "keep", .str "let", .str "mod", .str "names", .str "open", .str "self", .str "take"]) := upd_same
        revert s7 hk7
        generalize upd H6 kp (.lst [.str "check", .str "input", .str "keep", .str "let", .str "mod", .str "names", .str "open", .str "self", .str "take"]) = H7
        intro s7 hk7
        have D7 := D6.same s7
        have M7 := M6.trans (Mv.of s7)
        -- [name for name in found if name in kept] != []
        refine ⟨_, rfl, fn, rfl, ⟨_, tofL (s7 _ _ hf6)⟩, fun Dl nDl => ?_⟩
        refine lc_list (K := K) (a := fn) (xs := ns.map V.str) (fun i H8 => Same H7 H8 ∧ ∃ zs : List Str, H8 Dl = some (.lst (zs.map V.str)) ∧ zs.length ≤ i ∧ ∀ z ∈ zs, Word z) ⟨Same.new nDl, [], upd_same, Nat.le_refl _, fun z hz => nomatch hz⟩
          (fun i H8 _ h => tofL (h.1 _ _ (s7 _ _ hf6))) ?_ ?_
        · rintro i x H8 hi ⟨s8, zs, hD, hzl, hzw⟩
          obtain ⟨z, rfl, hz, hil⟩ := strs_at hi
          refine ⟨rfl, _, rfl, _, rfl, kp, _, rfl, .inl (tofL (s8 _ _ hk7)), rfl, rfl, _, rfl, ite2 (fun _ => ?_) (fun _ => ?_)⟩
          · refine ⟨_, rfl, _, hD, by rw [List.length_map]; exact smallt (by omega), ?_, zs ++ [z], ?_, ?_, ?_⟩
            · intro b u hb
              rw [upd_ne (ne_of_none hb nDl)]
              exact s8 _ _ hb
            · rw [upd_same, List.map_append]; rfl
            · rw [List.length_append]; exact Nat.succ_le_succ hzl
            · intro y hy
              rcases List.mem_append.mp hy with hy | hy
              · exact hzw y hy
              · rw [List.mem_singleton.mp hy]; exact (hw6 z hz).1
          · exact ⟨s8, zs, hD, by omega, hzw⟩
        · rintro H8 ⟨s8, zs, hD, hzl, hzw⟩
          refine ⟨Nat.zero_le _, fun o no => ?_⟩
          have s9 := s8.trans (Same.new (o := .lst []) no)
          have hD9 := Same.new (o := .lst []) no _ _ hD
          refine ⟨_, _, .lst (tofL hD9) (dpa_strs zs), .lst (tofL upd_same) .nil, shaped_words zs hzw, shaped_ints [], _, rfl, ?_⟩
          have hf9 := s9 _ _ (s7 _ _ hf6)
          revert s9 hf9
          generalize upd H8 o (.lst []) = H9
          intro s9 hf9
          refine ite2 (fun _ => ?_) (fun _ => ?_)
          · refine ⟨_, rfl, fn, _, rfl, tofL hf9, fun D2 nD2 => ?_⟩
            have hnl : ns.length ≤ 6 := by omega
            refine lc_it (walk_enum (K := K) (a := fn) (xs := ns.map V.str)) (fun i H10 => Same H9 H10 ∧ ∃ ms : List Str, H10 D2 = some (.lst (ms.map V.str)) ∧ ms.length = i ∧ NumAt ms ∧ ∀ z ∈ ms, Word z) ⟨Same.new nD2, [], upd_same, rfl, (fun j z e => by cases e), fun z hz => nomatch hz⟩
              (fun i H10 _ h => tofL (h.1 _ _ hf9)) ?_ ?_
            · rintro i x H10 H11 hi ⟨s10, ms, hD2, hml, hnu, hmw⟩ ⟨t, u, v, rfl, nt, rfl, f1, f2⟩
              rw [List.length_map] at hi
              have e1 : u = .int (i : Nat) := (Option.some.inj f1).symm
              subst e1
              obtain ⟨z, rfl, hz, hil⟩ := strs_at f2
              have hzw := hw6 z hz
              have hcw := cut_word hzw.1 (Nat.le_trans hzw.2 (by decide)) none (some 1)
              have hnw := num_word i (by omega)
              have nDt : D2 ≠ t := ne_of_none hD2 nt
              refine ⟨t, _, rfl, tofT upd_same, rfl, _, _, rfl, _, _, rfl, rfl, rfl, ?_⟩
              refine ⟨_, rfl, 1, rfl, z, rfl, small (by rw [str_len]; have := hzw.2; omega), _, rfl, (i : Int), rfl, log_small i (by omega), _, _, rfl, rfl, small (by rw [str_len, str_len]; have := hcw.1; have := hnw.1; omega), _, (by rw [upd_ne nDt]; exact hD2), by rw [List.length_map]; exact smallt (by omega), ?_, ms ++ [cutS z none (some 1) ++ Str.ofString (toString (i : Int))], ?_, ?_, (by have q := hnu.snoc (p := cutS z none (some 1)) (cut_one (hnm6.one z hz)); rw [hml] at q; exact q), ?_⟩
              · intro b o hb
                rw [upd_ne (ne_of_none hb nD2), upd_ne (ne_of_none (s10 _ _ hb) nt)]
                exact s10 _ _ hb
              · rw [upd_same, List.map_append]; rfl
              · rw [List.length_append, hml]; rfl
              · intro y hy
                rcases List.mem_append.mp hy with hy | hy
                · exact hmw y hy
                · rw [List.mem_singleton.mp hy]
                  refine ⟨?_, fun c hc => ?_⟩
                  · rw [app_list, List.length_append]
                    have := hcw.1
                    have := hnw.1
                    omega
                  · rw [app_list] at hc
                    rcases List.mem_append.mp hc with hc | hc
                    · exact hcw.2 c hc
                    · exact hnw.2 c hc
            · rintro H10 ⟨s10, ms, hD2, hml, hnu, hmw⟩
              rw [List.length_map] at hml
              exact ⟨_, rfl, fin H10 D2 ms ((D7.same s9).same s10) (M7.trans ((Mv.of s9).trans (Mv.of s10))) hD2 (by omega) hmw (hnu.nodup (by omega))⟩
          · exact ⟨_, rfl, fin H9 fn ns (D7.same s9) (M7.trans (Mv.of s9)) hf9 (by omega) (fun z hz => (hw6 z hz).1) (hnm6.nodup (by omega))⟩
end
end KX
namespace KX
open PySem PySem.Spec PyProof.Rows L2 GL RZ
theorem eqV_str (x y : Str) : eqV (.str x) (.str y) = decide (x = y) := by
  unfold eqV
  rfl
theorem inV_strs (z : Str) (ns : List Str) : inV (.str z) (ns.map V.str) = decide (z ∈ ns) := by
  unfold inV
  rw [List.any_map]
  by_cases h : z ∈ ns
  · rw [decide_eq_true h]
    exact List.any_eq_true.mpr ⟨z, h, by show eqV (.str z) (.str z) = true; rw [eqV_str]; exact decide_eq_true rfl⟩
  · rw [decide_eq_false h]
    refine List.any_eq_false.mpr fun y hy => ?_
    show ¬ eqV (.str y) (.str z) = true
    rw [eqV_str, decide_eq_true_eq]
    exact fun e => h (e ▸ hy)
theorem idx_facts (z : Str) : ∀ ns : List Str, z ∈ ns → ns[ns.idxOf z]? = some z ∧ ∀ m, m < ns.idxOf z → ns[m]? ≠ some z
  | [], h => nomatch h
  | y :: r, h => by
    by_cases e : y = z
    · subst e
      rw [List.idxOf_cons_self]
      exact ⟨rfl, fun m hm => absurd hm (Nat.not_lt_zero m)⟩
    · have hr : z ∈ r := (List.mem_cons.mp h).resolve_left (fun q => e q.symm)
      obtain ⟨h1, h2⟩ := idx_facts z r hr
      have ei : (y :: r).idxOf z = r.idxOf z + 1 := by
        rw [List.idxOf_cons, show (y == z) = false from beq_eq_false_iff_ne.mpr e]; rfl
      rw [ei]
      refine ⟨h1, fun m hm => ?_⟩
      cases m with
      | zero => exact fun q => e (Option.some.inj q)
      | succ m => exact h2 m (by omega)
/-- the factor of a name -/
def facOf (fs : List Int) (old : List Str) (z : Str) : Int := if z ∈ old then fs.getD (old.idxOf z) 0 else 0
abbrev Line := List Int × List Int
/-- a line as it lies: factors, then what stands behind them -/
inductive LnAt (H : Hp) : List V → List Line → Prop
  | nil : LnAt H [] []
  | cons {p q : Addr} {fs ms : List Int} {xs : List V} {ls : List Line} : H p = some (.tup (.ref q :: ms.map V.int)) → H q = some (.tup (fs.map V.int)) → LnAt H xs ls → LnAt H (.ref p :: xs) ((fs, ms) :: ls)
theorem LnAt.len {H : Hp} : ∀ {xs : List V} {ls : List Line}, LnAt H xs ls → xs.length = ls.length
  | _, _, .nil => rfl
  | _, _, .cons _ _ t => congrArg Nat.succ t.len
theorem LnAt.to {H H' : Hp} (k : ∀ a xs, H a = some (.tup xs) → H' a = some (.tup xs)) : ∀ {xs : List V} {ls : List Line}, LnAt H xs ls → LnAt H' xs ls
  | _, _, .nil => .nil
  | _, _, .cons a b t => .cons (k _ _ a) (k _ _ b) (t.to k)
theorem LnAt.snoc {H : Hp} {p q : Addr} {fs ms : List Int} (h1 : H p = some (.tup (.ref q :: ms.map V.int))) (h2 : H q = some (.tup (fs.map V.int))) : ∀ {xs : List V} {ls : List Line}, LnAt H xs ls → LnAt H (xs ++ [.ref p]) (ls ++ [(fs, ms)])
  | _, _, .nil => .cons h1 h2 .nil
  | _, _, .cons a b t => .cons a b (t.snoc h1 h2)
theorem LnAt.get {H : Hp} : ∀ {xs : List V} {ls : List Line} {i : Nat} {x : V}, LnAt H xs ls → xs[i]? = some x → ∃ p q fs ms, x = .ref p ∧ H p = some (.tup (.ref q :: ms.map V.int)) ∧ H q = some (.tup (fs.map V.int)) ∧ ls[i]? = some (fs, ms)
  | _, _, _, _, .nil, e => by cases e
  | _, _, 0, _, .cons a b t, e => by cases e; exact ⟨_, _, _, _, rfl, a, b, rfl⟩
  | _, _, i + 1, _, .cons a b t, e => LnAt.get (i := i) t (by simpa using e)
theorem LnAt.app {H : Hp} : ∀ {xs ys : List V} {ls ms : List Line}, LnAt H xs ls → LnAt H ys ms → LnAt H (xs ++ ys) (ls ++ ms)
  | _, _, _, _, .nil, h => h
  | _, _, _, _, .cons a b t, h => .cons a b (t.app h)
def lnR (r : Row) : Line := (r.1, [r.2])
def lnS (r : Rst) : Line := (r.1, [r.2.1, r.2.2])
theorem ln_rows {H : Hp} : ∀ {xs : List V} {rs : List Row}, RowsAt H xs rs → LnAt H xs (rs.map lnR)
  | _, _, .nil => .nil
  | _, _, .cons a b t => .cons (ms := [_]) a b (ln_rows t)
theorem ln_rests {H : Hp} : ∀ {xs : List V} {rs : List Rst}, RestsAt H xs rs → LnAt H xs (rs.map lnS)
  | _, _, .nil => .nil
  | _, _, .cons a b t => .cons (ms := [_, _]) a b (ln_rests t)
theorem rows_ln {H : Hp} : ∀ {xs : List V} {rs : List Row}, LnAt H xs (rs.map lnR) → RowsAt H xs rs
  | _, [], .nil => .nil
  | _, (_, _) :: _, .cons a b t => .cons a b (rows_ln t)
theorem rests_ln {H : Hp} : ∀ {xs : List V} {rs : List Rst}, LnAt H xs (rs.map lnS) → RestsAt H xs rs
  | _, [], .nil => .nil
  | _, (_, _, _) :: _, .cons a b t => .cons a b (rests_ln t)
def sprd (old ns : List Str) (l : Line) : Line := (ns.map (facOf l.1 old), l.2)
def spFac (K : PySem.W.Frag) : Sp := fun vs H Q _ => ∃ (a o : Addr) (fs : List Int) (old : List Str) (z : Str), vs = [.ref a, .ref o, .str z] ∧ SqT K H a (fs.map V.int) ∧ SqZ K H o (old.map V.str) ∧ fs.length = old.length ∧ old.length ≤ 100 ∧ Q (.int (facOf fs old z)) H
def spSpread (K : PySem.W.Frag) : Sp := fun vs H Q _ => ∃ (a o n : Addr) (xs : List V) (ls : List Line) (old ns : List Str), vs = [.ref a, .ref o, .ref n] ∧ SqT K H a xs ∧ LnAt H xs ls ∧ SqZ K H o (old.map V.str) ∧ SqT K H n (ns.map V.str) ∧ ns.length ≤ 100 ∧ old.length ≤ 100 ∧
  ls.length ≤ 100 ∧ (∀ l ∈ ls, l.1.length = old.length ∧ 1 ≤ l.2.length ∧ l.2.length ≤ 2) ∧ ∀ (p : Addr) (ys : List V) (H' : Hp), Same H H' → H p = none → H' p = some (.tup ys) → LnAt H' ys (ls.map (sprd old ns)) → Q (.ref p) H'
section
variable {P : Program} {w : World} {K : PySem.W.Frag} {mg : Str → Option Value} {base : Heap}
abbrev s_factor : Stmt := topS 24
theorem sc_factor : FnScope ["factors", "old", "name"] ["factors", "old", "name"] (defScope s_factor) := ⟨rfl, rfl, rfl, by decide +kernel, rfl, by decide +kernel, by decide +kernel⟩
theorem ok_factor {f : Addr} {fd : FuncData} (F : Fun K "_factor" "_factor" s_factor f fd) (gl : mg "_factor" = some (.ref f)) (T : Bl mg) : DefG P w K mg base 1 "_factor" ["factors", "old", "name"] (spFac K) := by
  refine def_mk F gl (F.binds fun _ _ _ _ _ _ us hl => match us, hl with | [_, _, _], _ => rfl) (okG F sc_factor (fun vs H Q E h => ?_) fun cdv A outer s H vs Q E hr hc h => ?_)
  · obtain ⟨a, o, fs, old, z, rfl, _⟩ := h
    rfl
  · obtain ⟨a, o, fs, old, z, rfl, hA, hO, el, l1, q⟩ := h
    refine ⟨_, (pss_one (ps_ret (pe_ifExp (pt_cmpR (op_inK (K := K)) (pv 2) (pv 1) (by with_unfolding_all rfl)) (pe_ix ix_tup (pv 0) (pe_bmZ PySem.F.slot_tuple_index PySem.F.type_tuple_index mt_tup_index (pv 1) (pa_cons (pv 2) pa_nil)) (fun _ _ => rfl)) pe_int))), ?_⟩
    refine ⟨_, rfl, _, rfl, o, _, rfl, .inr hO.t, rfl, flat_strs old, _, rfl, ?_⟩
    rw [if_neg (show ¬ false = true by decide), inV_strs]
    refine ite2 (fun e => ?_) (fun e => ?_)
    · have hz : z ∈ old := of_decide_eq_true e
      have li : old.idxOf z < old.length := List.idxOf_lt_length_of_mem hz
      obtain ⟨h1, h2⟩ := idx_facts z old hz
      have li2 : old.idxOf z < fs.length := by omega
      refine ⟨_, rfl, _, rfl, ⟨o, _, rfl, hO⟩, _, rfl, o, old, z, old.idxOf z, rfl, rfl, hO.t, h1, h2, a, _, _, _, rfl, rfl, hA, at_of rfl (map_at li2), ?_⟩
      unfold facOf at q
      rw [if_pos hz, List.getD_eq_getElem?_getD, List.getElem?_eq_getElem li2] at q
      exact q
    · have hz : z ∉ old := fun m => e (decide_eq_true m)
      unfold facOf at q
      rw [if_neg hz] at q
      exact q
abbrev s_spread : Stmt := topS 23
theorem sc_spread : FnScope ["lines", "old", "names", "name", "factors", "more"] ["lines", "old", "names"] (defScope s_spread) := ⟨rfl, rfl, rfl, by decide +kernel, rfl, by decide +kernel, by decide +kernel⟩
theorem ok_spread {f : Addr} {fd : FuncData} (F : Fun K "_spread" "_spread" s_spread f fd) (gl : mg "_spread" = some (.ref f)) (T : Bl mg) (D__factor : DefG P w K mg base 1 "_factor" ["factors", "old", "name"] (spFac K)) : DefG P w K mg base 2 "_spread" ["lines", "old", "names"] (spSpread K) := by
  refine def_mk F gl (F.binds fun _ _ _ _ _ _ us hl => match us, hl with | [_, _, _], _ => rfl) (okG F sc_spread (fun vs H Q E h => ?_) fun cdv A outer s H vs Q E hr hc h => ?_)
  · obtain ⟨a, o, n, xs, ls, old, ns, rfl, _⟩ := h
    rfl
  · obtain ⟨a, o, n, xs, ls, old, ns, rfl, hA, hL, hO, hN, l1, l2, l3, hf, q⟩ := h
    have nd := sc_spread.nd
    refine ⟨_, (pss_one (ps_ret (pe_tupleOf (by rfl) T.tuple (pe_lc (own := [("factors", 4), ("more", 5)]) (g := (gStar K 2 1 (gCons (gName 4) (gCons (gName 5) gNil)))) (tt := tYes) rfl nd (pi_tup (pv 0)) (blkOk_by (own := [("factors", 4), ("more", 5)]) (N := ["lines", "old", "names", "name", "factors", "more"]) (sc := defScope s_spread) (by decide +kernel)) (fun _ _ _ _ _ => (pg_star rfl (pgs_cons (pg_name (i := 4) nd rfl (by first | exact Or.inl rfl | exact Or.inr rfl)) (pgs_consS (pg_name (i := 5) nd rfl (by first | exact Or.inl rfl | exact Or.inr rfl)) pgs_nil)))) (fun _ _ _ _ _ => pts_nil) (fun _ _ _ _ _ => (pe_tup (pa_cons (pe_tupleOfK (K := K) (by rfl) T.tuple (pe_lc (own := [("name", 3)]) (g := (gName 3)) (tt := tYes) rfl nd (pi_tupK (K := K) (pv 2)) (blkOk_by (own := [("name", 3)]) (by with_unfolding_all rfl)) (fun _ _ _ _ _ => (pg_name (i := 3) nd rfl (by first | exact Or.inl rfl | exact Or.inr rfl))) (fun _ _ _ _ _ => pts_nil) (fun _ _ _ _ _ => (pe_def D__factor (hr.mono (by decide)) hc (by rfl) (pa_cons (pv 4) (pa_cons (pv 1) (pa_cons (pv 3) pa_nil))))))) (pa_starK (K := K) (pv 5) pa_nil)))))))), ?_⟩
    refine ⟨_, rfl, a, rfl, ⟨_, hA⟩, fun D nD => ?_⟩
    refine lc_tup (K := K) (a := a) (xs := xs) (fun i H2 => Same H H2 ∧ ∃ ys, H2 D = some (.lst ys) ∧ LnAt H2 ys ((ls.take i).map (sprd old ns))) ⟨Same.new nD, [], upd_same, .nil⟩ (fun i H2 _ h => Same.tup h.1 hA) ?_ ?_
    · rintro i y H2 hi ⟨s2, ys, hD, hY⟩
      obtain ⟨k1, k2, fs, ms, rfl, hk1, hk2, hl⟩ := (hL.to (tups_same s2)).get hi
      have hlf := hf _ (List.mem_of_getElem? hl)
      have hm2 : ms.length ≤ 2 := hlf.2.2
      have il := (List.getElem?_eq_some_iff.mp hl).1
      have lm : (V.ref k2 :: ms.map V.int).length = ms.length + 1 := by rw [List.length_cons, List.length_map]
      refine ⟨k1, _, rfl, tofT hk1, by rw [lm]; omega, by rw [lm]; omega, fun M nM => ?_⟩
      have e1 : ((V.ref k2 :: ms.map V.int).drop 1).take ((V.ref k2 :: ms.map V.int).length + 1 - 2) = ms.map V.int := by
        rw [lm]
        show (ms.map V.int).take _ = _
        exact List.take_of_length_le (by rw [List.length_map]; omega)
      have e2 : (V.ref k2 :: ms.map V.int).take 1 ++ [V.ref M] ++ ((V.ref k2 :: ms.map V.int).drop 1).drop ((V.ref k2 :: ms.map V.int).length + 1 - 2) = [V.ref k2, V.ref M] := by
        rw [lm]
        show [V.ref k2] ++ [V.ref M] ++ (ms.map V.int).drop _ = _
        rw [List.drop_eq_nil_of_le (by rw [List.length_map]; omega)]
        rfl
      rw [e1, e2]
      have nDM : D ≠ M := ne_of_none hD nM
      refine ⟨_, _, rfl, _, _, rfl, rfl, rfl, ?_⟩
      have sM : Same H2 (upd H2 M (.lst (ms.map V.int))) := Same.new nM
      have s3 : Same H (upd H2 M (.lst (ms.map V.int))) := s2.trans sM
      have hM0 : upd H2 M (.lst (ms.map V.int)) M = some (.lst (ms.map V.int)) := upd_same
      revert sM s3 hM0
      generalize upd H2 M (.lst (ms.map V.int)) = Hm
      intro sM s3 hM0
      refine ⟨_, rfl, n, rfl, ⟨_, Same.tup s3 hN⟩, fun D2 nD2 => ?_⟩
      refine lc_tup (K := K) (a := n) (xs := ns.map V.str) (fun j H3 => Same Hm H3 ∧ H3 D2 = some (.lst (((ns.take j).map (facOf fs old)).map V.int))) ⟨Same.new nD2, upd_same⟩ (fun j H3 _ h => Same.tup h.1 (Same.tup s3 hN)) ?_ ?_
      · rintro j y H3 hj ⟨s4, hD2⟩
        obtain ⟨z, ez, rfl⟩ : ∃ z, ns[j]? = some z ∧ y = .str z := by
          rw [List.getElem?_map] at hj
          cases e : ns[j]? with
          | none => rw [e] at hj; cases hj
          | some z => rw [e] at hj; exact ⟨z, rfl, (Option.some.inj hj).symm⟩
        have jl := (List.getElem?_eq_some_iff.mp ez).1
        refine ⟨rfl, _, rfl, _, rfl, _, rfl, k2, o, fs, old, z, rfl, Same.tup s4 (tofT (sM _ _ hk2)), (hO.same s3).same s4, hlf.1, l2, _, hD2, ?_, ?_, ?_⟩
        · rw [List.length_map, List.length_map, List.length_take]; exact smallt (by omega)
        · intro b u hb
          rw [upd_ne (ne_of_none hb nD2)]
          exact s4 _ _ hb
        · rw [upd_same, List.take_add_one, ez, List.map_append, List.map_append]; rfl
      · rintro H3 ⟨s4, hD2⟩
        rw [List.length_map, List.take_length] at hD2
        refine .inl ⟨D2, _, rfl, tofL hD2, fun t nt => ?_⟩
        have s5 : Same Hm (upd H3 t (.tup ((ns.map (facOf fs old)).map V.int))) := s4.trans (Same.new nt)
        have ht : upd H3 t (.tup ((ns.map (facOf fs old)).map V.int)) t = some (.tup ((ns.map (facOf fs old)).map V.int)) := upd_same
        revert s5 ht
        generalize upd H3 t (.tup ((ns.map (facOf fs old)).map V.int)) = H4
        intro s5 ht
        refine ⟨_, rfl, M, _, rfl, .inr (tofL (s5 _ _ hM0)), ?_⟩
        show (V.ref t :: (ms.map V.int ++ [])).length ≤ sizeLine ∧ _
        rw [List.append_nil]
        refine ⟨by rw [List.length_cons, List.length_map]; exact smallt (by omega), fun p np => ?_⟩
        have s6 : Same H2 (upd H4 p (.tup (.ref t :: ms.map V.int))) := sM.trans (s5.trans (Same.new np))
        have hp : upd H4 p (.tup (.ref t :: ms.map V.int)) p = some (.tup (.ref t :: ms.map V.int)) := upd_same
        have ht2 : upd H4 p (.tup (.ref t :: ms.map V.int)) t = some (.tup ((ns.map (facOf fs old)).map V.int)) := Same.new np _ _ ht
        revert s6 hp ht2
        generalize upd H4 p (.tup (.ref t :: ms.map V.int)) = H5
        intro s6 hp ht2
        have ly := hY.len
        have npD : p ≠ D := fun e => by rw [e, s6 _ _ hD] at hp; cases hp
        have ntD : t ≠ D := fun e => by rw [e, s6 _ _ hD] at ht2; cases ht2
        refine ⟨_, s6 _ _ hD, ?_, ?_, _, upd_same, ?_⟩
        · rw [ly, List.length_map, List.length_take]; exact smallt (by omega)
        · intro b u hb
          rw [upd_ne (ne_of_none hb nD)]
          exact s6 _ _ (s2 _ _ hb)
        · rw [List.take_add_one, hl, List.map_append]
          refine ((hY.to (tups_same s6)).to fun b xs hb => ?_).snoc (by rw [upd_ne npD]; exact hp) (by rw [upd_ne ntD]; exact ht2)
          rw [upd_ne (fun e => by rw [e, s6 _ _ hD] at hb; cases hb)]
          exact hb
    · rintro H2 ⟨s2, ys, hD, hY⟩
      rw [hL.len, List.take_length] at hY
      exact .inl ⟨D, _, rfl, tofL hD, fun t nt => q t ys _ (s2.trans (Same.new nt)) (s2.free nt) upd_same (hY.to (tups_same (Same.new nt)))⟩
end
end KX
namespace KX
open PySem PySem.Spec PyProof.Rows L2 GL RZ TL
theorem catZ_of {K : PySem.W.Frag} {H : Hp} {a b : Addr} {xs ys : List V} {Q : VK} (zx : SqZ K H a xs) (zy : SqZ K H b ys) (hz : xs.length + ys.length ≤ sizeLine)
    (q : ∀ (p : Addr) (H' : Hp), Same H H' → SqZ K H' p (xs ++ ys) → Q (.ref p) H') : rCatZ K (.ref a) (.ref b) H Q := by
  refine ⟨a, b, xs, ys, rfl, rfl, zx.t, zy.t, hz, fun e => ?_, fun _ e => ?_, fun _ _ => fun p o np od => q p _ (Same.new np) (.inl ⟨o, upd_same, od⟩)⟩
  · subst e
    exact q b H (fun _ _ h => h) zy
  · subst e
    exact q a H (fun _ _ h => h) (by rw [List.append_nil]; exact zx)
theorem flt_take {z : Str} {ns : List Str} {i : Nat} (p : Str → Bool) (e : ns[i]? = some z) : (ns.take (i + 1)).filter p = (ns.take i).filter p ++ (if p z then [z] else []) := by
  rw [List.take_add_one, e, List.filter_append]
  cases h : p z <;> simp [h]
/-! ### systems as they lie -/
/-- all but lists and dicts stays -/
def Kp (H H' : Hp) : Prop := ∀ b o, H b = some o → (∀ l, o ≠ .lst l) → (∀ k, o ≠ .dK k) → H' b = some o
theorem Kp.of {H H' : Hp} (s : Same H H') : Kp H H' := fun b o h _ _ => s b o h
theorem Kp.refl {H : Hp} : Kp H H := fun _ _ h _ _ => h
theorem Kp.trans {H1 H2 H3 : Hp} (a : Kp H1 H2) (b : Kp H2 H3) : Kp H1 H3 := fun p o h n1 n2 => b p o (a p o h n1 n2) n1 n2
theorem Kp.mv {H H' : Hp} {d g : Addr} (D : Deck H d g) (m : Mv d g H H') : Kp H H' := fun b o h n1 n2 => by
  obtain ⟨k, L, h1, h2, _⟩ := D.ex
  exact m.keep _ _ h (fun e => by rw [e, h1] at h; exact n2 _ (Option.some.inj h).symm) (fun e => by rw [e, h2] at h; exact n1 _ (Option.some.inj h).symm)
theorem Kp.tups {H H' : Hp} (k : Kp H H') : ∀ a xs, H a = some (.tup xs) → H' a = some (.tup xs) := fun a xs h => k a _ h (fun _ z => nomatch z) (fun _ z => nomatch z)
theorem Kp.tup {K : PySem.W.Frag} {H H' : Hp} {a : Addr} {xs : List V} (k : Kp H H') (h : SqT K H a xs) : SqT K H' a xs := by
  rcases h with (h | ⟨o, h⟩) | h
  · exact .inl (.inl (k.tups _ _ h))
  · exact .inl (.inr ⟨o, k _ _ h (fun _ z => nomatch z) (fun _ z => nomatch z)⟩)
  · exact .inr h
theorem Kp.z {K : PySem.W.Frag} {H H' : Hp} {a : Addr} {xs : List V} (k : Kp H H') (h : SqZ K H a xs) : SqZ K H' a xs := h.to fun _ e => k _ _ e (fun _ z => nomatch z) (fun _ z => nomatch z)
theorem Kp.ins {H H' : Hp} {a C dx : Addr} {fs : List (Str × V)} (k : Kp H H') (h : H a = some (.ins C dx fs)) : H' a = some (.ins C dx fs) := k _ _ h (fun _ z => nomatch z) (fun _ z => nomatch z)
structure Parts (K : PySem.W.Frag) (H : Hp) (tn tr ts : Addr) (ns : List Str) (rows rests : List Line) : Prop where
  names : SqZ K H tn (ns.map V.str)
  rows : ∃ xs, SqT K H tr xs ∧ LnAt H xs rows
  rests : ∃ xs, SqT K H ts xs ∧ LnAt H xs rests
theorem Parts.kp {K : PySem.W.Frag} {H H' : Hp} {tn tr ts : Addr} {ns : List Str} {rows rests : List Line} (p : Parts K H tn tr ts ns rows rests) (k : Kp H H') : Parts K H' tn tr ts ns rows rests :=
  ⟨k.z p.names, p.rows.imp fun xs h => ⟨k.tup h.1, h.2.to k.tups⟩, p.rests.imp fun xs h => ⟨k.tup h.1, h.2.to k.tups⟩⟩
def SysAt (K : PySem.W.Frag) (C : Addr) (H : Hp) (a : Addr) (ns : List Str) (rows rests : List Line) : Prop :=
  ∃ dx tn tr ts, H a = some (.ins C dx (flds (.ref tn) (.ref tr) (.ref ts))) ∧ Parts K H tn tr ts ns rows rests
theorem SysAt.kp {K : PySem.W.Frag} {C : Addr} {H H' : Hp} {a : Addr} {ns : List Str} {rows rests : List Line} (h : SysAt K C H a ns rows rests) (k : Kp H H') : SysAt K C H' a ns rows rests := by
  obtain ⟨dx, tn, tr, ts, h1, h2⟩ := h
  exact ⟨dx, tn, tr, ts, k.ins h1, h2.kp k⟩
/-- a new system -/
theorem made_at {K : PySem.W.Frag} {C : Addr} {H : Hp} {x dx tn tr ts : Addr} {ns : List Str} {rows rests : List Line} (p : Parts K H tn tr ts ns rows rests) (nx : H x = none) (ndx : H dx = none) (ne : dx ≠ x) :
    Same H (upd (upd (upd H dx (.own x)) x (.ins C dx [])) x (.ins C dx (flds (.ref tn) (.ref tr) (.ref ts)))) ∧ SysAt K C (upd (upd (upd H dx (.own x)) x (.ins C dx [])) x (.ins C dx (flds (.ref tn) (.ref tr) (.ref ts)))) x ns rows rests := by
  have s : Same H (upd (upd (upd H dx (.own x)) x (.ins C dx [])) x (.ins C dx (flds (.ref tn) (.ref tr) (.ref ts)))) := by
    rw [upd_upd]
    exact (Same.new ndx).trans (Same.new (by rw [upd_ne ne.symm]; exact nx))
  exact ⟨s, dx, tn, tr, ts, upd_same, p.kp (Kp.of s)⟩
/-- lines fit their names -/
def Fit (n : Nat) (ls : List Line) : Prop := ls.length ≤ 40 ∧ ∀ l ∈ ls, l.1.length = n ∧ 1 ≤ l.2.length ∧ l.2.length ≤ 2
def joinN (n1 n2 : List Str) : List Str := n1 ++ n2.filter fun z => !decide (z ∈ n1)
def joinL2 (n1 n2 : List Str) (l1 l2 : List Line) : List Line := l1.map (sprd n1 (joinN n1 n2)) ++ l2.map (sprd n2 (joinN n1 n2))
def spAnd (K : PySem.W.Frag) (C : Addr) : Sp := fun vs H Q _ => ∃ (a b : Addr) (n1 n2 : List Str) (r1 r2 s1 s2 : List Line), vs = [.ref a, .ref b] ∧ SysAt K C H a n1 r1 s1 ∧ SysAt K C H b n2 r2 s2 ∧ n1.length ≤ 20 ∧ n2.length ≤ 20 ∧ Fit n1.length r1 ∧ Fit n1.length s1 ∧ Fit n2.length r2 ∧ Fit n2.length s2 ∧
  ∀ (p : Addr) (H' : Hp), Same H H' → SysAt K C H' p (joinN n1 n2) (joinL2 n1 n2 r1 r2) (joinL2 n1 n2 s1 s2) → Q (.ref p) H'
def pick (idx : List Int) (ls : List Line) (i : Nat) : List Line := ((List.range i).filter fun (k : Nat) => !decide ((k : Int) ∈ idx)).filterMap fun (k : Nat) => ls[k]?
theorem pick_step {idx : List Int} {ls : List Line} {i : Nat} {l : Line} (e : ls[i]? = some l) : pick idx ls (i + 1) = pick idx ls i ++ (if (i : Int) ∈ idx then [] else [l]) := by
  unfold pick
  rw [List.range_succ, List.filter_append, List.filterMap_append]
  congr 1
  by_cases h : (i : Int) ∈ idx
  · simp [h]
  · simp [h, e]
theorem pick_len (idx : List Int) (ls : List Line) (i : Nat) : (pick idx ls i).length ≤ i := by
  unfold pick
  refine Nat.le_trans (List.length_filterMap_le _ _) (Nat.le_trans (List.length_filter_le _ _) ?_)
  rw [List.length_range]
  exact Nat.le_refl _
def spWithout (K : PySem.W.Frag) (C : Addr) : Sp := fun vs H Q _ => ∃ (a t : Addr) (ns : List Str) (rows rests : List Line) (idx : List Int), vs = [.ref a, .ref t] ∧ SysAt K C H a ns rows rests ∧ SqT K H t (idx.map V.int) ∧ idx.length ≤ 40 ∧ rows.length ≤ 40 ∧
  ∀ (p : Addr) (H' : Hp), Same H H' → SysAt K C H' p ns (pick idx rows rows.length) rests → Q (.ref p) H'
def called (kvs : List (Key × V)) (ns ms : List Str) : Prop := ms.length = ns.length ∧ ∀ (i : Nat) (z : Str), ns[i]? = some z → ∃ y, ms[i]? = some y ∧ (valV kvs (Sum.inr z : Key)).getD (V.str z) = V.str y
def spRenamed (K : PySem.W.Frag) (C : Addr) : Sp := fun vs H Q _ => ∃ (a t : Addr) (ns ms : List Str) (rows rests : List Line) (kvs : List (Key × V)), vs = [.ref a, .ref t] ∧ SysAt K C H a ns rows rests ∧ H t = some (.dK kvs) ∧ ns.length ≤ 40 ∧ called kvs ns ms ∧
  ∀ (p : Addr) (H' : Hp), Same H H' → SysAt K C H' p ms rows rests → Q (.ref p) H'
def eqFac (x y : Str) (z : Str) : Int := if z = x then 1 else if z = y then -1 else 0
def spEquate (K : PySem.W.Frag) (C : Addr) : Sp := fun vs H Q _ => ∃ (a : Addr) (x y : Str) (ns : List Str) (rows rests : List Line), vs = [.ref a, .str x, .str y] ∧ SysAt K C H a ns rows rests ∧ ns.length ≤ 40 ∧ rows.length ≤ 40 ∧
  ∀ (p : Addr) (H' : Hp), Same H H' → SysAt K C H' p ns (rows ++ [(ns.map (eqFac x y), [0])]) rests → Q (.ref p) H'
section
variable {P : Program} {w : World} {K : PySem.W.Frag} {mg : Str → Option Value} {base : Heap}
abbrev s_and : Stmt := inClass (topS 22) 7
theorem sc_and : FnScope ["self", "other", "names", "name", "rows", "rests"] ["self", "other"] (defScope s_and) := ⟨rfl, rfl, rfl, by decide +kernel, rfl, by decide +kernel, by decide +kernel⟩
theorem ok_and {f C fI : Addr} {fd fdI : FuncData} (F : Fun K "__and__" "System.__and__" s_and f fd) (S : Sys K mg C) (T : Bl mg) (D__spread : DefG P w K mg base 2 "_spread" ["lines", "old", "names"] (spSpread K))
    (MK : Mk K C fI) (FI : FnG P w K mg base CX0 1 fI fdI ["self", "names", "rows", "rests"] (spInit C)) (B4 : Binds K fdI ["self", "names", "rows", "rests"] []) : FnG P w K mg base CX0 3 f fd ["self", "other"] (spAnd K C) := by
  refine okG F sc_and (fun vs H Q E h => ?_) fun cdv A outer s H vs Q E hr hc h => ?_
  · obtain ⟨a, b, n1, n2, r1, r2, z1, z2, rfl, _⟩ := h
    rfl
  · obtain ⟨a, b, n1, n2, r1, r2, z1, z2, rfl, h1, h2, l1, l2, f1, g1, f2, g2, q⟩ := h
    have nd := sc_and.nd
    refine ⟨_, (pss_cons (ps_set (i := 2) nd rfl (by first | exact Or.inl rfl | exact Or.inr rfl) (pe_op op_catZ (pe_fld (pv 0) rfl) (pe_tupleZ (by rfl) T.tuple (pe_lc (own := [("name", 3)]) (g := (gName 3)) rfl nd (pi_tup (pe_fld (pv 1) rfl)) (blkOk_by (own := [("name", 3)]) (N := ["self", "other", "names", "name", "rows", "rests"]) (sc := defScope s_and) (by decide +kernel)) (fun _ _ _ _ _ => (pg_name (i := 3) nd rfl (by first | exact Or.inl rfl | exact Or.inr rfl))) (fun _ _ _ _ _ => (pts_one (pt_cmpR (op_notInK (K := K)) (pv 3) (pe_fldK (K := K) (pv 0) rfl) (by with_unfolding_all rfl)))) (fun _ _ _ _ _ => (pv 3))))))
      (pss_cons (ps_set (i := 4) nd rfl (by first | exact Or.inl rfl | exact Or.inr rfl) (pe_op op_catA (pe_def D__spread (hr.mono (by decide)) hc (by rfl) (pa_cons (pe_fld (pv 0) rfl) (pa_cons (pe_fld (pv 0) rfl) (pa_cons (pv 2) pa_nil)))) (pe_def D__spread (hr.mono (by decide)) hc (by rfl) (pa_cons (pe_fld (pv 1) rfl) (pa_cons (pe_fld (pv 1) rfl) (pa_cons (pv 2) pa_nil))))))
      (pss_cons (ps_set (i := 5) nd rfl (by first | exact Or.inl rfl | exact Or.inr rfl) (pe_op op_catA (pe_def D__spread (hr.mono (by decide)) hc (by rfl) (pa_cons (pe_fld (pv 0) rfl) (pa_cons (pe_fld (pv 0) rfl) (pa_cons (pv 2) pa_nil)))) (pe_def D__spread (hr.mono (by decide)) hc (by rfl) (pa_cons (pe_fld (pv 1) rfl) (pa_cons (pe_fld (pv 1) rfl) (pa_cons (pv 2) pa_nil))))))
      (pss_one (ps_ret (pe_makeG MK FI (hr.mono (by decide)) hc (by rfl) S.mgC B4 .nil pass0 (pa_cons (pv 2) (pa_cons (pv 4) (pa_cons (pv 5) pa_nil))))))))), ?_⟩
    obtain ⟨dxa, ta, tra, tsa, ha, pa⟩ := h1
    obtain ⟨dxb, tb, trb, tsb, hb, pb⟩ := h2
    -- names
    refine ⟨_, rfl, a, C, dxa, _, _, rfl, ha, S.cl, S.nN, f_names _ _ _, ?_⟩
    refine ⟨_, rfl, b, C, dxb, _, _, rfl, hb, S.cl, S.nN, f_names _ _ _, tb, rfl, ⟨_, pb.names.t⟩, fun D nD => ?_⟩
    refine lc_tup (K := K) (a := tb) (xs := n2.map V.str) (fun i H2 => Same H H2 ∧ H2 D = some (.lst (((n2.take i).filter fun z => !decide (z ∈ n1)).map V.str))) ⟨Same.new nD, upd_same⟩ (fun i H2 _ h => (Kp.of h.1).tup pb.names.t) ?_ ?_
    · rintro i y H2 hi ⟨s2, hD⟩
      obtain ⟨z, ez, rfl⟩ : ∃ z, n2[i]? = some z ∧ y = .str z := by
        rw [List.getElem?_map] at hi
        cases e : n2[i]? with
        | none => rw [e] at hi; cases hi
        | some z => rw [e] at hi; exact ⟨z, rfl, (Option.some.inj hi).symm⟩
      have il := (List.getElem?_eq_some_iff.mp ez).1
      have ft := flt_take (fun z => !decide (z ∈ n1)) ez
      refine ⟨rfl, _, rfl, _, rfl, a, C, dxa, _, _, rfl, s2 _ _ ha, S.cl, S.nN, f_names _ _ _, ta, _, rfl, .inr ((Kp.of s2).tup pa.names.t), rfl, flat_strs n1, _, rfl, ?_⟩
      rw [if_pos rfl, inV_strs]
      refine ite2 (fun e => ?_) (fun e => ?_)
      · refine ⟨_, rfl, _, hD, ?_, ?_, ?_⟩
        · rw [List.length_map]; exact smallt (Nat.lt_of_le_of_lt (List.length_filter_le _ _) (by rw [List.length_take]; omega))
        · intro c u hc'
          rw [upd_ne (ne_of_none hc' nD)]
          exact s2 _ _ hc'
        · rw [upd_same, ft, if_pos e, List.map_append]; rfl
      · refine ⟨s2, ?_⟩
        rw [ft, if_neg e, List.append_nil]
        exact hD
    · rintro H2 ⟨s2, hD⟩
      rw [List.length_map, List.take_length] at hD
      refine ⟨D, _, rfl, tofL hD, fun t o nt od => ?_⟩
      have s3 : Same H (upd H2 t (.frz o (.tup ((n2.filter fun z => !decide (z ∈ n1)).map V.str)))) := s2.trans (Same.new nt)
      have ht : SqZ K (upd H2 t (.frz o (.tup ((n2.filter fun z => !decide (z ∈ n1)).map V.str)))) t ((n2.filter fun z => !decide (z ∈ n1)).map V.str) := .inl ⟨o, upd_same, od⟩
      revert s3 ht
      generalize upd H2 t (.frz o (.tup ((n2.filter fun z => !decide (z ∈ n1)).map V.str))) = H3
      intro s3 ht
      have fl : (n2.filter fun z => !decide (z ∈ n1)).length ≤ n2.length := List.length_filter_le _ _
      refine catZ_of ((Kp.of s3).z pa.names) ht (by rw [List.length_map, List.length_map]; exact small (by omega)) fun tn H4 s4 hN => ?_
      rw [← List.map_append] at hN
      have jl : (joinN n1 n2).length ≤ 40 := by
        show (n1 ++ n2.filter _).length ≤ 40
        rw [List.length_append]
        omega
      have sH4 : Same H H4 := s3.trans s4
      refine ⟨_, rfl, a, C, dxa, _, _, rfl, sH4 _ _ ha, S.cl, S.nR, f_rows _ _ _, _, rfl, a, C, dxa, _, _, rfl, sH4 _ _ ha, S.cl, S.nN, f_names _ _ _, _, rfl, ?_⟩
      obtain ⟨x1r, h1r, e1r⟩ := pa.rows
      obtain ⟨x2r, h2r, e2r⟩ := pb.rows
      refine ⟨_, ta, tn, x1r, r1, n1, joinN n1 n2, rfl, (Kp.of sH4).tup h1r, e1r.to (Kp.of sH4).tups, (Kp.of sH4).z pa.names, hN.t, by omega, by omega, by have := f1.1; omega, f1.2, fun p1r y1r H1r s1r _ k1r g1r => ?_⟩
      have t1r : Same H H1r := sH4.trans s1r
      refine ⟨_, rfl, b, C, dxb, _, _, rfl, t1r _ _ hb, S.cl, S.nR, f_rows _ _ _, _, rfl, b, C, dxb, _, _, rfl, t1r _ _ hb, S.cl, S.nN, f_names _ _ _, _, rfl, ?_⟩
      refine ⟨_, tb, tn, x2r, r2, n2, joinN n1 n2, rfl, (Kp.of t1r).tup h2r, e2r.to (Kp.of t1r).tups, (Kp.of t1r).z pb.names, ((Kp.of s1r).z hN).t, by omega, by omega, by have := f2.1; omega, f2.2, fun p2r y2r H2r s2r _ k2r g2r => ?_⟩
      refine catA_of (tofT (s2r _ _ k1r)) (tofT k2r) (by rw [g1r.len, g2r.len, List.length_map, List.length_map]; have := f1.1; have := f2.1; omega) fun trr H3r s3r qr => ?_
      have wr : LnAt H3r (y1r ++ y2r) (joinL2 n1 n2 r1 r2) := ((g1r.to (Kp.of s2r).tups).app g2r).to (Kp.of s3r).tups
      have ur : Same H4 H3r := s1r.trans (s2r.trans s3r)
      have sr : Same H H3r := sH4.trans ur
      have hNr : SqZ K H3r tn ((joinN n1 n2).map V.str) := (Kp.of ur).z hN
      refine ⟨_, rfl, a, C, dxa, _, _, rfl, sr _ _ ha, S.cl, S.nS, f_rests _ _ _, _, rfl, a, C, dxa, _, _, rfl, sr _ _ ha, S.cl, S.nN, f_names _ _ _, _, rfl, ?_⟩
      obtain ⟨x1s, h1s, e1s⟩ := pa.rests
      obtain ⟨x2s, h2s, e2s⟩ := pb.rests
      refine ⟨_, ta, tn, x1s, z1, n1, joinN n1 n2, rfl, (Kp.of sr).tup h1s, e1s.to (Kp.of sr).tups, (Kp.of sr).z pa.names, hNr.t, by omega, by omega, by have := g1.1; omega, g1.2, fun p1s y1s H1s s1s _ k1s g1s => ?_⟩
      have t1s : Same H H1s := sr.trans s1s
      refine ⟨_, rfl, b, C, dxb, _, _, rfl, t1s _ _ hb, S.cl, S.nS, f_rests _ _ _, _, rfl, b, C, dxb, _, _, rfl, t1s _ _ hb, S.cl, S.nN, f_names _ _ _, _, rfl, ?_⟩
      refine ⟨_, tb, tn, x2s, z2, n2, joinN n1 n2, rfl, (Kp.of t1s).tup h2s, e2s.to (Kp.of t1s).tups, (Kp.of t1s).z pb.names, ((Kp.of s1s).z hNr).t, by omega, by omega, by have := g2.1; omega, g2.2, fun p2s y2s H2s s2s _ k2s g2s => ?_⟩
      refine catA_of (tofT (s2s _ _ k1s)) (tofT k2s) (by rw [g1s.len, g2s.len, List.length_map, List.length_map]; have := g1.1; have := g2.1; omega) fun trs H3s s3s qs => ?_
      have ws : LnAt H3s (y1s ++ y2s) (joinL2 n1 n2 z1 z2) := ((g1s.to (Kp.of s2s).tups).app g2s).to (Kp.of s3s).tups
      have us : Same H3r H3s := s1s.trans (s2s.trans s3s)
      have ss : Same H H3s := sr.trans us
      have pz : Parts K H3s tn trr trs (joinN n1 n2) (joinL2 n1 n2 r1 r2) (joinL2 n1 n2 z1 z2) := ⟨(Kp.of us).z hNr, ⟨_, (Kp.of us).tup qr, wr.to (Kp.of us).tups⟩, ⟨_, qs, ws⟩⟩
      refine ⟨_, rfl, _, rfl, _, rfl, fun x dx nx ndx ne => ⟨x, dx, _, _, _, rfl, upd_same, rfl, ?_⟩⟩
      obtain ⟨sz, hz⟩ := made_at (C := C) pz nx ndx ne
      exact q x _ (ss.trans sz) hz
end
end KX
namespace KX
open PySem PySem.Spec PyProof.Rows L2 GL RZ TL
theorem inV_ints (z : Int) (ns : List Int) : inV (.int z) (ns.map V.int) = decide (z ∈ ns) := by
  unfold inV
  rw [List.any_map]
  by_cases h : z ∈ ns
  · rw [decide_eq_true h]
    exact List.any_eq_true.mpr ⟨z, h, by show (z == z) = true; exact beq_self_eq_true z⟩
  · rw [decide_eq_false h]
    refine List.any_eq_false.mpr fun y hy => ?_
    show ¬ (y == z) = true
    rw [beq_iff_eq]
    exact fun e => h (e ▸ hy)
theorem flat_ints (ys : List Int) : (ys.map V.int).all flatV = true := by
  rw [List.all_map]
  exact List.all_eq_true.mpr fun _ _ => rfl
theorem str_at {ns : List Str} {i : Nat} {x : V} (hi : (ns.map V.str)[i]? = some x) : ∃ z, ns[i]? = some z ∧ x = .str z := by
  rw [List.getElem?_map] at hi
  cases e : ns[i]? with
  | none => rw [e] at hi; cases hi
  | some z => rw [e] at hi; exact ⟨z, rfl, (Option.some.inj hi).symm⟩
section
variable {P : Program} {w : World} {K : PySem.W.Frag} {mg : Str → Option Value} {base : Heap}
abbrev s_without : Stmt := inClass (topS 22) 8
theorem sc_without : FnScope ["self", "indexes", "rows", "k", "row"] ["self", "indexes"] (defScope s_without) := ⟨rfl, rfl, rfl, by decide +kernel, rfl, by decide +kernel, by decide +kernel⟩
theorem walk_without {f C fI : Addr} {fdI : FuncData} (S : Sys K mg C) (T : Bl mg) (MK : Mk K C fI) (FI : FnG P w K mg base CX0 1 fI fdI ["self", "names", "rows", "rests"] (spInit C)) (B4 : Binds K fdI ["self", "names", "rows", "rests"] [])
    (cdv : Value) (A : Around) (outer : List Env) (s : Shared) (H : Hp) (vs : List V) (Q : VK) (E : XK) (hr : Room 2 (A.deeper (envOfC "System.without" (defScope s_without) s.heap.objs.size f cdv))) (hc : Calm (A.deeper (envOfC "System.without" (defScope s_without) s.heap.objs.size f cdv))) (h : spWithout K C vs H Q E) :
    ∃ t, PSs (cxOf CX0 P w K mg base ["self", "indexes", "rows", "k", "row"] "System.without" (defScope s_without) f cdv A outer s H E).nox (defBody s_without) t ∧ t { nx := fun _ H' => Q .non H', rt := Q } (start ["self", "indexes", "rows", "k", "row"] vs) H := by
  obtain ⟨a, t, ns, rows, rests, idx, rfl, h1, hT, l1, l2, q⟩ := h
  have nd := sc_without.nd
  refine ⟨_, (pss_cons (ps_set (i := 2) nd rfl (by first | exact Or.inl rfl | exact Or.inr rfl) (pe_tupleOf (by rfl) T.tuple (pe_lc (own := [("k", 3), ("row", 4)]) (g := (gTup K 2 (gCons (gName 3) (gCons (gName 4) gNil)))) rfl nd (pi_enumT (by rfl) T.enumerate (pa_cons (pe_fld (pv 0) rfl) pa_nil)) (blkOk_by (own := [("k", 3), ("row", 4)]) (N := ["self", "indexes", "rows", "k", "row"]) (sc := defScope s_without) (by decide +kernel)) (fun _ _ _ _ _ => (pg_tup rfl (pgs_cons (pg_name (i := 3) nd rfl (by first | exact Or.inl rfl | exact Or.inr rfl)) (pgs_cons (pg_name (i := 4) nd rfl (by first | exact Or.inl rfl | exact Or.inr rfl)) pgs_nil)))) (fun _ _ _ _ _ => (pts_one (pt_cmpR (op_notInK (K := K)) (pv 3) (pv 1) (by with_unfolding_all rfl)))) (fun _ _ _ _ _ => (pv 4)))))
      (pss_one (ps_ret (pe_makeG MK FI (hr.mono (by decide)) hc (by rfl) S.mgC B4 .nil pass0 (pa_cons (pe_fld (pv 0) rfl) (pa_cons (pv 2) (pa_cons (pe_fld (pv 0) rfl) pa_nil))))))), ?_⟩
  obtain ⟨dxa, ta, tra, tsa, ha, pa⟩ := h1
  obtain ⟨xs, hA, hL⟩ := pa.rows
  refine ⟨_, rfl, a, C, dxa, _, _, rfl, ha, S.cl, S.nR, f_rows _ _ _, tra, _, rfl, hA, fun D nD => ?_⟩
  refine lc_it (walk_enumT (K := K) (a := tra) (xs := xs)) (fun i H2 => Same H H2 ∧ ∃ ys, H2 D = some (.lst ys) ∧ LnAt H2 ys (pick idx rows i)) ⟨Same.new nD, [], upd_same, .nil⟩ (fun i H2 _ h => (Kp.of h.1).tup hA) ?_ ?_
  · rintro i x H2 H3 hi ⟨s2, ys, hD, hY⟩ ⟨t2, u, v, rfl, nt, rfl, f1, f2⟩
    have e1 : u = .int (i : Nat) := (Option.some.inj f1).symm
    subst e1
    obtain ⟨p, q', fs, ms, rfl, hp, hq', hl⟩ := (hL.to (Kp.of s2).tups).get f2
    have il := (List.getElem?_eq_some_iff.mp hl).1
    have nDt : D ≠ t2 := ne_of_none hD nt
    have ps := pick_step (idx := idx) hl
    have pl := pick_len idx rows i
    have sn := Same.new (o := .tup [V.int (i : Nat), .ref p]) nt
    refine ⟨t2, _, rfl, tofT upd_same, rfl, _, _, rfl, _, _, rfl, rfl, rfl, ?_⟩
    refine ⟨_, rfl, _, rfl, t, _, rfl, .inr ((Kp.of (s2.trans sn)).tup hT), rfl, flat_ints idx, _, rfl, ?_⟩
    rw [if_pos rfl, inV_ints]
    refine ite2 (fun e => ?_) (fun e => ?_)
    · have e' : ¬ (i : Int) ∈ idx := by simpa using e
      rw [if_neg e'] at ps
      refine ⟨_, rfl, _, sn _ _ hD, ?_, ?_, _, upd_same, ?_⟩
      · rw [hY.len]; exact smallt (by omega)
      · intro c u hc'
        rw [upd_ne (ne_of_none hc' nD)]
        exact sn _ _ (s2 _ _ hc')
      · rw [ps]
        have kt : ∀ b zs, H2 b = some (.tup zs) → upd (upd H2 t2 (.tup [V.int (i : Nat), .ref p])) D (.lst (ys ++ [.ref p])) b = some (.tup zs) := fun b zs hb => by
          rw [upd_ne (fun e => by rw [e, hD] at hb; cases hb)]
          exact sn _ _ hb
        exact (hY.to kt).snoc (kt _ _ hp) (kt _ _ hq')
    · have e' : (i : Int) ∈ idx := by simpa using e
      rw [if_pos e', List.append_nil] at ps
      exact ⟨s2.trans sn, ys, sn _ _ hD, by rw [ps]; exact hY.to (Kp.of sn).tups⟩
  · rintro H2 ⟨s2, ys, hD, hY⟩
    rw [hL.len] at hY
    refine .inl ⟨D, _, rfl, tofL hD, fun t2 nt => ?_⟩
    have s3 : Same H (upd H2 t2 (.tup ys)) := s2.trans (Same.new nt)
    have ht : upd H2 t2 (.tup ys) t2 = some (.tup ys) := upd_same
    have hY3 : LnAt (upd H2 t2 (.tup ys)) ys (pick idx rows rows.length) := hY.to (Kp.of (Same.new nt)).tups
    revert s3 ht hY3
    generalize upd H2 t2 (.tup ys) = H3
    intro s3 ht hY3
    have pz : Parts K H3 ta t2 tsa ns (pick idx rows rows.length) rests := ⟨(pa.kp (Kp.of s3)).names, ⟨ys, tofT ht, hY3⟩, (pa.kp (Kp.of s3)).rests⟩
    refine ⟨_, rfl, a, C, dxa, _, _, rfl, s3 _ _ ha, S.cl, S.nN, f_names _ _ _, _, rfl, _, rfl, a, C, dxa, _, _, rfl, s3 _ _ ha, S.cl, S.nS, f_rests _ _ _, fun x dx nx ndx ne => ⟨x, dx, _, _, _, rfl, upd_same, rfl, ?_⟩⟩
    obtain ⟨sz, hz⟩ := made_at (C := C) pz nx ndx ne
    exact q x _ (s3.trans sz) hz
abbrev s_renamed : Stmt := inClass (topS 22) 9
theorem sc_renamed : FnScope ["self", "names", "name"] ["self", "names"] (defScope s_renamed) := ⟨rfl, rfl, rfl, by decide +kernel, rfl, by decide +kernel, by decide +kernel⟩
theorem walk_renamed {f C fI : Addr} {fdI : FuncData} (S : Sys K mg C) (T : Bl mg) (MK : Mk K C fI) (FI : FnG P w K mg base CX0 1 fI fdI ["self", "names", "rows", "rests"] (spInit C)) (B4 : Binds K fdI ["self", "names", "rows", "rests"] [])
    (cdv : Value) (A : Around) (outer : List Env) (s : Shared) (H : Hp) (vs : List V) (Q : VK) (E : XK) (hr : Room 2 (A.deeper (envOfC "System.renamed" (defScope s_renamed) s.heap.objs.size f cdv))) (hc : Calm (A.deeper (envOfC "System.renamed" (defScope s_renamed) s.heap.objs.size f cdv))) (h : spRenamed K C vs H Q E) :
    ∃ t, PSs (cxOf CX0 P w K mg base ["self", "names", "name"] "System.renamed" (defScope s_renamed) f cdv A outer s H E).nox (defBody s_renamed) t ∧ t { nx := fun _ H' => Q .non H', rt := Q } (start ["self", "names", "name"] vs) H := by
  obtain ⟨a, t, ns, ms, rows, rests, kvs, rfl, h1, hT, l1, ⟨lm, cl⟩, q⟩ := h
  have nd := sc_renamed.nd
  have hu := hu_of hr
  refine ⟨_, (pss_one (ps_ret (pe_makeG MK FI (hr.mono (by decide)) hc (by rfl) S.mgC B4 .nil pass0 (pa_cons (pe_tupleZ (by rfl) T.tuple (pe_lc (own := [("name", 2)]) (g := (gName 2)) (tt := tYes) rfl nd (pi_tup (pe_fld (pv 0) rfl)) (blkOk_by (own := [("name", 2)]) (N := ["self", "names", "name"]) (sc := defScope s_renamed) (by decide +kernel)) (fun _ _ _ _ _ => (pg_name (i := 2) nd rfl (by first | exact Or.inl rfl | exact Or.inr rfl))) (fun _ _ _ _ _ => pts_nil) (fun _ _ _ _ _ => (pe_dget2 hu (pv 1) (pv 2) (pv 2) ⟨by rfl, by rfl, by rfl, by rfl⟩)))) (pa_cons (pe_fld (pv 0) rfl) (pa_cons (pe_fld (pv 0) rfl) pa_nil)))))), ?_⟩
  obtain ⟨dxa, ta, tra, tsa, ha, pa⟩ := h1
  refine ⟨_, rfl, a, C, dxa, _, _, rfl, ha, S.cl, S.nN, f_names _ _ _, ta, rfl, ⟨_, pa.names.t⟩, fun D nD => ?_⟩
  refine lc_tup (K := K) (a := ta) (xs := ns.map V.str) (fun i H2 => Same H H2 ∧ H2 D = some (.lst ((ms.take i).map V.str))) ⟨Same.new nD, upd_same⟩ (fun i H2 _ h => (Kp.of h.1).tup pa.names.t) ?_ ?_
  · rintro i y H2 hi ⟨s2, hD⟩
    obtain ⟨z, ez, rfl⟩ := str_at hi
    obtain ⟨y, ey, ey2⟩ := cl i z ez
    have il := (List.getElem?_eq_some_iff.mp ez).1
    refine ⟨rfl, _, rfl, t, rfl, .inl ⟨_, .inl (s2 _ _ hT)⟩, _, rfl, _, rfl, _, DGet.k (k := Sum.inr z) (s2 _ _ hT), ?_⟩
    rw [ey2]
    refine ⟨_, hD, ?_, ?_, ?_⟩
    · rw [List.length_map, List.length_take]; exact smallt (by omega)
    · intro c u hc'
      rw [upd_ne (ne_of_none hc' nD)]
      exact s2 _ _ hc'
    · rw [upd_same, List.take_add_one, ey, List.map_append]; rfl
  · rintro H2 ⟨s2, hD⟩
    rw [List.length_map, ← lm, List.take_length] at hD
    refine ⟨D, _, rfl, tofL hD, fun t2 o nt od => ?_⟩
    have s3 : Same H (upd H2 t2 (.frz o (.tup (ms.map V.str)))) := s2.trans (Same.new nt)
    have ht : SqZ K (upd H2 t2 (.frz o (.tup (ms.map V.str)))) t2 (ms.map V.str) := .inl ⟨o, upd_same, od⟩
    revert s3 ht
    generalize upd H2 t2 (.frz o (.tup (ms.map V.str))) = H3
    intro s3 ht
    have pz : Parts K H3 t2 tra tsa ms rows rests := ⟨ht, (pa.kp (Kp.of s3)).rows, (pa.kp (Kp.of s3)).rests⟩
    refine ⟨_, rfl, a, C, dxa, _, _, rfl, s3 _ _ ha, S.cl, S.nR, f_rows _ _ _, _, rfl, a, C, dxa, _, _, rfl, s3 _ _ ha, S.cl, S.nS, f_rests _ _ _, fun x dx nx ndx ne => ⟨x, dx, _, _, _, rfl, upd_same, rfl, ?_⟩⟩
    obtain ⟨sz, hz⟩ := made_at (C := C) pz nx ndx ne
    exact q x _ (s3.trans sz) hz
abbrev s_equate : Stmt := inClass (topS 22) 10
theorem sc_equate : FnScope ["self", "one", "other", "factors", "name"] ["self", "one", "other"] (defScope s_equate) := ⟨rfl, rfl, rfl, by decide +kernel, rfl, by decide +kernel, by decide +kernel⟩
theorem ok_equate {f C fI : Addr} {fd fdI : FuncData} (F : Fun K "equate" "System.equate" s_equate f fd) (S : Sys K mg C) (T : Bl mg) (MK : Mk K C fI) (FI : FnG P w K mg base CX0 1 fI fdI ["self", "names", "rows", "rests"] (spInit C)) (B4 : Binds K fdI ["self", "names", "rows", "rests"] []) :
    FnG P w K mg base CX0 3 f fd ["self", "one", "other"] (spEquate K C) := by
  refine okG F sc_equate (fun vs H Q E h => ?_) fun cdv A outer s H vs Q E hr hc h => ?_
  · obtain ⟨a, x, y, ns, rows, rests, rfl, _⟩ := h
    rfl
  · obtain ⟨a, x, y, ns, rows, rests, rfl, h1, l1, l2, q⟩ := h
    have nd := sc_equate.nd
    refine ⟨_, (pss_cons (ps_set (i := 3) nd rfl (by first | exact Or.inl rfl | exact Or.inr rfl) (pe_tupleOf (by rfl) T.tuple (pe_lc (own := [("name", 4)]) (g := (gName 4)) (tt := tYes) rfl nd (pi_tup (pe_fld (pv 0) rfl)) (blkOk_by (own := [("name", 4)]) (N := ["self", "one", "other", "factors", "name"]) (sc := defScope s_equate) (by decide +kernel)) (fun _ _ _ _ _ => (pg_name (i := 4) nd rfl (by first | exact Or.inl rfl | exact Or.inr rfl))) (fun _ _ _ _ _ => pts_nil) (fun _ _ _ _ _ => (pe_ifExp (pt_cmpR op_eq (pv 4) (pv 1) (nomark _)) pe_int (pe_ifExp (pt_cmpR op_eq (pv 4) (pv 2) (nomark _)) (pe_un un_neg pe_int) pe_int))))))
      (pss_one (ps_ret (pe_makeG MK FI (hr.mono (by decide)) hc (by rfl) S.mgC B4 .nil pass0 (pa_cons (pe_fld (pv 0) rfl) (pa_cons (pe_op op_catA (pe_fld (pv 0) rfl) (pe_tup (pa_cons (pe_tup (pa_cons (pv 3) (pa_cons pe_int pa_nil))) pa_nil))) (pa_cons (pe_fld (pv 0) rfl) pa_nil))))))), ?_⟩
    obtain ⟨dxa, ta, tra, tsa, ha, pa⟩ := h1
    refine ⟨_, rfl, a, C, dxa, _, _, rfl, ha, S.cl, S.nN, f_names _ _ _, ta, rfl, ⟨_, pa.names.t⟩, fun D nD => ?_⟩
    refine lc_tup (K := K) (a := ta) (xs := ns.map V.str) (fun i H2 => Same H H2 ∧ H2 D = some (.lst (((ns.take i).map (eqFac x y)).map V.int))) ⟨Same.new nD, upd_same⟩ (fun i H2 _ h => (Kp.of h.1).tup pa.names.t) ?_ ?_
    · rintro i v H2 hi ⟨s2, hD⟩
      obtain ⟨z, ez, rfl⟩ := str_at hi
      have il := (List.getElem?_eq_some_iff.mp ez).1
      have fin : ∀ k : Int, k = eqFac x y z → ∃ acc, H2 D = some (.lst acc) ∧ acc.length < sizeLine ∧ Same H (upd H2 D (.lst (acc ++ [V.int k]))) ∧ upd H2 D (.lst (acc ++ [V.int k])) D = some (.lst (((ns.take (i + 1)).map (eqFac x y)).map V.int)) := by
        rintro k rfl
        refine ⟨_, hD, ?_, ?_, ?_⟩
        · rw [List.length_map, List.length_map, List.length_take]; exact smallt (by omega)
        · intro c u hc'
          rw [upd_ne (ne_of_none hc' nD)]
          exact s2 _ _ hc'
        · rw [upd_same, List.take_add_one, ez, List.map_append, List.map_append]; rfl
      refine ⟨rfl, _, rfl, _, rfl, rfl, _, rfl, ite2 (fun e => fin 1 ?_) (fun e => ⟨_, rfl, _, rfl, rfl, _, rfl, ite2 (fun e2 => ⟨1, rfl, fin (-1) ?_⟩) (fun e2 => fin 0 ?_)⟩)⟩
      · have e' : z = x := V.str.inj (of_decide_eq_true e)
        unfold eqFac
        rw [if_pos e']
      · have e' : ¬ z = x := fun w => e (decide_eq_true (by rw [w]))
        have e2' : z = y := V.str.inj (of_decide_eq_true e2)
        unfold eqFac
        rw [if_neg e', if_pos e2']
      · have e' : ¬ z = x := fun w => e (decide_eq_true (by rw [w]))
        have e2' : ¬ z = y := fun w => e2 (decide_eq_true (by rw [w]))
        unfold eqFac
        rw [if_neg e', if_neg e2']
    · rintro H2 ⟨s2, hD⟩
      rw [List.length_map, List.take_length] at hD
      refine .inl ⟨D, _, rfl, tofL hD, fun t2 nt => ?_⟩
      have s3 : Same H (upd H2 t2 (.tup ((ns.map (eqFac x y)).map V.int))) := s2.trans (Same.new nt)
      have ht : upd H2 t2 (.tup ((ns.map (eqFac x y)).map V.int)) t2 = some (.tup ((ns.map (eqFac x y)).map V.int)) := upd_same
      revert s3 ht
      generalize upd H2 t2 (.tup ((ns.map (eqFac x y)).map V.int)) = H3
      intro s3 ht
      obtain ⟨xs, hA, hL⟩ := pa.rows
      refine ⟨_, rfl, a, C, dxa, _, _, rfl, s3 _ _ ha, S.cl, S.nN, f_names _ _ _, _, rfl, a, C, dxa, _, _, rfl, s3 _ _ ha, S.cl, S.nR, f_rows _ _ _, _, rfl, (show 2 ≤ sizeLine from small (by decide)), fun p1 n1 => ⟨(show 1 ≤ sizeLine from small (by decide)), fun p2 n2 => ?_⟩⟩
      have s4 : Same H3 (upd (upd H3 p1 (.tup [.ref t2, .int 0])) p2 (.tup [.ref p1])) := (Same.new n1).trans (Same.new n2)
      have h1' : upd (upd H3 p1 (.tup [.ref t2, .int 0])) p2 (.tup [.ref p1]) p1 = some (.tup [.ref t2, .int 0]) := Same.new n2 _ _ upd_same
      have h2' : upd (upd H3 p1 (.tup [.ref t2, .int 0])) p2 (.tup [.ref p1]) p2 = some (.tup [.ref p1]) := upd_same
      revert s4 h1' h2'
      generalize upd (upd H3 p1 (.tup [.ref t2, .int 0])) p2 (.tup [.ref p1]) = H4
      intro s4 h1' h2'
      have s34 : Same H H4 := s3.trans s4
      have ll := hL.len
      refine catA_of ((Kp.of s34).tup hA) (tofT h2') (by rw [ll, List.length_singleton]; omega) fun tr H5 s5 qr => ?_
      have s35 : Same H H5 := s34.trans s5
      have hL5 : LnAt H5 (xs ++ [.ref p1]) (rows ++ [(ns.map (eqFac x y), [0])]) := (hL.to (Kp.of s35).tups).snoc (ms := [0]) (s5 _ _ h1') (s5 _ _ (s4 _ _ ht))
      have pz : Parts K H5 ta tr tsa ns (rows ++ [(ns.map (eqFac x y), [0])]) rests := ⟨(pa.kp (Kp.of s35)).names, ⟨_, qr, hL5⟩, (pa.kp (Kp.of s35)).rests⟩
      refine ⟨_, rfl, a, C, dxa, _, _, rfl, s35 _ _ ha, S.cl, S.nS, f_rests _ _ _, fun x' dx nx ndx ne => ⟨x', dx, _, _, _, rfl, upd_same, rfl, ?_⟩⟩
      obtain ⟨sz, hz⟩ := made_at (C := C) pz nx ndx ne
      exact q x' _ (s35.trans sz) hz
end
end KX
namespace KX
open PySem PySem.Spec PyProof.Rows L2 GL RZ TL
def spMade (K : PySem.W.Frag) (C : Addr) : Sp := fun vs H Q _ => ∃ (d g tn : Addr) (ns : List Str) (tall more : Int), vs = [.ref d, .ref tn, .int tall, .int more] ∧ Deck H d g ∧ SqZ K H tn (ns.map V.str) ∧ 1 ≤ ns.length ∧ ns.length ≤ 6 ∧ 0 ≤ tall ∧ tall ≤ 4 ∧ 0 ≤ more ∧ more ≤ 2 ∧
  ∀ (p : Addr) (H' : Hp) (rows : List Row) (rests : List Rst), Deck H' d g → Mv d g H H' → SysAt K C H' p ns (rows.map lnR) (rests.map lnS) → (rows.length : Int) ≤ tall → (rests.length : Int) ≤ more → FineR ns.length rows → FineS ns.length rests → Q (.ref p) H'
section
variable {P : Program} {w : World} {K : PySem.W.Frag} {mg : Str → Option Value} {base : Heap}
abbrev s_made : Stmt := topS 33
theorem sc_made : FnScope ["_law_deck_here", "_law_called_here", "_law_tall", "_law_more", "_law_many", "_law_lines", "_law_pieces", "_law_k"] ["_law_deck_here", "_law_called_here", "_law_tall", "_law_more"] (defScope s_made) := ⟨rfl, rfl, rfl, by decide +kernel, rfl, by decide +kernel, by decide +kernel⟩
theorem ok_made {f C fI : Addr} {fd fdI : FuncData} (F : Fun K "_law_made" "_law_made" s_made f fd) (gl : mg "_law_made" = some (.ref f)) (T : Bl mg) (S : Sys K mg C) (D_draw : DefG P w K mg base 1 "_law_draw" ["_law_deck_here", "_law_many"] spDraw)
    (D_factors : DefG P w K mg base 3 "_law_factors" ["_law_deck_here", "_law_many"] spFactors)
    (MK : Mk K C fI) (FI : FnG P w K mg base CX0 1 fI fdI ["self", "names", "rows", "rests"] (spInit C)) (B4 : Binds K fdI ["self", "names", "rows", "rests"] []) :
    DefG P w K mg base 4 "_law_made" ["_law_deck_here", "_law_called_here", "_law_tall", "_law_more"] (spMade K C) := by
  refine def_mk F gl (F.binds fun _ _ _ _ _ _ us hl => match us, hl with | [_, _, _, _], _ => rfl) (okG F sc_made (fun vs H Q E h => ?_) fun cdv A outer s H vs Q E hr hc h => ?_)
  · obtain ⟨d, g, tn, ns, tall, more, rfl, _⟩ := h
    rfl
  · obtain ⟨d, g, tn, ns, tall, more, rfl, D, hN, n1, n6, t0, t4, m0, m2, q⟩ := h
    have nd := sc_made.nd
    refine ⟨_, (pss_cons (ps_par3 (i := 4) (j := 5) (l := 6) rfl nd rfl rfl rfl (by decide) (by decide) (by decide) rfl rfl rfl (pa_cons (pe_callB call_len_seq (by rfl) T.len boot_len (pa_cons (pv 1) pa_nil)) (pa_cons (pe_lst pa_nil) (pa_cons (pe_lst pa_nil) pa_nil))) rfl)
      (pss_cons (ps_for PassesOwn.never rfl (pi_range1 (by rfl) T.range (pa_cons (pe_def D_draw (hr.mono (by decide)) hc (by rfl) (pa_cons (pv 0) (pa_cons (pe_op op_add (pv 2) pe_int) pa_nil))) pa_nil)) (pg_name (i := 7) nd rfl (by first | exact Or.inl rfl | exact Or.inr rfl))
        (pss_one (ps_expr (pe_bm PySem.F.plainAttrs_list PySem.F.slot_list_append PySem.F.type_list_append mt_append (pv 5) (pa_cons (pe_tup (pa_cons (pe_def D_factors (hr.mono (by decide)) hc (by rfl) (pa_cons (pv 0) (pa_cons (pv 4) pa_nil))) (pa_cons (pe_op op_sub (pe_def D_draw (hr.mono (by decide)) hc (by rfl) (pa_cons (pv 0) (pa_cons pe_int pa_nil))) pe_int) pa_nil))) pa_nil)))))
      (pss_cons (ps_for PassesOwn.never rfl (pi_range1 (by rfl) T.range (pa_cons (pe_def D_draw (hr.mono (by decide)) hc (by rfl) (pa_cons (pv 0) (pa_cons (pe_op op_add (pv 3) pe_int) pa_nil))) pa_nil)) (pg_name (i := 7) nd rfl (by first | exact Or.inl rfl | exact Or.inr rfl))
        (pss_one (ps_expr (pe_bm PySem.F.plainAttrs_list PySem.F.slot_list_append PySem.F.type_list_append mt_append (pv 6) (pa_cons (pe_tup (pa_cons (pe_def D_factors (hr.mono (by decide)) hc (by rfl) (pa_cons (pv 0) (pa_cons (pv 4) pa_nil))) (pa_cons (pe_op op_sub (pe_def D_draw (hr.mono (by decide)) hc (by rfl) (pa_cons (pv 0) (pa_cons pe_int pa_nil))) pe_int) (pa_cons (pe_op op_add pe_int (pe_def D_draw (hr.mono (by decide)) hc (by rfl) (pa_cons (pv 0) (pa_cons pe_int pa_nil)))) pa_nil)))) pa_nil)))))
      (pss_one (ps_ret (pe_makeG MK FI (hr.mono (by decide)) hc (by rfl) S.mgC B4 .nil pass0 (pa_cons (pv 1) (pa_cons (pe_tupleOf (by rfl) T.tuple (pv 5)) (pa_cons (pe_tupleOf (by rfl) T.tuple (pv 6)) pa_nil))))))))), ?_⟩
    refine ⟨_, rfl, tn, _, rfl, .inr hN.t, Nat.zero_le _, fun pl npl => ⟨Nat.zero_le _, fun pp npp => ⟨_, _, _, rfl, ?_⟩⟩⟩
    rw [List.length_map]
    have offl := D.off npl
    have offp := (D.new npl).off npp
    have nlp : pl ≠ pp := ne_of_none upd_same npp
    have npp0 : H pp = none := (Same.new npl).free npp
    refine ⟨_, rfl, _, rfl, tall, 1, rfl, rfl, d, g, _, rfl, (D.new npl).new npp, by omega, by omega, fun r5 H5 r50 r51 D5 M5 => ⟨r5, rfl, by omega, by omega, ?_⟩⟩
    have M05 : Mv d g H H5 := (Mv.of ((Same.new npl).trans (Same.new npp))).trans M5
    refine for_range (fun i σ Hx => Deck Hx d g ∧ Mv d g H Hx ∧ ∃ (xs : List V) (rows : List Row) (v7 : Option V), σ = [some (.ref d), some (.ref tn), some (.int tall), some (.int more), some (.int (ns.length : Nat)), some (.ref pl), some (.ref pp), v7] ∧
        Hx pl = some (.lst xs) ∧ RowsAt Hx xs rows ∧ rows.length = i ∧ FineR ns.length rows ∧ Hx pp = some (.lst []))
      ⟨D5, M05, [], [], none, rfl, M5.at (by rw [upd_ne nlp]; exact upd_same) offl, .nil, rfl, (fun z hz => nomatch hz), M5.at upd_same offp⟩ ?_ ?_
    · rintro i σ Hx hi ⟨Dx, Mx, xs, rows, v7, rfl, hl, hr, hrl, hf, hp⟩
      refine ⟨_, rfl, ty_l (tofL hl), _, rfl, _, rfl, d, g, _, rfl, Dx, by omega, by omega, fun pf fs Hy Dy My hpf hfl hff => ?_⟩
      have fine : Fine ns.length fs := ⟨by omega, hff⟩
      refine ⟨_, rfl, d, g, 81, rfl, Dy, by decide, by decide, fun c Hz c0 c1 Dz Mz => ⟨c, 40, rfl, rfl, (show 2 ≤ sizeLine from small (by decide)), fun t nt => ?_⟩⟩
      have Mxz := My.trans Mz
      have hlz : Hz pl = some (.lst xs) := Mz.at (My.at hl offl) offl
      have ntl : pl ≠ t := ne_of_none hlz nt
      have ntp : pp ≠ t := ne_of_none (Mz.at (My.at hp offp) offp) nt
      have hpfz := tups_mv Dy Mz _ _ hpf
      refine ⟨pl, _, _, rfl, rfl, by rw [upd_ne ntl]; exact hlz, by rw [hr.len]; exact smallt (by omega), (Dz.new nt).mut offl, ((Mx.trans Mxz).trans (Mv.of (Same.new nt))).mut npl, xs ++ [.ref t], rows ++ [(fs, c - 40)], _, rfl, upd_same, ?_, ?_, ?_, ?_⟩
      · have kt : ∀ a ys, Hx a = some (.tup ys) → upd (upd Hz t (.tup [.ref pf, .int (c - 40)])) pl (.lst (xs ++ [.ref t])) a = some (.tup ys) := fun a ys ha => by
          rw [upd_ne (ne_of ha hl (fun z => nomatch z))]
          exact Same.new nt _ _ (tups_mv Dx Mxz _ _ ha)
        refine RowsAt.snoc (q := pf) ?_ ?_ (hr.to kt)
        · rw [upd_ne ntl.symm]; exact upd_same
        · rw [upd_ne (ne_of hpfz hlz (fun z => nomatch z))]
          exact Same.new nt _ _ hpfz
      · rw [List.length_append, hrl]; rfl
      · intro z hz
        rcases List.mem_append.mp hz with hz | hz
        · exact hf z hz
        · rw [List.mem_singleton.mp hz]; exact ⟨fine, (by show -41 ≤ c - 40; omega), (by show c - 40 ≤ 41; omega)⟩
      · rw [upd_ne nlp.symm, upd_ne ntp]
        exact Mz.at (My.at hp offp) offp
    rintro σ H6 ⟨D6, M6, xs, rows, v7, rfl, hl6, hr6, hrl, fR, hp6⟩
    refine ⟨_, rfl, _, rfl, more, 1, rfl, rfl, d, g, _, rfl, D6, by omega, by omega, fun r4 H7 r40 r41 D7 M7 => ⟨r4, rfl, by omega, by omega, ?_⟩⟩
    refine for_range (fun i σ Hx => Deck Hx d g ∧ Mv d g H Hx ∧ ∃ (ys : List V) (rests : List Rst) (v7 : Option V), σ = [some (.ref d), some (.ref tn), some (.int tall), some (.int more), some (.int (ns.length : Nat)), some (.ref pl), some (.ref pp), v7] ∧
        Hx pl = some (.lst xs) ∧ RowsAt Hx xs rows ∧ Hx pp = some (.lst ys) ∧ RestsAt Hx ys rests ∧ rests.length = i ∧ FineS ns.length rests)
      ⟨D7, M6.trans M7, [], [], v7, rfl, M7.at hl6 offl, hr6.to (tups_mv D6 M7), M7.at hp6 offp, .nil, rfl, (fun z hz => nomatch hz)⟩ ?_ ?_
    · rintro i σ Hx hi ⟨Dx, Mx, ys, rests, v7, rfl, hl, hr, hp, hs, hsl, hf⟩
      refine ⟨_, rfl, ty_l (tofL hp), _, rfl, _, rfl, d, g, _, rfl, Dx, by omega, by omega, fun pf fs Hy Dy My hpf hfl hff => ?_⟩
      have fine : Fine ns.length fs := ⟨by omega, hff⟩
      refine ⟨_, rfl, d, g, 81, rfl, Dy, by decide, by decide, fun c Hw c0 c1 Dw Mw => ⟨c, 40, rfl, rfl, _, rfl, d, g, 11, rfl, Dw, by decide, by decide, fun m Hz m0' m1' Dz Mz => ⟨2, m, rfl, rfl, (show 3 ≤ sizeLine from small (by decide)), fun t nt => ?_⟩⟩⟩
      have Mxz := My.trans (Mw.trans Mz)
      have hpz : Hz pp = some (.lst ys) := Mxz.at hp offp
      have hlz : Hz pl = some (.lst xs) := Mxz.at hl offl
      have ntp : pp ≠ t := ne_of_none hpz nt
      have ntl : pl ≠ t := ne_of_none hlz nt
      have hpfz := tups_mv Dy (Mw.trans Mz) _ _ hpf
      have kt : ∀ a zs, Hx a = some (.tup zs) → upd (upd Hz t (.tup [.ref pf, .int (c - 40), .int (2 + m)])) pp (.lst (ys ++ [.ref t])) a = some (.tup zs) := fun a zs ha => by
        rw [upd_ne (ne_of ha hp (fun z => nomatch z))]
        exact Same.new nt _ _ (tups_mv Dx Mxz _ _ ha)
      refine ⟨pp, _, _, rfl, rfl, by rw [upd_ne ntp]; exact hpz, by rw [hs.len]; exact smallt (by omega), (Dz.new nt).mut offp, ((Mx.trans Mxz).trans (Mv.of (Same.new nt))).mut npp0, ys ++ [.ref t], rests ++ [(fs, c - 40, 2 + m)], _, rfl, ?_, hr.to kt, upd_same, ?_, ?_, ?_⟩
      · rw [upd_ne nlp, upd_ne ntl]; exact hlz
      · refine RestsAt.snoc (q := pf) ?_ ?_ (hs.to kt)
        · rw [upd_ne ntp.symm]; exact upd_same
        · rw [upd_ne (ne_of hpfz hpz (fun z => nomatch z))]
          exact Same.new nt _ _ hpfz
      · rw [List.length_append, hsl]; rfl
      · intro z hz
        rcases List.mem_append.mp hz with hz | hz
        · exact hf z hz
        · rw [List.mem_singleton.mp hz]
          exact ⟨fine, ⟨(by show -41 ≤ c - 40; omega), (by show c - 40 ≤ 41; omega)⟩, (by show 2 ≤ 2 + m; omega), (by show 2 + m ≤ 12; omega)⟩
    rintro σ H8 ⟨D8, M8, ys, rests, v7, rfl, hl8, hr8, hp8, hs8, hsl, fS⟩
    refine ⟨_, rfl, _, rfl, .inl ⟨pl, xs, rfl, tofL hl8, fun tl ntl => ⟨_, rfl, .inl ⟨pp, ys, rfl, tofL (Same.new ntl _ _ hp8), fun tp ntp => fun x dx nx ndx ne => ⟨x, dx, _, _, _, rfl, upd_same, rfl, ?_⟩⟩⟩⟩⟩
    have s9 := (Same.new (o := .tup xs) ntl).trans (Same.new (o := .tup ys) ntp)
    have h9l : upd (upd H8 tl (.tup xs)) tp (.tup ys) tl = some (.tup xs) := Same.new ntp _ _ upd_same
    have h9p : upd (upd H8 tl (.tup xs)) tp (.tup ys) tp = some (.tup ys) := upd_same
    revert s9 h9l h9p nx ndx
    generalize upd (upd H8 tl (.tup xs)) tp (.tup ys) = H9
    intro nx ndx s9 h9l h9p
    have pz : Parts K H9 tn tl tp ns (rows.map lnR) (rests.map lnS) := ⟨((Kp.mv D M8).trans (Kp.of s9)).z hN, ⟨xs, tofT h9l, ln_rows (hr8.to (Kp.of s9).tups)⟩, ⟨ys, tofT h9p, ln_rests (hs8.to (Kp.of s9).tups)⟩⟩
    obtain ⟨sz, hz⟩ := made_at (C := C) pz nx ndx ne
    exact q x _ rows rests ((D8.same s9).same sz) (M8.trans ((Mv.of s9).trans (Mv.of sz))) hz (by omega) (by omega) fR fS
end
end KX
namespace KX
open PySem PySem.Spec PyProof.Rows L2 GL RZ TL
theorem noPart_of {σ : L2.St} {H : Hp} {Q : Option Int → Hp → Prop} (h : Q none H) : tNoPart σ H Q := h
/-! ### what is shown of a system -/
def lnD (l : Line) : PyData := .tuple (.tuple (l.1.map PyData.int) :: l.2.map PyData.int)
def LnOk (l : Line) : Prop := l.1.length ≤ 6 ∧ (∀ f ∈ l.1, -9 ≤ f ∧ f ≤ 9) ∧ l.2.length ≤ 2 ∧ ∀ m ∈ l.2, -41 ≤ m ∧ m ≤ 41
structure SysOk (ns : List Str) (rows rests : List Line) : Prop where
  nl : ns.length ≤ 6
  wd : ∀ z ∈ ns, Word z
  rl : rows.length ≤ 5
  rk : ∀ l ∈ rows, LnOk l
  sl : rests.length ≤ 5
  sk : ∀ l ∈ rests, LnOk l
theorem dp_lns {K : PySem.W.Frag} {H : Hp} : ∀ {xs : List V} {ls : List Line}, LnAt H xs ls → DpAll K H xs (ls.map lnD)
  | _, _, .nil => .nil
  | _, _, .cons a b t => .cons (.tup (tofT a) (.cons (.tup (tofT b) (dpa_ints _)) (dpa_ints _))) (dp_lns t)
theorem nice_lns {ls : List Line} (h : ∀ l ∈ ls, LnOk l) (hl : ls.length ≤ 5) : Nice 900 3 (.tuple (ls.map lnD)) := by
  have h1 : ∀ d ∈ ls.map lnD, Nice 150 2 d := fun d hd => by
    obtain ⟨l, hl, rfl⟩ := List.mem_map.mp hd
    obtain ⟨a1, a2, a3, a4⟩ := h l hl
    have i1 : ∀ d ∈ l.1.map PyData.int, Nice 5 0 d := fun d hd => by
      obtain ⟨f, hf, rfl⟩ := List.mem_map.mp hd
      have := a2 f hf
      exact Nice.int (by omega) (by omega)
    have t1 : Nice 45 1 (.tuple (l.1.map PyData.int)) := Nice.tup (n := 6) i1 (by rw [List.length_map]; exact a1)
    have h2 : ∀ d ∈ PyData.tuple (l.1.map PyData.int) :: l.2.map PyData.int, Nice 45 1 d := fun d hd => by
      rcases List.mem_cons.mp hd with rfl | hd
      · exact t1
      · obtain ⟨f, hf, rfl⟩ := List.mem_map.mp hd
        have := a4 f hf
        exact (Nice.int (by omega) (by omega)).mono (by decide) (by decide)
    exact (Nice.tup (n := 3) h2 (by rw [List.length_cons, List.length_map]; omega)).mono (by decide) (by decide)
  exact (Nice.tup (n := 5) h1 (by rw [List.length_map]; exact hl)).mono (by decide) (by decide)
theorem nice_wds {ns : List Str} (h : ∀ z ∈ ns, Word z) (hl : ns.length ≤ 6) : Nice 3000 1 (.tuple (ns.map PyData.str)) := by
  have h1 : ∀ d ∈ ns.map PyData.str, Nice 402 0 d := fun d hd => by
    obtain ⟨z, hz, rfl⟩ := List.mem_map.mp hd
    exact Nice.str (n := 40) (h z hz).1 (h z hz).2
  exact (Nice.tup (n := 6) h1 (by rw [List.length_map]; exact hl)).mono (by decide) (by decide)
def sysD (ns : List Str) (rows rests : List Line) : PyData := .list [.tuple (ns.map PyData.str), .tuple (rows.map lnD), .tuple (rests.map lnD)]
def shownOf (ns : List Str) (rows rests : List Line) : Str := (sysD ns rows rests).shown
theorem nice_sys {ns : List Str} {rows rests : List Line} (k : SysOk ns rows rests) : Nice 20000 4 (sysD ns rows rests) := by
  have h : ∀ d ∈ [PyData.tuple (ns.map PyData.str), PyData.tuple (rows.map lnD), PyData.tuple (rests.map lnD)], Nice 3000 3 d := fun d hd => by
    rcases List.mem_cons.mp hd with rfl | hd
    · exact (nice_wds k.wd k.nl).mono (by decide) (by decide)
    rcases List.mem_cons.mp hd with rfl | hd
    · exact (nice_lns k.rk k.rl).mono (by decide) (by decide)
    · rw [List.mem_singleton.mp hd]
      exact (nice_lns k.sk k.sl).mono (by decide) (by decide)
  exact (Nice.lst (n := 3) h (Nat.le_refl _)).mono (by decide) (by decide)
theorem dp_sys {K : PySem.W.Frag} {H : Hp} {l tn tr ts : Addr} {ns : List Str} {rows rests : List Line} (h : H l = some (.lst [.ref tn, .ref tr, .ref ts])) (p : Parts K H tn tr ts ns rows rests) : Dp K H (.ref l) (sysD ns rows rests) := by
  obtain ⟨xs, a1, a2⟩ := p.rows
  obtain ⟨ys, b1, b2⟩ := p.rests
  exact .lst (tofL h) (.cons (.tup p.names.t (dpa_strs ns)) (.cons (.tup a1 (dp_lns a2)) (.cons (.tup b1 (dp_lns b2)) .nil)))
def spShown (K : PySem.W.Frag) (C : Addr) : Sp := fun vs H Q _ => ∃ (a : Addr) (ns : List Str) (rows rests : List Line), vs = [.ref a] ∧ SysAt K C H a ns rows rests ∧ SysOk ns rows rests ∧ ∀ H', Same H H' → Q (.str (shownOf ns rows rests)) H'
def spPut (K : PySem.W.Frag) : Sp := fun vs H Q _ => ∃ (o p e q : Addr) (old ns : List Str) (fs ms : List Int), vs = [.ref o, .ref p, .ref e] ∧ SqZ K H o (old.map V.str) ∧ H p = some (.tup (.ref q :: ms.map V.int)) ∧ H q = some (.tup (fs.map V.int)) ∧ SqT K H e (ns.map V.str) ∧ fs.length = old.length ∧ old.length ≤ 100 ∧ ns.length ≤ 100 ∧ ms.length ≤ 2 ∧
  ∀ (r t : Addr) (H' : Hp), Same H H' → SqT K H' r (.ref t :: ms.map V.int) → H' t = some (.tup ((ns.map (facOf fs old)).map V.int)) → Q (.ref r) H'
section
variable {P : Program} {w : World} {K : PySem.W.Frag} {mg : Str → Option Value} {base : Heap}
abbrev s_shown : Stmt := topS 34
theorem sc_shown : FnScope ["_law_made_here"] ["_law_made_here"] (defScope s_shown) := ⟨rfl, rfl, rfl, by decide +kernel, rfl, by decide +kernel, by decide +kernel⟩
theorem ok_shown {f C : Addr} {fd : FuncData} (F : Fun K "_law_shown" "_law_shown" s_shown f fd) (gl : mg "_law_shown" = some (.ref f)) (T : Bl mg) (S : Sys K mg C) : DefG P w K mg base 1 "_law_shown" ["_law_made_here"] (spShown K C) := by
  refine def_mk F gl (F.binds fun _ _ _ _ _ _ us hl => match us, hl with | [_], _ => rfl) (okG F sc_shown (fun vs H Q E h => ?_) fun cdv A outer s H vs Q E hr hc h => ?_)
  · obtain ⟨a, ns, rows, rests, rfl, _⟩ := h
    rfl
  · obtain ⟨a, ns, rows, rests, rfl, ⟨dx, tn, tr, ts, ha, pa⟩, ok, q⟩ := h
    have hu100 : (A.deeper (envOfC "_law_shown" (defScope s_shown) s.heap.objs.size f cdv)).units + 100 < cLine := by have := hr.un; omega
    refine ⟨_, (pss_one (ps_ret (pe_callB (call_reprN hc hu100) (by rfl) T.repr boot_repr (pa_cons (pe_lst (pa_cons (pe_fld (pv 0) rfl) (pa_cons (pe_fld (pv 0) rfl) (pa_cons (pe_fld (pv 0) rfl) pa_nil)))) pa_nil)))), ?_⟩
    refine ⟨_, rfl, a, C, dx, _, _, rfl, ha, S.cl, S.nN, f_names _ _ _, _, rfl, a, C, dx, _, _, rfl, ha, S.cl, S.nR, f_rows _ _ _, _, rfl, a, C, dx, _, _, rfl, ha, S.cl, S.nS, f_rests _ _ _, (show 3 ≤ sizeLine from small (by decide)), fun l nl => ?_⟩
    exact ⟨l, sysD ns rows rests, 20000, 4, rfl, dp_sys upd_same (pa.kp (Kp.of (Same.new nl))), nice_sys ok, by decide, by decide, q _ (Same.new nl)⟩
abbrev s_put : Stmt := topS 35
theorem sc_put : FnScope ["_law_called_here", "_law_piece", "_law_every", "_law_found", "_law_name"] ["_law_called_here", "_law_piece", "_law_every"] (defScope s_put) := ⟨rfl, rfl, rfl, by decide +kernel, rfl, by decide +kernel, by decide +kernel⟩
theorem ok_put {f : Addr} {fd : FuncData} (F : Fun K "_law_put" "_law_put" s_put f fd) (gl : mg "_law_put" = some (.ref f)) (T : Bl mg) : DefG P w K mg base 1 "_law_put" ["_law_called_here", "_law_piece", "_law_every"] (spPut K) := by
  refine def_mk F gl (F.binds fun _ _ _ _ _ _ us hl => match us, hl with | [_, _, _], _ => rfl) (okG F sc_put (fun vs H Q E h => ?_) fun cdv A outer s H vs Q E hr hc h => ?_)
  · obtain ⟨o, p, e, q', old, ns, fs, ms, rfl, _⟩ := h
    rfl
  · obtain ⟨o, p, e, q', old, ns, fs, ms, rfl, hO, hp, hq, hE, l1, l2, l3, l4, q⟩ := h
    have nd := sc_put.nd
    refine ⟨_, (pss_cons (ps_set (i := 3) nd rfl (by first | exact Or.inl rfl | exact Or.inr rfl) (pe_lst pa_nil))
      (pss_cons (ps_for PassesOwn.never rfl (pi_tup (pv 2)) (pg_name (i := 4) nd rfl (by first | exact Or.inl rfl | exact Or.inr rfl))
        (pss_one (ps_expr (pe_bm PySem.F.plainAttrs_list PySem.F.slot_list_append PySem.F.type_list_append mt_append (pv 3) (pa_cons (pe_ifExp (pt_cmpR (op_inK (K := K)) (pv 4) (pv 0) (by with_unfolding_all rfl)) (pe_ix ix_tup (pe_ix ix_tup (pv 1) pe_int (fun _ _ => rfl)) (pe_bmZ PySem.F.slot_tuple_index PySem.F.type_tuple_index mt_tup_index (pv 0) (pa_cons (pv 4) pa_nil)) (fun _ _ => rfl)) pe_int) pa_nil)))))
      (pss_one (ps_ret (pe_op op_catA (pe_tup (pa_cons (pe_tupleOf (by rfl) T.tuple (pv 3)) pa_nil)) (pe_slice sl_tupA (pv 1) (po_some pe_int) po_none)))))), ?_⟩
    refine ⟨Nat.zero_le _, fun D nD => ?_⟩
    refine ⟨_, rfl, e, rfl, ⟨_, (Kp.of (Same.new nD)).tup hE⟩, ?_⟩
    refine for_tup (K := K) (a := e) (xs := ns.map V.str) (fun i σ H2 => ∃ v4 : Option V, σ = [some (.ref o), some (.ref p), some (.ref e), some (.ref D), v4] ∧ Same H H2 ∧ H2 D = some (.lst (((ns.take i).map (facOf fs old)).map V.int)))
      ⟨none, rfl, Same.new nD, upd_same⟩ (fun i σ H2 _ h => by obtain ⟨_, _, h, _⟩ := h; exact (Kp.of h).tup hE) ?_ ?_
    · rintro i x σ H2 hi ⟨v4, rfl, s2, hD⟩
      obtain ⟨z, ez, rfl⟩ := str_at hi
      have il := (List.getElem?_eq_some_iff.mp ez).1
      have fin : ∀ k : Int, k = facOf fs old z → ∃ (acc : List V), H2 D = some (.lst acc) ∧ acc.length < sizeLine ∧ Same H (upd H2 D (.lst (acc ++ [V.int k]))) ∧ upd H2 D (.lst (acc ++ [V.int k])) D = some (.lst (((ns.take (i + 1)).map (facOf fs old)).map V.int)) := by
        rintro k rfl
        refine ⟨_, hD, ?_, ?_, ?_⟩
        · rw [List.length_map, List.length_map, List.length_take]; exact smallt (by omega)
        · intro c u hc'
          rw [upd_ne (ne_of_none hc' nD)]
          exact s2 _ _ hc'
        · rw [upd_same, List.take_add_one, ez, List.map_append, List.map_append]; rfl
      have s2k := Kp.of s2
      refine ⟨_, rfl, ty_l (tofL hD), _, rfl, _, rfl, o, _, rfl, .inr (s2k.z hO).t, rfl, flat_strs old, _, rfl, ?_⟩
      rw [if_neg (show ¬ false = true by decide), inV_strs]
      refine ite2 (fun e' => ?_) (fun e' => ?_)
      · have hz : z ∈ old := of_decide_eq_true e'
        have li : old.idxOf z < old.length := List.idxOf_lt_length_of_mem hz
        obtain ⟨i1, i2⟩ := idx_facts z old hz
        have li2 : old.idxOf z < fs.length := by omega
        have ef : fs[old.idxOf z] = facOf fs old z := by
          unfold facOf
          rw [if_pos hz, List.getD_eq_getElem?_getD, List.getElem?_eq_getElem li2]; rfl
        refine ⟨_, rfl, p, _, 0, .ref q', rfl, rfl, tofT (s2 _ _ hp), at_of (j := 0) rfl rfl, _, rfl, ⟨o, _, rfl, s2k.z hO⟩, _, rfl, o, old, z, old.idxOf z, rfl, rfl, (s2k.z hO).t, i1, i2, q', _, _, _, rfl, rfl, tofT (s2 _ _ hq), at_of rfl (map_at li2), ?_⟩
        obtain ⟨acc, a1, a2, a3, a4⟩ := fin _ ef
        exact ⟨D, _, _, rfl, rfl, a1, a2, _, rfl, a3, a4⟩
      · have hz : z ∉ old := fun m => e' (decide_eq_true m)
        obtain ⟨acc, a1, a2, a3, a4⟩ := fin 0 (by unfold facOf; rw [if_neg hz])
        exact ⟨D, _, _, rfl, rfl, a1, a2, _, rfl, a3, a4⟩
    · rintro σ H2 ⟨v4, rfl, s2, hD⟩
      rw [List.length_map, List.take_length] at hD
      refine ⟨_, rfl, .inl ⟨D, _, rfl, tofL hD, fun t1 n1 => ⟨(show 1 ≤ sizeLine from small (by decide)), fun t2 n2 => ?_⟩⟩⟩
      have s3 : Same H (upd (upd H2 t1 (.tup ((ns.map (facOf fs old)).map V.int))) t2 (.tup [.ref t1])) := s2.trans ((Same.new n1).trans (Same.new n2))
      have e1 : upd (upd H2 t1 (.tup ((ns.map (facOf fs old)).map V.int))) t2 (.tup [.ref t1]) t1 = some (.tup ((ns.map (facOf fs old)).map V.int)) := Same.new n2 _ _ upd_same
      have e2 : upd (upd H2 t1 (.tup ((ns.map (facOf fs old)).map V.int))) t2 (.tup [.ref t1]) t2 = some (.tup [.ref t1]) := upd_same
      revert s3 e1 e2
      generalize upd (upd H2 t1 (.tup ((ns.map (facOf fs old)).map V.int))) t2 (.tup [.ref t1]) = H3
      intro s3 e1 e2
      refine ⟨_, rfl, 1, rfl, ?_⟩
      refine noPart_of ?_
      refine slA_of (tofT (s3 _ _ hp)) fun r H4 s4 qr => ?_
      have ec : cutV (V.ref q' :: ms.map V.int) (some (1 : Int)) none = ms.map V.int := by
        unfold cutV
        have c1 : HT.sIx (V.ref q' :: ms.map V.int).length 0 (some (1 : Int)) = min 1 (V.ref q' :: ms.map V.int).length := HT.sIx_nat _ _ 1
        rw [c1, HT.sIx_none, List.length_cons, List.length_map, show min 1 (ms.length + 1) = 1 by omega]
        show (ms.map V.int).take _ = _
        exact List.take_of_length_le (by rw [List.length_map]; omega)
      rw [ec] at qr
      refine catA_of (tofT (s4 _ _ e2)) qr (by rw [List.length_singleton, List.length_map]; omega) fun r2 H5 s5 q5 => ?_
      exact q r2 t1 H5 (s3.trans (s4.trans s5)) q5 (s5 _ _ (s4 _ _ e1))
end
end KX
namespace KX
open PySem PySem.Spec PyProof.Rows L2 GL RZ TL
theorem iteY {c A B : Prop} [Decidable c] (h : c) (a : A) : if c then A else B := by
  rw [if_pos h]
  exact a
def spRight : Sp := fun vs H Q _ => ∃ (d g : Addr), vs = [.ref d] ∧ Deck H d g ∧ ∀ H', Deck H' d g → Mv d g H H' → Q (.bl true) H'
def spPickT (K : PySem.W.Frag) : Sp := fun vs H Q _ => ∃ (d g a : Addr) (xs : List V), vs = [.ref d, .ref a] ∧ Deck H d g ∧ SqT K H a xs ∧ xs ≠ [] ∧ xs.length ≤ 1000 ∧
  ∀ (x : V) (H' : Hp), x ∈ xs → Deck H' d g → Mv d g H H' → Q x H'
theorem word_asc {z : Str} (h : Word z) : Asc z := h.2
theorem asc_ln {l : Line} (h : LnOk l) : Asc (lnD l).shown := by
  obtain ⟨_, a2, _, a4⟩ := h
  refine asc_tup fun d hd => ?_
  rcases List.mem_cons.mp hd with rfl | hd
  · refine asc_tup fun d hd => ?_
    obtain ⟨f, hf, rfl⟩ := List.mem_map.mp hd
    have := a2 f hf
    exact asc_int (by omega) (by omega)
  · obtain ⟨f, hf, rfl⟩ := List.mem_map.mp hd
    have := a4 f hf
    exact asc_int (by omega) (by omega)
theorem asc_shown {ns : List Str} {rows rests : List Line} (k : SysOk ns rows rests) : Asc (shownOf ns rows rests) := by
  refine asc_lst fun d hd => ?_
  rcases List.mem_cons.mp hd with rfl | hd
  · refine asc_tup fun d hd => ?_
    obtain ⟨z, hz, rfl⟩ := List.mem_map.mp hd
    exact asc_str (word_asc (k.wd z hz))
  rcases List.mem_cons.mp hd with rfl | hd
  · refine asc_tup fun d hd => ?_
    obtain ⟨l, hl, rfl⟩ := List.mem_map.mp hd
    exact asc_ln (k.rk l hl)
  · rw [List.mem_singleton.mp hd]
    refine asc_tup fun d hd => ?_
    obtain ⟨l, hl, rfl⟩ := List.mem_map.mp hd
    exact asc_ln (k.sk l hl)
theorem shaped_asc : ∀ (zs : List Str), (∀ z ∈ zs, Asc z) → SeqAt.shaped (.list (zs.map PyData.str)) = true := by
  intro zs h
  have lay : ∀ ns : List Str, (∀ z ∈ ns, Asc z) → PyData.canLayAll0 (ns.map PyData.str) = true := by
    intro ns
    induction ns with
    | nil => exact fun _ => rfl
    | cons n r ih =>
      intro h
      show (PyData.strOk n && PyData.canLayAll0 (r.map PyData.str)) = true
      rw [ih fun y hy => h y (List.mem_cons_of_mem _ hy), Bool.and_true]
      unfold PyData.strOk
      rw [← Array.all_toList, List.all_eq_true]
      exact fun c hc => decide_eq_true (Nat.lt_trans (h n List.mem_cons_self c hc) (by decide))
  unfold SeqAt.shaped
  rw [show PyData.canLay0 (.list (zs.map PyData.str)) = PyData.canLayAll0 (zs.map PyData.str) from rfl, lay zs h]
  rw [show PyData.depth (.list (zs.map PyData.str)) = PyData.depthAll (zs.map PyData.str) + 1 from rfl, depth_strs zs]
  rfl
theorem row_ok {n : Nat} {rows : List Row} (h : FineR n rows) (hn : n ≤ 6) : ∀ l ∈ rows.map lnR, LnOk l := by
  intro l hl
  obtain ⟨r, hr, rfl⟩ := List.mem_map.mp hl
  have f := h r hr
  refine ⟨by show r.1.length ≤ 6; rw [f.1.1]; exact hn, f.1.2, (show 1 ≤ 2 by decide), fun m hm => ?_⟩
  rw [List.mem_singleton.mp hm]
  exact f.2
theorem rst_ok {n : Nat} {rests : List Rst} (h : FineS n rests) (hn : n ≤ 6) : ∀ l ∈ rests.map lnS, LnOk l := by
  intro l hl
  obtain ⟨r, hr, rfl⟩ := List.mem_map.mp hl
  have f := h r hr
  refine ⟨by show r.1.length ≤ 6; rw [f.1.1]; exact hn, f.1.2, Nat.le_refl 2, fun m hm => ?_⟩
  rcases List.mem_cons.mp hm with rfl | hm
  · exact f.2.1
  · rw [List.mem_singleton.mp hm]
    have := f.2.2
    omega
theorem two_names {ns : List Str} {x : Str} (nd : ns.Nodup) (h : 2 ≤ ns.length) : ∃ z ∈ ns, z ≠ x := by
  match ns, nd, h with
  | a :: b :: r, nd, _ =>
    by_cases e : a = x
    · refine ⟨b, List.mem_cons_of_mem _ List.mem_cons_self, fun e2 => ?_⟩
      have := (List.nodup_cons.mp nd).1
      exact this (by rw [e, ← e2]; exact List.mem_cons_self)
    · exact ⟨a, List.mem_cons_self, e⟩
section
variable {P : Program} {w : World} {K : PySem.W.Frag} {mg : Str → Option Value} {base : Heap}
theorem ok_pickT {f : Addr} {fd : FuncData} (F : Fun K "_law_pick" "_law_pick" s_pick f fd) (gl : mg "_law_pick" = some (.ref f)) (T : Bl mg) (D_draw : DefG P w K mg base 1 "_law_draw" ["_law_deck_here", "_law_many"] spDraw) :
    DefG P w K mg base 2 "_law_pick" ["_law_deck_here", "_law_some"] (spPickT K) := by
  refine def_mk F gl (F.binds fun _ _ _ _ _ _ us hl => match us, hl with | [_, _], _ => rfl) (okG F sc_pick (fun vs H Q E h => ?_) fun cdv A outer s H vs Q E hr hc h => ?_)
  · obtain ⟨d, g, a, xs, rfl, _⟩ := h
    rfl
  · obtain ⟨d, g, a, xs, rfl, D, ha, hne, hl, q⟩ := h
    refine ⟨_, (pss_one (ps_ret (pe_ix ix_tup (pv 1) (pe_def D_draw (hr.mono (by decide)) hc rfl (pa_cons (pv 0) (pa_cons (pe_callB call_len_seq rfl T.len boot_len (pa_cons (pv 1) pa_nil)) pa_nil))) (fun _ _ => rfl)))), ?_⟩
    have h0 : 0 < xs.length := List.length_pos_iff.mpr hne
    refine ⟨_, rfl, _, rfl, _, rfl, a, xs, rfl, .inr ha, d, g, _, rfl, D, by omega, by omega, fun r H' r0 r1 D' M => ?_⟩
    obtain ⟨x, hx, e⟩ := at_in (xs := xs) r0 r1
    exact ⟨a, xs, r, x, rfl, rfl, sq_mv D M ha, e, q x H' hx D' M⟩
abbrev s_equate_right : Stmt := topS 39
theorem sc_equate_right : FnScope ["_law_deck_here", "_law_called_here", "_law_made_here", "_law_a", "_law_b", "_law_name", "_law_row", "_law_due", "_law_shown_here", "_law_told", "_law_item"] ["_law_deck_here"] (defScope s_equate_right) := ⟨rfl, rfl, rfl, by decide +kernel, rfl, by decide +kernel, by decide +kernel⟩
theorem ok_equate_right {f C fE : Addr} {fd fdE : FuncData} (F : Fun K "_law_equate_right" "_law_equate_right" s_equate_right f fd) (gl : mg "_law_equate_right" = some (.ref f)) (T : Bl mg) (S : Sys K mg C)
    (D_draw : DefG P w K mg base 1 "_law_draw" ["_law_deck_here", "_law_many"] spDraw) (D_pick : DefG P w K mg base 2 "_law_pick" ["_law_deck_here", "_law_some"] spPickL) (D_pickT : DefG P w K mg base 2 "_law_pick" ["_law_deck_here", "_law_some"] (spPickT K))
    (D_called : DefG P w K mg base 3 "_law_called" ["_law_deck_here", "_law_many"] (spCalled K)) (D_made : DefG P w K mg base 4 "_law_made" ["_law_deck_here", "_law_called_here", "_law_tall", "_law_more"] (spMade K C)) (D_shown : DefG P w K mg base 1 "_law_shown" ["_law_made_here"] (spShown K C))
    (ME : Meth K C "equate" fE) (FE : FnG P w K mg base CX0 3 fE fdE ["self", "one", "other"] (spEquate K C)) (BE : Binds K fdE ["self", "one", "other"] []) (KE : ∃ g, KBn K fdE ["self", "one", "other"] 1 ["other", "one"] g (fun vs zs => vs ++ zs.reverse)) :
    DefG P w K mg base 5 "_law_equate_right" ["_law_deck_here"] spRight := by
  obtain ⟨gE, KE⟩ := KE
  refine def_mk F gl (F.binds fun _ _ _ _ _ _ us hl => match us, hl with | [_], _ => rfl) (okG F sc_equate_right (fun vs H Q E h => ?_) fun cdv A outer s H vs Q E hr hc h => ?_)
  · obtain ⟨d, g, rfl, _⟩ := h
    rfl
  · obtain ⟨d, g, rfl, D, q⟩ := h
    have nd := sc_equate_right.nd
    have hu64 := hr.units
    have hu100 : (A.deeper (envOfC "_law_equate_right" (defScope s_equate_right) s.heap.objs.size f cdv)).units + 100 < cLine := by have := hr.un; omega
    refine ⟨_, (pss_cons (ps_set (i := 1) nd rfl (by first | exact Or.inl rfl | exact Or.inr rfl) (pe_def D_called (hr.mono (by decide)) hc (by rfl) (pa_cons (pv 0) (pa_cons (pe_op op_add pe_int (pe_def D_draw (hr.mono (by decide)) hc (by rfl) (pa_cons (pv 0) (pa_cons pe_int pa_nil)))) pa_nil))))
      (pss_cons (ps_asg (pe_tup (pa_cons (pe_def D_made (hr.mono (by decide)) hc (by rfl) (pa_cons (pv 0) (pa_cons (pv 1) (pa_cons pe_int (pa_cons pe_int pa_nil))))) (pa_cons (pe_def D_pickT (hr.mono (by decide)) hc (by rfl) (pa_cons (pv 0) (pa_cons (pv 1) pa_nil))) pa_nil))) (pg_tup rfl (pgs_cons (pg_name (i := 2) nd rfl (by first | exact Or.inl rfl | exact Or.inr rfl)) (pgs_cons (pg_name (i := 3) nd rfl (by first | exact Or.inl rfl | exact Or.inr rfl)) pgs_nil))))
      (pss_cons (ps_set (i := 4) nd rfl (by first | exact Or.inl rfl | exact Or.inr rfl) (pe_def D_pick (hr.mono (by decide)) hc (by rfl) (pa_cons (pv 0) (pa_cons (pe_lc (own := [("_law_name", 5)]) (g := (gName 5)) rfl nd (pi_tup (pv 1)) (blkOk_by (own := [("_law_name", 5)]) (N := ["_law_deck_here", "_law_called_here", "_law_made_here", "_law_a", "_law_b", "_law_name", "_law_row", "_law_due", "_law_shown_here", "_law_told", "_law_item"]) (sc := defScope s_equate_right) (by decide +kernel)) (fun _ _ _ _ _ => (pg_name (i := 5) nd rfl (by first | exact Or.inl rfl | exact Or.inr rfl))) (fun _ _ _ _ _ => (pts_one (pt_cmpR op_ne (pv 5) (pv 3) (nomark _)))) (fun _ _ _ _ _ => (pv 5))) pa_nil))))
      (pss_cons (ps_set (i := 6) nd rfl (by first | exact Or.inl rfl | exact Or.inr rfl) (pe_tupleOf (by rfl) T.tuple (pe_lc (own := [("_law_name", 5)]) (g := (gName 5)) (tt := tYes) rfl nd (pi_tup (pv 1)) (blkOk_by (own := [("_law_name", 5)]) (N := ["_law_deck_here", "_law_called_here", "_law_made_here", "_law_a", "_law_b", "_law_name", "_law_row", "_law_due", "_law_shown_here", "_law_told", "_law_item"]) (sc := defScope s_equate_right) (by decide +kernel)) (fun _ _ _ _ _ => (pg_name (i := 5) nd rfl (by first | exact Or.inl rfl | exact Or.inr rfl))) (fun _ _ _ _ _ => pts_nil) (fun _ _ _ _ _ => (pe_op op_sub (pe_callTy call_int1 (by rfl) T.int boot_int (pa_cons (pe_cmpR op_eq (pv 5) (pv 3) (nomark _)) pa_nil)) (pe_callTy call_int1 (by rfl) T.int boot_int (pa_cons (pe_cmpR op_eq (pv 5) (pv 4) (nomark _)) pa_nil)))))))
      (pss_cons (ps_set (i := 7) nd rfl (by first | exact Or.inl rfl | exact Or.inr rfl) (pe_callB (call_reprN hc hu100) (by rfl) T.repr boot_repr (pa_cons (pe_lst (pa_cons (pv 1) (pa_cons (pe_op op_catA (pe_fld (pv 2) rfl) (pe_tup (pa_cons (pe_tup (pa_cons (pv 6) (pa_cons pe_int pa_nil))) pa_nil))) (pa_cons (pe_fld (pv 2) rfl) pa_nil)))) pa_nil)))
      (pss_cons (ps_par (i := 8) (j := 9) rfl nd rfl rfl (by decide) rfl rfl (pa_cons (pe_def D_shown (hr.mono (by decide)) hc (by rfl) (pa_cons (pv 2) pa_nil)) (pa_cons (pe_lst (pa_cons (pe_methG (pv 2) S.cl ME FE (hr.mono (by decide)) hc BE .nil pass0 (pa_cons (pv 3) (pa_cons (pv 4) pa_nil))) (pa_cons (pe_methKG (pv 2) S.cl ME FE (hr.mono (by decide)) hc KE pass0 (pk_cons (pv 4) (pk_cons (pv 3) pk_nil))) pa_nil))) pa_nil)) rfl)
      (pss_one (ps_ret (pe_and (pe_cmpR (op_eqD hu64) (pe_lc (own := [("_law_item", 10)]) (g := (gName 10)) (tt := tYes) rfl nd (pi_list (pv 9)) (blkOk_by (own := [("_law_item", 10)]) (N := ["_law_deck_here", "_law_called_here", "_law_made_here", "_law_a", "_law_b", "_law_name", "_law_row", "_law_due", "_law_shown_here", "_law_told", "_law_item"]) (sc := defScope s_equate_right) (by decide +kernel)) (fun _ _ _ _ _ => (pg_name (i := 10) nd rfl (by first | exact Or.inl rfl | exact Or.inr rfl))) (fun _ _ _ _ _ => pts_nil) (fun _ _ _ _ _ => (pe_def D_shown (hr.mono (by decide)) hc (by rfl) (pa_cons (pv 10) pa_nil)))) (pe_lst (pa_cons (pv 7) (pa_cons (pv 7) pa_nil))) (nomark _)) (pe_one (pe_cmpR op_eq (pe_def D_shown (hr.mono (by decide)) hc (by rfl) (pa_cons (pv 2) pa_nil)) (pv 8) (nomark _)))))))))))), ?_⟩
    refine ⟨_, rfl, _, rfl, d, g, 5, rfl, D, by decide, by decide, fun r H1 r0 r1 D1 M1 => ⟨2, r, rfl, rfl, d, g, _, rfl, D1, by omega, by omega, fun tn ns H2 D2 M2 hN hl hw hnd => ?_⟩⟩
    have n2 : 2 ≤ ns.length := by omega
    have n6 : ns.length ≤ 6 := by omega
    have M02 := M1.trans M2
    refine ⟨_, rfl, _, rfl, d, g, tn, ns, 3, 2, rfl, D2, hN, by omega, n6, by decide, by decide, by decide, by decide, fun am H3 rows rests D3 M3 hA rl sl fR fS => ?_⟩
    have k23 := Kp.mv D2 M3
    have nse : ns.map V.str ≠ [] := fun z => by have e := congrArg List.length z; rw [List.length_map, List.length_nil] at e; omega
    refine ⟨_, rfl, _, rfl, d, g, tn, _, rfl, D3, (k23.z hN).t, nse, by rw [List.length_map]; omega, fun x H4 hx D4 M4 => ?_⟩
    obtain ⟨a, ha, rfl⟩ := List.mem_map.mp hx
    have k34 := Kp.mv D3 M4
    refine ⟨(show 2 ≤ sizeLine from small (by decide)), fun tq ntq => ⟨tq, _, rfl, tofT upd_same, rfl, _, _, rfl, _, _, rfl, rfl, ?_⟩⟩
    have s5 := Same.new (o := .tup [.ref am, .str a]) ntq
    have D5 := D4.same s5
    have k25 : Kp H2 (upd H4 tq (.tup [.ref am, .str a])) := k23.trans (k34.trans (Kp.of s5))
    have k35 : Kp H3 (upd H4 tq (.tup [.ref am, .str a])) := k34.trans (Kp.of s5)
    have M05 : Mv d g H (upd H4 tq (.tup [.ref am, .str a])) := M02.trans (M3.trans (M4.trans (Mv.of s5)))
    revert D5 k25 k35 M05
    generalize upd H4 tq (.tup [.ref am, .str a]) = H5
    intro D5 k25 k35 M05
    have hN5 := k25.z hN
    -- b
    refine ⟨_, rfl, _, rfl, tn, rfl, ⟨_, hN5.t⟩, fun Dl nDl => ?_⟩
    have offD := D5.off nDl
    refine lc_tup (K := K) (a := tn) (xs := ns.map V.str) (fun i H2 => Same H5 H2 ∧ H2 Dl = some (.lst (((ns.take i).filter fun z => !decide (z = a)).map V.str))) ⟨Same.new nDl, upd_same⟩ (fun i H2 _ h => (Kp.of h.1).tup hN5.t) ?_ ?_
    · rintro i y Hx hi ⟨sx, hD⟩
      obtain ⟨z, ez, rfl⟩ := str_at hi
      have il := (List.getElem?_eq_some_iff.mp ez).1
      have ft := flt_take (fun z => !decide (z = a)) ez
      refine ⟨rfl, _, rfl, _, rfl, rfl, _, rfl, ite2 (fun e => ?_) (fun e => ?_)⟩
      · have e' : ¬ z = a := fun w => by rw [decide_eq_true (show V.str z = V.str a by rw [w])] at e; exact absurd e (by decide)
        refine ⟨_, rfl, _, hD, ?_, ?_, ?_⟩
        · rw [List.length_map]; exact smallt (Nat.lt_of_le_of_lt (List.length_filter_le _ _) (by rw [List.length_take]; omega))
        · intro c u hc'
          rw [upd_ne (ne_of_none hc' nDl)]
          exact sx _ _ hc'
        · rw [upd_same, ft, if_pos (by rw [decide_eq_false e']; rfl), List.map_append]; rfl
      · have e' : z = a := by
          refine Classical.byContradiction fun w => e ?_
          rw [decide_eq_false (fun v => w (V.str.inj v))]; rfl
        refine ⟨sx, ?_⟩
        rw [ft, if_neg (by rw [decide_eq_true e']; decide), List.append_nil]
        exact hD
    rintro H6 ⟨s6, hD⟩
    rw [List.length_map, List.take_length] at hD
    have D6 := D5.same s6
    have ne6 : (ns.filter fun z => !decide (z = a)).map V.str ≠ [] := fun z => by
      obtain ⟨y, hy, ney⟩ := two_names (x := a) hnd n2
      have m : y ∈ ns.filter fun z => !decide (z = a) := List.mem_filter.mpr ⟨hy, by rw [decide_eq_false ney]; rfl⟩
      have e := congrArg List.length z
      rw [List.length_map, List.length_nil] at e
      rw [List.eq_nil_of_length_eq_zero e] at m
      cases m
    refine ⟨d, g, Dl, _, rfl, D6, hD, offD.2, ne6, by rw [List.length_map]; exact Nat.le_trans (List.length_filter_le _ _) (by omega), fun x7 H7 hx7 D7 M7 => ?_⟩
    obtain ⟨b, hb, rfl⟩ := List.mem_map.mp hx7
    have nba : ¬ b = a := fun w => by
      have := (List.mem_filter.mp hb).2
      rw [decide_eq_true w] at this
      exact absurd this (by decide)
    have hbn := (List.mem_filter.mp hb).1
    have k57 : Kp H5 H7 := (Kp.of s6).trans (Kp.mv D6 M7)
    have M07 : Mv d g H H7 := M05.trans ((Mv.of s6).trans M7)
    have hN7 := k57.z hN5
    -- row
    refine ⟨_, rfl, tn, rfl, ⟨_, hN7.t⟩, fun Dr nDr => ?_⟩
    refine lc_tup (K := K) (a := tn) (xs := ns.map V.str) (fun i Hx => Same H7 Hx ∧ Hx Dr = some (.lst (((ns.take i).map (eqFac a b)).map V.int))) ⟨Same.new nDr, upd_same⟩ (fun i H2 _ h => (Kp.of h.1).tup hN7.t) ?_ ?_
    · rintro i y Hx hi ⟨sx, hD'⟩
      obtain ⟨z, ez, rfl⟩ := str_at hi
      have il := (List.getElem?_eq_some_iff.mp ez).1
      refine ⟨rfl, _, rfl, _, rfl, rfl, .inr ⟨_, rfl, _, rfl, _, rfl, rfl, .inr ⟨_, rfl, _, _, rfl, rfl, _, hD', ?_, ?_, ?_⟩⟩⟩
      · rw [List.length_map, List.length_map, List.length_take]; exact smallt (by omega)
      · intro c u hc'
        rw [upd_ne (ne_of_none hc' nDr)]
        exact sx _ _ hc'
      · have ev : (if decide (V.str z = V.str a) = true then (1 : Int) else 0) - (if decide (V.str z = V.str b) = true then (1 : Int) else 0) = eqFac a b z := by
          unfold eqFac
          by_cases w : z = a
          · have w2 : ¬ z = b := fun v => nba (by rw [← v, w])
            rw [if_pos w, decide_eq_true (show V.str z = V.str a by rw [w]), decide_eq_false (fun v => w2 (V.str.inj v))]; rfl
          · rw [if_neg w, decide_eq_false (fun v => w (V.str.inj v))]
            by_cases w2 : z = b
            · rw [if_pos w2, decide_eq_true (show V.str z = V.str b by rw [w2])]; rfl
            · rw [if_neg w2, decide_eq_false (fun v => w2 (V.str.inj v))]; rfl
        rw [upd_same, List.take_add_one, ez, List.map_append, List.map_append]
        show some (HO.lst (_ ++ [V.int ((if decide (V.str z = V.str a) = true then (1 : Int) else 0) - (if decide (V.str z = V.str b) = true then (1 : Int) else 0))])) = _
        rw [ev]; rfl
    rintro H8 ⟨s8, hDr⟩
    rw [List.length_map, List.take_length] at hDr
    refine .inl ⟨Dr, _, rfl, tofL hDr, fun tr ntr => ?_⟩
    have s9 : Same H7 (upd H8 tr (.tup ((ns.map (eqFac a b)).map V.int))) := s8.trans (Same.new ntr)
    have htr : upd H8 tr (.tup ((ns.map (eqFac a b)).map V.int)) tr = some (.tup ((ns.map (eqFac a b)).map V.int)) := upd_same
    revert s9 htr
    generalize upd H8 tr (.tup ((ns.map (eqFac a b)).map V.int)) = H9
    intro s9 htr
    have D9 := D7.same s9
    have M09 : Mv d g H H9 := M07.trans (Mv.of s9)
    have k39 : Kp H3 H9 := k35.trans (k57.trans (Kp.of s9))
    have k29 : Kp H2 H9 := k25.trans (k57.trans (Kp.of s9))
    have hA9 := hA.kp k39
    obtain ⟨dx, mn, mr, mt, hi9, p9⟩ := id hA9
    have lr5 : (rows.map lnR).length ≤ 5 := by rw [List.length_map]; omega
    have ls5 : (rests.map lnS).length ≤ 5 := by rw [List.length_map]; omega
    have ok9 : SysOk ns (rows.map lnR) (rests.map lnS) := ⟨n6, hw, lr5, row_ok fR n6, ls5, rst_ok fS n6⟩
    have okE : SysOk ns (rows.map lnR ++ [(ns.map (eqFac a b), [0])]) (rests.map lnS) := by
      refine ⟨n6, hw, ?_, fun l hl' => ?_, ls5, rst_ok fS n6⟩
      · rw [List.length_append, List.length_map, List.length_singleton]; omega
      · rcases List.mem_append.mp hl' with hl' | hl'
        · exact row_ok fR n6 l hl'
        · rw [List.mem_singleton.mp hl']
          refine ⟨by show (ns.map (eqFac a b)).length ≤ 6; rw [List.length_map]; exact n6, fun f hf => ?_, (show 1 ≤ 2 by decide), fun m hm => ?_⟩
          · obtain ⟨z, _, rfl⟩ := List.mem_map.mp hf
            unfold eqFac
            split
            · omega
            · split <;> omega
          · rw [List.mem_singleton.mp hm]; omega
    -- due
    refine ⟨_, rfl, _, rfl, am, C, dx, _, _, rfl, hi9, S.cl, S.nR, f_rows _ _ _, _, rfl, (show 2 ≤ sizeLine from small (by decide)), fun p1 n1' => ⟨(show 1 ≤ sizeLine from small (by decide)), fun p2 n2' => ?_⟩⟩
    have s10 : Same H9 (upd (upd H9 p1 (.tup [.ref tr, .int 0])) p2 (.tup [.ref p1])) := (Same.new n1').trans (Same.new n2')
    have g1' : upd (upd H9 p1 (.tup [.ref tr, .int 0])) p2 (.tup [.ref p1]) p1 = some (.tup [.ref tr, .int 0]) := Same.new n2' _ _ upd_same
    have g2' : upd (upd H9 p1 (.tup [.ref tr, .int 0])) p2 (.tup [.ref p1]) p2 = some (.tup [.ref p1]) := upd_same
    revert s10 g1' g2'
    generalize upd (upd H9 p1 (.tup [.ref tr, .int 0])) p2 (.tup [.ref p1]) = H10
    intro s10 g1' g2'
    obtain ⟨xs9, a9, b9⟩ := p9.rows
    have l9 := b9.len
    refine catA_of ((Kp.of s10).tup a9) (tofT g2') (by rw [l9, List.length_singleton]; omega) fun tr2 H11 s11 qr => ?_
    have s911 : Same H9 H11 := s10.trans s11
    have b11 : LnAt H11 (xs9 ++ [.ref p1]) (rows.map lnR ++ [(ns.map (eqFac a b), [0])]) := (b9.to (Kp.of s911).tups).snoc (ms := [0]) (s11 _ _ g1') (s11 _ _ (s10 _ _ htr))
    refine ⟨_, rfl, am, C, dx, _, _, rfl, s911 _ _ hi9, S.cl, S.nS, f_rests _ _ _, (show 3 ≤ sizeLine from small (by decide)), fun l nl => ?_⟩
    have s12 : Same H11 (upd H11 l (.lst [.ref tn, .ref tr2, .ref mt])) := Same.new nl
    have pE : Parts K (upd H11 l (.lst [.ref tn, .ref tr2, .ref mt])) tn tr2 mt ns (rows.map lnR ++ [(ns.map (eqFac a b), [0])]) (rests.map lnS) :=
      ⟨(Kp.of s12).z ((Kp.of s911).z (k29.z hN)), ⟨_, (Kp.of s12).tup qr, b11.to (Kp.of s12).tups⟩, ((p9.kp (Kp.of s911)).kp (Kp.of s12)).rests⟩
    refine ⟨l, _, 20000, 4, rfl, dp_sys upd_same pE, nice_sys okE, by decide, by decide, ?_⟩
    have s912 : Same H9 (upd H11 l (.lst [.ref tn, .ref tr2, .ref mt])) := s911.trans s12
    clear pE
    revert s912
    generalize upd H11 l (.lst [.ref tn, .ref tr2, .ref mt]) = H12
    intro s912
    -- shown, told
    have nof : (flds (.ref mn) (.ref mr) (.ref mt)).lookup ("equate" : Str) = none := f_no _ _ _ (by decide +kernel) (by decide +kernel) (by decide +kernel)
    have hA12 := hA9.kp (Kp.of s912)
    refine ⟨_, rfl, am, ns, _, _, rfl, hA12, ok9, fun H13 s13 => ?_⟩
    have s913 : Same H9 H13 := s912.trans s13
    refine ⟨_, rfl, am, dx, _, rfl, s913 _ _ hi9, nof, _, rfl, _, rfl, am, a, b, ns, _, _, rfl, hA9.kp (Kp.of s913), by omega, by rw [List.length_map]; omega, fun e1 H14 s14 hE1 => ?_⟩
    have s914 : Same H9 H14 := s913.trans s14
    refine ⟨_, rfl, am, dx, _, rfl, s914 _ _ hi9, nof, _, rfl, _, rfl, rfl, am, a, b, ns, _, _, rfl, hA9.kp (Kp.of s914), by omega, by rw [List.length_map]; omega, fun e2 H15 s15 hE2 => ?_⟩
    have s915 : Same H9 H15 := s914.trans s15
    refine ⟨(show 2 ≤ sizeLine from small (by decide)), fun lt nlt => ⟨_, _, rfl, ?_⟩⟩
    have s16 : Same H15 (upd H15 lt (.lst [.ref e1, .ref e2])) := Same.new nlt
    have hlt : upd H15 lt (.lst [.ref e1, .ref e2]) lt = some (.lst [.ref e1, .ref e2]) := upd_same
    revert s16 hlt
    generalize upd H15 lt (.lst [.ref e1, .ref e2]) = H16
    intro s16 hlt
    have s916 : Same H9 H16 := s915.trans s16
    have hE1' := hE1.kp (Kp.of (s15.trans s16))
    have hE2' := hE2.kp (Kp.of s16)
    -- [shown(item) for item in told] == [due, due] and shown(made) == shown_here
    refine ⟨_, rfl, lt, rfl, ⟨_, tofL hlt⟩, fun Dq nDq => ?_⟩
    refine lc_list (K := K) (a := lt) (xs := [V.ref e1, V.ref e2]) (fun i Hx => Same H16 Hx ∧ Hx Dq = some (.lst ((List.replicate i (shownOf ns (rows.map lnR ++ [(ns.map (eqFac a b), [0])]) (rests.map lnS))).map V.str))) ⟨Same.new nDq, upd_same⟩ (fun i Hx _ h => tofL (h.1 _ _ hlt)) ?_ ?_
    · rintro i y Hx hi ⟨sx, hD'⟩
      have il := (List.getElem?_eq_some_iff.mp hi).1
      have hy : ∃ e, y = .ref e ∧ SysAt K C Hx e ns (rows.map lnR ++ [(ns.map (eqFac a b), [0])]) (rests.map lnS) := by
        rcases List.mem_cons.mp (List.mem_of_getElem? hi) with rfl | h
        · exact ⟨e1, rfl, hE1'.kp (Kp.of sx)⟩
        · rw [List.mem_singleton.mp h]
          exact ⟨e2, rfl, hE2'.kp (Kp.of sx)⟩
      obtain ⟨e, rfl, he⟩ := hy
      refine ⟨rfl, _, rfl, e, ns, _, _, rfl, he, okE, fun Hy sy => ⟨_, sy _ _ hD', ?_, ?_, ?_⟩⟩
      · rw [List.length_map, List.length_replicate]; exact smallt (by have : i < 2 := il; omega)
      · intro c u hc'
        rw [upd_ne (ne_of_none hc' nDq)]
        exact sy _ _ (sx _ _ hc')
      · rw [upd_same, List.replicate_succ', List.map_append]; rfl
    rintro H17 ⟨s17, hDq⟩
    refine ⟨_, rfl, _, rfl, (show 2 ≤ sizeLine from small (by decide)), fun o no => ?_⟩
    have hs := asc_shown okE
    have hsh : SeqAt.shaped (.list ([shownOf ns (rows.map lnR ++ [(ns.map (eqFac a b), [0])]) (rests.map lnS), shownOf ns (rows.map lnR ++ [(ns.map (eqFac a b), [0])]) (rests.map lnS)].map PyData.str)) = true := shaped_asc _ fun z hz => by
      rcases List.mem_cons.mp hz with rfl | hz
      · exact hs
      · rw [List.mem_singleton.mp hz]; exact hs
    refine ⟨_, _, .lst (tofL (Same.new no _ _ hDq)) (dpa_strs _), .lst (tofL upd_same) (dpa_strs [_, _]), hsh, hsh, _, rfl, ?_⟩
    have hcan : PyData.canLay0 (.list ([shownOf ns (rows.map lnR ++ [(ns.map (eqFac a b), [0])]) (rests.map lnS), shownOf ns (rows.map lnR ++ [(ns.map (eqFac a b), [0])]) (rests.map lnS)].map PyData.str)) = true := by
      unfold SeqAt.shaped at hsh
      exact (Bool.and_eq_true_iff.mp hsh).1
    have s918 := s916.trans (s17.trans (Same.new (o := .lst [.str (shownOf ns (rows.map lnR ++ [(ns.map (eqFac a b), [0])]) (rests.map lnS)), .str (shownOf ns (rows.map lnR ++ [(ns.map (eqFac a b), [0])]) (rests.map lnS))]) no))
    have er := PySem.SeqAt.eqv_refl _ hcan
    refine iteY er ?_
    refine ⟨_, rfl, am, ns, _, _, rfl, hA9.kp (Kp.of s918), ok9, fun H19 s19 => ⟨_, rfl, rfl, ?_⟩⟩
    rw [decide_eq_true rfl]
    exact q H19 (D9.same (s918.trans s19)) (M09.trans (Mv.of (s918.trans s19)))
end
end KX
namespace GL
open PySem PySem.Spec PyProof.Rows L2
theorem pe_tupZ {X : Cx} {es : List Expr} {t : TA} {pos : Pos} {x1} (h : PA X es t) : PE X (.Tuple es x1 pos) (fun σ H Q => t σ H fun xs H1 => xs.length ≤ sizeLine ∧ NewZ H1 xs Q) := by
  constructor
  intro pins s σ H Q I hq
  refine wpAny_Tuple_spliced (thn (h.run pos pins s σ H _ I hq) fun us s1 hv => ?_)
  obtain ⟨xs, H1, I1, r, z, q⟩ := hv
  exact ⟨by rw [← r.length]; exact z, newZ I1 r z q⟩
end GL
namespace KX
open PySem PySem.Spec PyProof.Rows L2 GL RZ TL
/-! ### names called otherwise -/
def ren : List (Str × Str) → Str → Str
  | [], z => z
  | p :: r, z => if p.1 = z then p.2 else ren r z
def kvsOf (ps : List (Str × Str)) : List (Key × V) := ps.map fun q => (Sum.inr q.1, V.str q.2)
theorem ren_val (z : Str) : ∀ ps : List (Str × Str), (valV (kvsOf ps) (Sum.inr z : Key)).getD (V.str z) = V.str (ren ps z)
  | [] => rfl
  | p :: r => by
    unfold kvsOf ren
    rw [List.map_cons]
    by_cases e : p.1 = z
    · rw [valV_pos (show (Sum.inr p.1 : Key) = Sum.inr z by rw [e]), if_pos e]; rfl
    · rw [valV_neg (fun h => e (Sum.inr.inj h)), if_neg e]
      exact ren_val z r
theorem called_of (ps : List (Str × Str)) (ns : List Str) : called (kvsOf ps) ns (ns.map (ren ps)) :=
  ⟨List.length_map _, fun i z e => ⟨ren ps z, by rw [List.getElem?_map, e]; rfl, ren_val z ps⟩⟩
theorem ren_word {z : Str} (hz : Word z) : ∀ ps : List (Str × Str), (∀ q ∈ ps, Word q.2) → Word (ren ps z)
  | [], _ => hz
  | p :: r, h => by
    unfold ren
    split
    · exact h p List.mem_cons_self
    · exact ren_word hz r fun q hq => h q (List.mem_cons_of_mem _ hq)
theorem kvs_len (ps : List (Str × Str)) : (kvsOf ps).length = ps.length := List.length_map _
theorem ne_xy : ¬ ("x" : Str) = "y" := by decide +kernel
theorem ne_xz : ¬ ("x" : Str) = "z" := by decide +kernel
theorem ne_yz : ¬ ("y" : Str) = "z" := by decide +kernel
theorem ren2 (z : Str) : ren [("y", "z"), ("z", "x"), ("x", "y")] z = ren [("x", "y"), ("y", "z"), ("z", "x")] z := by
  by_cases a : ("x" : Str) = z <;> by_cases b : ("y" : Str) = z <;> by_cases c : ("z" : Str) = z <;>
    first
      | exact absurd (a.trans b.symm) ne_xy
      | exact absurd (a.trans c.symm) ne_xz
      | exact absurd (b.trans c.symm) ne_yz
      | (simp only [ren]; simp only [if_pos a, if_neg b, if_neg c])
      | (simp only [ren]; simp only [if_neg a, if_pos b, if_neg c])
      | (simp only [ren]; simp only [if_neg a, if_neg b, if_pos c])
      | (simp only [ren]; simp only [if_neg a, if_neg b, if_neg c])
theorem ren3 (z : Str) : ren [("x", "b7"), ("z", "longname"), ("y", "x")] z = ren [("x", "b7"), ("y", "x"), ("z", "longname")] z := by
  by_cases a : ("x" : Str) = z <;> by_cases b : ("y" : Str) = z <;> by_cases c : ("z" : Str) = z <;>
    first
      | exact absurd (a.trans b.symm) ne_xy
      | exact absurd (a.trans c.symm) ne_xz
      | exact absurd (b.trans c.symm) ne_yz
      | (simp only [ren]; simp only [if_pos a, if_neg b, if_neg c])
      | (simp only [ren]; simp only [if_neg a, if_pos b, if_neg c])
      | (simp only [ren]; simp only [if_neg a, if_neg b, if_pos c])
      | (simp only [ren]; simp only [if_neg a, if_neg b, if_neg c])
theorem merge_nd : ∀ (more acc : List (Key × V)), ((acc ++ more).map (·.1)).Nodup → mergeK acc more = acc ++ more
  | [], acc, _ => by rw [List.append_nil]; rfl
  | p :: r, acc, h => by
    have e : putK acc p.1 p.2 = acc ++ [p] := by
      unfold putK
      rw [if_neg]
      intro c
      obtain ⟨q, hq, e⟩ := List.any_eq_true.mp c
      have e := of_decide_eq_true e
      rw [List.map_append, List.map_cons] at h
      have := (List.nodup_append.mp h).2.2 q.1 (List.mem_map_of_mem hq) p.1 List.mem_cons_self
      exact this e
    show mergeK (putK acc p.1 p.2) r = _
    rw [e, merge_nd r (acc ++ [p]) (by rw [List.append_assoc]; exact h), List.append_assoc]
    rfl
theorem kvs_nd {ps : List (Str × Str)} (h : (ps.map (·.1)).Nodup) : mergeK [] (kvsOf ps) = kvsOf ps := by
  refine merge_nd _ [] ?_
  rw [List.nil_append]
  unfold kvsOf
  rw [List.map_map, show ((fun x : Key × V => x.1) ∘ fun q : Str × Str => ((Sum.inr q.1 : Key), V.str q.2)) = (Sum.inr ∘ Prod.fst) from rfl, ← List.map_map]
  exact List.Pairwise.map _ (fun _ _ q z => q (Sum.inr.inj z)) h
section
variable {P : Program} {w : World} {K : PySem.W.Frag} {mg : Str → Option Value} {base : Heap}
abbrev s_renamed_right : Stmt := topS 38
theorem sc_renamed_right : FnScope ["_law_deck_here", "_law_made_here", "_law_shown_here", "_law_kind", "_law_told", "_law_by", "_law_due", "_law_name"] ["_law_deck_here"] (defScope s_renamed_right) := ⟨rfl, rfl, rfl, by decide +kernel, rfl, by decide +kernel, by decide +kernel⟩
theorem ok_renamed_right {f C fR : Addr} {fd : FuncData} (F : Fun K "_law_renamed_right" "_law_renamed_right" s_renamed_right f fd) (gl : mg "_law_renamed_right" = some (.ref f)) (T : Bl mg) (S : Sys K mg C)
    (D_draw : DefG P w K mg base 1 "_law_draw" ["_law_deck_here", "_law_many"] spDraw) (D_pick : DefG P w K mg base 2 "_law_pick" ["_law_deck_here", "_law_some"] spPickL)
    (D_made : DefG P w K mg base 4 "_law_made" ["_law_deck_here", "_law_called_here", "_law_tall", "_law_more"] (spMade K C)) (D_shown : DefG P w K mg base 1 "_law_shown" ["_law_made_here"] (spShown K C))
    (MR : Meth K C "renamed" fR) (F0 : FnKG P w K mg base CX0 3 fR 1 ["x", "y"] (spRenamed K C)) (F1 : FnKG P w K mg base CX0 3 fR 1 ["z"] (spRenamed K C)) (F2 : FnKG P w K mg base CX0 3 fR 1 ["y", "z", "x"] (spRenamed K C))
    (F3 : FnKG P w K mg base CX0 3 fR 1 ["x", "z", "y"] (spRenamed K C)) (F4 : FnKG P w K mg base CX0 3 fR 1 [] (spRenamed K C)) :
    DefG P w K mg base 5 "_law_renamed_right" ["_law_deck_here"] spRight := by
  refine def_mk F gl (F.binds fun _ _ _ _ _ _ us hl => match us, hl with | [_], _ => rfl) (okG F sc_renamed_right (fun vs H Q E h => ?_) fun cdv A outer s H vs Q E hr hc h => ?_)
  · obtain ⟨d, g, rfl, _⟩ := h
    rfl
  · obtain ⟨d, g, rfl, D, q⟩ := h
    have nd := sc_renamed_right.nd
    have hu := hu_of hr
    have hu64 := hr.units
    have hu100 : (A.deeper (envOfC "_law_renamed_right" (defScope s_renamed_right) s.heap.objs.size f cdv)).units + 100 < cLine := by have := hr.un; omega
    refine ⟨_, (pss_cons (ps_set (i := 1) nd rfl (by first | exact Or.inl rfl | exact Or.inr rfl) (pe_def D_made (hr.mono (by decide)) hc (by rfl) (pa_cons (pv 0) (pa_cons (pe_def D_pick (hr.mono (by decide)) hc (by rfl) (pa_cons (pv 0) (pa_cons (pe_lst (pa_cons (pe_tupZ (pa_cons pe_str (pa_cons pe_str (pa_cons pe_str pa_nil)))) (pa_cons (pe_tupZ (pa_cons pe_str (pa_cons pe_str (pa_cons pe_str pa_nil)))) (pa_cons (pe_tupZ (pa_cons pe_str (pa_cons pe_str (pa_cons pe_str (pa_cons pe_str pa_nil))))) pa_nil)))) pa_nil))) (pa_cons pe_int (pa_cons pe_int pa_nil))))))
      (pss_cons (ps_par (i := 2) (j := 3) rfl nd rfl rfl (by decide) rfl rfl (pa_cons (pe_def D_shown (hr.mono (by decide)) hc (by rfl) (pa_cons (pv 1) pa_nil)) (pa_cons (pe_def D_draw (hr.mono (by decide)) hc (by rfl) (pa_cons (pv 0) (pa_cons pe_int pa_nil))) pa_nil)) rfl)
      (C8.pss_cut (ps_if (pt_cmpR op_eq (pv 3) pe_int (nomark _))
        (pss_one (ps_asg (pe_tup (pa_cons (pe_methKwG (pv 1) S.cl MR F0 (hr.mono (by decide)) hc pass0 (pk_cons pe_str (pk_cons pe_str pk_nil))) (pa_cons (pe_disp (pps_cons pe_str pe_str (pps_cons pe_str pe_str pps_nil)) rfl rfl (by decide) (by decide)) pa_nil))) (pg_tup rfl (pgs_cons (pg_name (i := 4) nd rfl (by first | exact Or.inl rfl | exact Or.inr rfl)) (pgs_cons (pg_name (i := 5) nd rfl (by first | exact Or.inl rfl | exact Or.inr rfl)) pgs_nil)))))
        (pss_one (ps_if (pt_cmpR op_eq (pv 3) pe_int (nomark _))
          (pss_one (ps_asg (pe_tup (pa_cons (pe_methKwG (pv 1) S.cl MR F1 (hr.mono (by decide)) hc pass0 (pk_cons pe_str pk_nil)) (pa_cons (pe_disp (pps_cons pe_str pe_str pps_nil) rfl rfl (by decide) (by decide)) pa_nil))) (pg_tup rfl (pgs_cons (pg_name (i := 4) nd rfl (by first | exact Or.inl rfl | exact Or.inr rfl)) (pgs_cons (pg_name (i := 5) nd rfl (by first | exact Or.inl rfl | exact Or.inr rfl)) pgs_nil)))))
          (pss_one (ps_if (pt_cmpR op_eq (pv 3) pe_int (nomark _))
            (pss_one (ps_asg (pe_tup (pa_cons (pe_methKwG (pv 1) S.cl MR F2 (hr.mono (by decide)) hc pass0 (pk_cons pe_str (pk_cons pe_str (pk_cons pe_str pk_nil)))) (pa_cons (pe_disp (pps_cons pe_str pe_str (pps_cons pe_str pe_str (pps_cons pe_str pe_str pps_nil))) rfl rfl (by decide) (by decide)) pa_nil))) (pg_tup rfl (pgs_cons (pg_name (i := 4) nd rfl (by first | exact Or.inl rfl | exact Or.inr rfl)) (pgs_cons (pg_name (i := 5) nd rfl (by first | exact Or.inl rfl | exact Or.inr rfl)) pgs_nil)))))
            (pss_one (ps_if (pt_cmpR op_eq (pv 3) pe_int (nomark _))
              (pss_one (ps_asg (pe_tup (pa_cons (pe_methKwG (pv 1) S.cl MR F3 (hr.mono (by decide)) hc pass0 (pk_cons pe_str (pk_cons pe_str (pk_cons pe_str pk_nil)))) (pa_cons (pe_disp (pps_cons pe_str pe_str (pps_cons pe_str pe_str (pps_cons pe_str pe_str pps_nil))) rfl rfl (by decide) (by decide)) pa_nil))) (pg_tup rfl (pgs_cons (pg_name (i := 4) nd rfl (by first | exact Or.inl rfl | exact Or.inr rfl)) (pgs_cons (pg_name (i := 5) nd rfl (by first | exact Or.inl rfl | exact Or.inr rfl)) pgs_nil)))))
              (pss_one (ps_asg (pe_tup (pa_cons (pe_methRG0 (pv 1) S.cl MR F4.none (hr.mono (by decide)) hc pass0) (pa_cons pe_dnewK pa_nil))) (pg_tup rfl (pgs_cons (pg_name (i := 4) nd rfl (by first | exact Or.inl rfl | exact Or.inr rfl)) (pgs_cons (pg_name (i := 5) nd rfl (by first | exact Or.inl rfl | exact Or.inr rfl)) pgs_nil))))))))))))
      (pss_cons (ps_set (i := 6) nd rfl (by first | exact Or.inl rfl | exact Or.inr rfl) (pe_tupleOf (by rfl) T.tuple (pe_lc (own := [("_law_name", 7)]) (g := (gName 7)) (tt := tYes) rfl nd (pi_tup (pe_fld (pv 1) rfl)) (blkOk_by (own := [("_law_name", 7)]) (N := ["_law_deck_here", "_law_made_here", "_law_shown_here", "_law_kind", "_law_told", "_law_by", "_law_due", "_law_name"]) (sc := defScope s_renamed_right) (by decide +kernel)) (fun _ _ _ _ _ => (pg_name (i := 7) nd rfl (by first | exact Or.inl rfl | exact Or.inr rfl))) (fun _ _ _ _ _ => pts_nil) (fun _ _ _ _ _ => (pe_dget2 hu (pv 5) (pv 7) (pv 7) ⟨by rfl, by rfl, by rfl, by rfl⟩)))))
      (pss_one (ps_ret (pe_and (pe_cmpR op_eq (pe_def D_shown (hr.mono (by decide)) hc (by rfl) (pa_cons (pv 4) pa_nil)) (pe_callB (call_reprN hc hu100) (by rfl) T.repr boot_repr (pa_cons (pe_lst (pa_cons (pv 6) (pa_cons (pe_fld (pv 1) rfl) (pa_cons (pe_fld (pv 1) rfl) pa_nil)))) pa_nil)) (nomark _)) (pe_one (pe_cmpR op_eq (pe_def D_shown (hr.mono (by decide)) hc (by rfl) (pa_cons (pv 1) pa_nil)) (pv 2) (nomark _)))))))))), ?_⟩
    have W : ∀ z ∈ (["x", "y", "z", "x2", "a", "b7", "longname"] : List Str), Word z := by
      intro z hz
      simp only [List.mem_cons, List.not_mem_nil, or_false] at hz
      rcases hz with rfl | rfl | rfl | rfl | rfl | rfl | rfl <;> exact ⟨by decide +kernel, by decide +kernel⟩
    have wx : ∀ z : Str, z ∈ (["x", "y", "z", "x2", "a", "b7", "longname"] : List Str) → Word z := W
    -- made
    refine ⟨_, rfl, _, rfl, (show 3 ≤ sizeLine from small (by decide)), fun t1 o1 nt1 od1 => ⟨(show 3 ≤ sizeLine from small (by decide)), fun t2 o2 nt2 od2 => ⟨(show 4 ≤ sizeLine from small (by decide)), fun t3 o3 nt3 od3 => ⟨(show 3 ≤ sizeLine from small (by decide)), fun pl npl => ?_⟩⟩⟩⟩
    have sA := Same.new (o := .frz o1 (.tup [V.str "x", V.str "y", V.str "z"])) nt1
    have sB := Same.new (o := .frz o2 (.tup [V.str "z", V.str "x", V.str "y"])) nt2
    have sC := Same.new (o := .frz o3 (.tup [V.str "y", V.str "x2", V.str "x", V.str "z"])) nt3
    have sD := Same.new (o := .lst [.ref t1, .ref t2, .ref t3]) npl
    have D1 := (((D.same sA).same sB).same sC).same sD
    have offl := (((D.same sA).same sB).same sC).off npl
    refine ⟨d, g, pl, _, rfl, D1, upd_same, offl.2, (fun z => nomatch z), (show 3 ≤ 1000 by decide), fun x H2 hx D2 M2 => ?_⟩
    have z1 : SqZ K _ t1 ((["x", "y", "z"] : List Str).map V.str) := .inl ⟨o1, sD _ _ (sC _ _ (sB _ _ upd_same)), od1⟩
    have z2 : SqZ K _ t2 ((["z", "x", "y"] : List Str).map V.str) := .inl ⟨o2, sD _ _ (sC _ _ upd_same), od2⟩
    have z3 : SqZ K _ t3 ((["y", "x2", "x", "z"] : List Str).map V.str) := .inl ⟨o3, sD _ _ upd_same, od3⟩
    have M02 : Mv d g H H2 := (Mv.of (((sA.trans sB).trans sC).trans sD)).trans M2
    have k12 := Kp.mv D1 M2
    have hx' : ∃ (tn : Addr) (ns : List Str), x = .ref tn ∧ SqZ K H2 tn (ns.map V.str) ∧ 3 ≤ ns.length ∧ ns.length ≤ 4 ∧ ∀ z ∈ ns, Word z := by
      rcases List.mem_cons.mp hx with rfl | hx
      · exact ⟨t1, _, rfl, k12.z z1, by decide, by decide, fun z hz => wx z (by simp only [List.mem_cons, List.not_mem_nil, or_false] at hz ⊢; rcases hz with rfl | rfl | rfl <;> simp)⟩
      rcases List.mem_cons.mp hx with rfl | hx
      · exact ⟨t2, _, rfl, k12.z z2, by decide, by decide, fun z hz => wx z (by simp only [List.mem_cons, List.not_mem_nil, or_false] at hz ⊢; rcases hz with rfl | rfl | rfl <;> simp)⟩
      · rw [List.mem_singleton.mp hx]
        exact ⟨t3, _, rfl, k12.z z3, by decide, by decide, fun z hz => wx z (by simp only [List.mem_cons, List.not_mem_nil, or_false] at hz ⊢; rcases hz with rfl | rfl | rfl | rfl <;> simp)⟩
    obtain ⟨tn, ns, rfl, hN, n3, n4, hw⟩ := hx'
    refine ⟨d, g, tn, ns, 3, 2, rfl, D2, hN, by omega, by omega, by decide, by decide, by decide, by decide, fun am H3 rows rests D3 M3 hA rl sl fR fS => ?_⟩
    have M03 : Mv d g H H3 := M02.trans M3
    have lr5 : (rows.map lnR).length ≤ 5 := by rw [List.length_map]; omega
    have ls5 : (rests.map lnS).length ≤ 5 := by rw [List.length_map]; omega
    have ok3 : SysOk ns (rows.map lnR) (rests.map lnS) := ⟨by omega, hw, lr5, row_ok fR (by omega), ls5, rst_ok fS (by omega)⟩
    -- shown, kind
    refine ⟨_, rfl, am, ns, _, _, rfl, hA, ok3, fun H4 s4 => ⟨_, rfl, d, g, 5, rfl, D3.same s4, by decide, by decide, fun r5 H5 r50 r51 D5 M5 => ⟨_, _, rfl, ?_⟩⟩⟩
    have k35 : Kp H3 H5 := (Kp.of s4).trans (Kp.mv (D3.same s4) M5)
    have M05 : Mv d g H H5 := M03.trans ((Mv.of s4).trans M5)
    have hA5 := hA.kp k35
    clear z1 z2 z3 hx sA sB sC sD D1 k12 M2 M3
    -- the five ways
    refine ⟨fun σ Hx => ∃ (e by_ : Addr) (ps : List (Str × Str)), σ = [some (.ref d), some (.ref am), some (.str (shownOf ns (rows.map lnR) (rests.map lnS))), some (.int r5), some (.ref e), some (.ref by_), none, none] ∧
      Same H5 Hx ∧ SysAt K C Hx e (ns.map (ren ps)) (rows.map lnR) (rests.map lnS) ∧ Hx by_ = some (.dK (kvsOf ps)) ∧ ∀ z ∈ ns, Word (ren ps z), ?_, ?_⟩
    · obtain ⟨dx, mn, mr, mt, hi5, p5⟩ := id hA5
      have nof : (flds (.ref mn) (.ref mr) (.ref mt)).lookup ("renamed" : Str) = none := f_no _ _ _ (by decide +kernel) (by decide +kernel) (by decide +kernel)
      have fin : ∀ (ps ps' : List (Str × Str)) (p e q' tq : Addr) (kv : List (Key × V)) (H6 : Hp), (∀ z, ren ps z = ren ps' z) → (∀ q ∈ ps', Word q.2) → (ps'.map (·.1)).Nodup → H5 p = none → Same (upd H5 p (.dK kv)) H6 → SysAt K C H6 e (ns.map (ren ps)) (rows.map lnR) (rests.map lnS) → H6 q' = none →
          (upd (upd H6 q' (.dK [])) q' (.dK (mergeK [] (kvsOf ps')))) tq = none →
          ∃ (e1 by_ : Addr) (ps1 : List (Str × Str)), [some (V.ref d), some (.ref am), some (.str (shownOf ns (rows.map lnR) (rests.map lnS))), some (.int r5), some (.ref e), some (.ref q'), none, none] = [some (V.ref d), some (.ref am), some (.str (shownOf ns (rows.map lnR) (rests.map lnS))), some (.int r5), some (.ref e1), some (.ref by_), none, none] ∧
            Same H5 (upd (upd (upd H6 q' (.dK [])) q' (.dK (mergeK [] (kvsOf ps')))) tq (.tup [.ref e, .ref q'])) ∧ SysAt K C (upd (upd (upd H6 q' (.dK [])) q' (.dK (mergeK [] (kvsOf ps')))) tq (.tup [.ref e, .ref q'])) e1 (ns.map (ren ps1)) (rows.map lnR) (rests.map lnS) ∧
            (upd (upd (upd H6 q' (.dK [])) q' (.dK (mergeK [] (kvsOf ps')))) tq (.tup [.ref e, .ref q'])) by_ = some (.dK (kvsOf ps1)) ∧ ∀ z ∈ ns, Word (ren ps1 z) := by
        intro ps ps' p e q' tq kv H6 he hw' hn np s6 hE nq ntq
        rw [upd_upd] at ntq ⊢
        have sa : Same H6 (upd (upd H6 q' (.dK (mergeK [] (kvsOf ps')))) tq (.tup [.ref e, .ref q'])) := (Same.new nq).trans (Same.new ntq)
        refine ⟨e, q', ps', rfl, (Same.new np).trans (s6.trans sa), ?_, ?_, fun z hz => ren_word (hw z hz) ps' hw'⟩
        · have ef : ren ps = ren ps' := funext he
          rw [← ef]
          exact hE.kp (Kp.of sa)
        · rw [kvs_nd hn] at ntq ⊢
          exact Same.new ntq _ _ upd_same
      refine ⟨_, rfl, rfl, _, rfl, ite2 (fun _ => ?_) (fun _ => ?_)⟩
      · refine ⟨_, rfl, am, dx, _, rfl, hi5, nof, rfl, fun p np => ⟨am, p, ns, ns.map (ren [("x", "y"), ("y", "x")]), _, _, kvsOf [("x", "y"), ("y", "x")], rfl, hA5.kp (Kp.of (Same.new np)), upd_same, by omega, called_of _ ns, fun e H6 s6 hE => fun q' nq => ⟨upd_same, kvsOf [("x", "y"), ("y", "x")], rfl, (by rw [kvs_len]; decide), (show 2 ≤ sizeLine from small (by decide)), fun tq ntq => ⟨tq, _, rfl, tofT upd_same, rfl, _, _, rfl, _, _, rfl, rfl, ?_⟩⟩⟩⟩
        exact fin [("x", "y"), ("y", "x")] [("x", "y"), ("y", "x")] p e q' tq _ H6 (fun _ => rfl) (by intro v hv; simp only [List.mem_cons, List.not_mem_nil, or_false] at hv; rcases hv with rfl | rfl <;> exact W _ (by simp)) (by decide +kernel) np s6 hE nq ntq
      refine ⟨_, rfl, rfl, _, rfl, ite2 (fun _ => ?_) (fun _ => ?_)⟩
      · refine ⟨_, rfl, am, dx, _, rfl, hi5, nof, rfl, fun p np => ⟨am, p, ns, ns.map (ren [("z", "a")]), _, _, kvsOf [("z", "a")], rfl, hA5.kp (Kp.of (Same.new np)), upd_same, by omega, called_of _ ns, fun e H6 s6 hE => fun q' nq => ⟨upd_same, kvsOf [("z", "a")], rfl, (by rw [kvs_len]; decide), (show 2 ≤ sizeLine from small (by decide)), fun tq ntq => ⟨tq, _, rfl, tofT upd_same, rfl, _, _, rfl, _, _, rfl, rfl, ?_⟩⟩⟩⟩
        exact fin [("z", "a")] [("z", "a")] p e q' tq _ H6 (fun _ => rfl) (by intro v hv; simp only [List.mem_cons, List.not_mem_nil, or_false] at hv; rcases hv with rfl <;> exact W _ (by simp)) (by decide +kernel) np s6 hE nq ntq
      refine ⟨_, rfl, rfl, _, rfl, ite2 (fun _ => ?_) (fun _ => ?_)⟩
      · refine ⟨_, rfl, am, dx, _, rfl, hi5, nof, rfl, fun p np => ⟨am, p, ns, ns.map (ren [("y", "z"), ("z", "x"), ("x", "y")]), _, _, kvsOf [("y", "z"), ("z", "x"), ("x", "y")], rfl, hA5.kp (Kp.of (Same.new np)), upd_same, by omega, called_of _ ns, fun e H6 s6 hE => fun q' nq => ⟨upd_same, kvsOf [("x", "y"), ("y", "z"), ("z", "x")], rfl, (by rw [kvs_len]; decide), (show 2 ≤ sizeLine from small (by decide)), fun tq ntq => ⟨tq, _, rfl, tofT upd_same, rfl, _, _, rfl, _, _, rfl, rfl, ?_⟩⟩⟩⟩
        exact fin [("y", "z"), ("z", "x"), ("x", "y")] [("x", "y"), ("y", "z"), ("z", "x")] p e q' tq _ H6 (ren2) (by intro v hv; simp only [List.mem_cons, List.not_mem_nil, or_false] at hv; rcases hv with rfl | rfl | rfl <;> exact W _ (by simp)) (by decide +kernel) np s6 hE nq ntq
      refine ⟨_, rfl, rfl, _, rfl, ite2 (fun _ => ?_) (fun _ => ?_)⟩
      · refine ⟨_, rfl, am, dx, _, rfl, hi5, nof, rfl, fun p np => ⟨am, p, ns, ns.map (ren [("x", "b7"), ("z", "longname"), ("y", "x")]), _, _, kvsOf [("x", "b7"), ("z", "longname"), ("y", "x")], rfl, hA5.kp (Kp.of (Same.new np)), upd_same, by omega, called_of _ ns, fun e H6 s6 hE => fun q' nq => ⟨upd_same, kvsOf [("x", "b7"), ("y", "x"), ("z", "longname")], rfl, (by rw [kvs_len]; decide), (show 2 ≤ sizeLine from small (by decide)), fun tq ntq => ⟨tq, _, rfl, tofT upd_same, rfl, _, _, rfl, _, _, rfl, rfl, ?_⟩⟩⟩⟩
        exact fin [("x", "b7"), ("z", "longname"), ("y", "x")] [("x", "b7"), ("y", "x"), ("z", "longname")] p e q' tq _ H6 (ren3) (by intro v hv; simp only [List.mem_cons, List.not_mem_nil, or_false] at hv; rcases hv with rfl | rfl | rfl <;> exact W _ (by simp)) (by decide +kernel) np s6 hE nq ntq
      refine ⟨_, rfl, am, dx, _, rfl, hi5, nof, rfl, fun p np => ⟨am, p, ns, ns.map (ren []), _, _, [], rfl, hA5.kp (Kp.of (Same.new np)), upd_same, by omega, called_of [] ns, fun e H6 s6 hE => fun q' nq => ⟨(show 2 ≤ sizeLine from small (by decide)), fun tq ntq => ⟨tq, _, rfl, tofT upd_same, rfl, _, _, rfl, _, _, rfl, rfl, ?_⟩⟩⟩⟩
      have sa : Same H6 (upd (upd H6 q' (.dK [])) tq (.tup [.ref e, .ref q'])) := (Same.new nq).trans (Same.new ntq)
      exact ⟨e, q', [], rfl, (Same.new np).trans (s6.trans sa), hE.kp (Kp.of sa), Same.new ntq _ _ upd_same, fun z hz => hw z hz⟩
    · rintro σ H6 ⟨e, by_, ps, rfl, s6, hE, hB, hwr⟩
      have hA6 := hA5.kp (Kp.of s6)
      obtain ⟨dx, mn, mr, mt, hi6, p6⟩ := id hA6
      -- due
      refine ⟨_, rfl, am, C, dx, _, _, rfl, hi6, S.cl, S.nN, f_names _ _ _, mn, rfl, ⟨_, p6.names.t⟩, fun Dl nDl => ?_⟩
      refine lc_tup (K := K) (a := mn) (xs := ns.map V.str) (fun i H2 => Same H6 H2 ∧ H2 Dl = some (.lst (((ns.take i).map (ren ps)).map V.str))) ⟨Same.new nDl, upd_same⟩ (fun i H2 _ h => (Kp.of h.1).tup p6.names.t) ?_ ?_
      · rintro i y Hx hi ⟨sx, hD⟩
        obtain ⟨z, ez, rfl⟩ := str_at hi
        have il := (List.getElem?_eq_some_iff.mp ez).1
        refine ⟨rfl, _, rfl, by_, rfl, .inl ⟨_, .inl (sx _ _ hB)⟩, _, rfl, _, rfl, _, DGet.k (k := Sum.inr z) (sx _ _ hB), ?_⟩
        rw [ren_val]
        refine ⟨_, hD, ?_, ?_, ?_⟩
        · rw [List.length_map, List.length_map, List.length_take]; exact smallt (by omega)
        · intro c u hc'
          rw [upd_ne (ne_of_none hc' nDl)]
          exact sx _ _ hc'
        · rw [upd_same, List.take_add_one, ez, List.map_append, List.map_append]; rfl
      rintro H7 ⟨s7, hD⟩
      rw [List.length_map, List.take_length] at hD
      refine .inl ⟨Dl, _, rfl, tofL hD, fun td ntd => ?_⟩
      have s8 : Same H6 (upd H7 td (.tup ((ns.map (ren ps)).map V.str))) := s7.trans (Same.new ntd)
      have htd : upd H7 td (.tup ((ns.map (ren ps)).map V.str)) td = some (.tup ((ns.map (ren ps)).map V.str)) := upd_same
      revert s8 htd
      generalize upd H7 td (.tup ((ns.map (ren ps)).map V.str)) = H8
      intro s8 htd
      have okR : SysOk (ns.map (ren ps)) (rows.map lnR) (rests.map lnS) := ⟨by rw [List.length_map]; omega, fun z hz => by
        obtain ⟨y, hy, rfl⟩ := List.mem_map.mp hz
        exact hwr y hy, lr5, row_ok fR (by omega), ls5, rst_ok fS (by omega)⟩
      -- shown(told) == repr([due, made.rows, made.rests])
      refine ⟨_, rfl, e, _, _, _, rfl, hE.kp (Kp.of s8), okR, fun H9 s9 => ?_⟩
      have s69 : Same H6 H9 := s8.trans s9
      refine ⟨_, rfl, _, rfl, am, C, dx, _, _, rfl, s69 _ _ hi6, S.cl, S.nR, f_rows _ _ _, _, rfl, am, C, dx, _, _, rfl, s69 _ _ hi6, S.cl, S.nS, f_rests _ _ _, (show 3 ≤ sizeLine from small (by decide)), fun l nl => ?_⟩
      have s10 : Same H9 (upd H9 l (.lst [.ref td, .ref mr, .ref mt])) := Same.new nl
      obtain ⟨xs6, a6, b6⟩ := p6.rows
      obtain ⟨ys6, c6, d6⟩ := p6.rests
      have k10 := Kp.of (s69.trans s10)
      refine ⟨l, sysD (ns.map (ren ps)) (rows.map lnR) (rests.map lnS), 20000, 4, rfl, .lst (tofL upd_same) (.cons (.tup (tofT (s10 _ _ (s9 _ _ htd))) (dpa_strs _)) (.cons (.tup (k10.tup a6) (dp_lns (b6.to k10.tups))) (.cons (.tup (k10.tup c6) (dp_lns (d6.to k10.tups))) .nil))), nice_sys okR, by decide, by decide, rfl, _, rfl, ?_⟩
      refine iteY (decide_eq_true rfl) ?_
      refine ⟨_, rfl, am, ns, _, _, rfl, hA6.kp k10, ok3, fun H11 s11 => ⟨_, rfl, rfl, ?_⟩⟩
      rw [decide_eq_true rfl]
      have sE : Same H5 H11 := s6.trans (s69.trans (s10.trans s11))
      exact q H11 (D5.same sE) (M05.trans (Mv.of sE))
end
end KX
namespace GL
open PySem PySem.Spec PyProof.Rows L2
section
variable {X : Cx} {K : PySem.W.Frag} {o e : Expr} {es : List Expr} {to : TE} {t : TA} {name : Str} {apos cpos : Pos} {Ty id : String} {r : V → List V → Hp → VK → Prop}
theorem call_len_seqK (h : X.K = K := by rfl) : CallR X (.builtin "len") (fun xs H Q => ∃ p ys, xs = [.ref p] ∧ (SqL K H p ys ∨ SqT K H p ys) ∧ Q (.int ys.length) H) := h ▸ call_len_seq
theorem pe_bmK (pa : PlainAttrs Ty) (slot : Slot Ty name id) (hty : typeOf (.builtin id) = pure (.type "method_descriptor")) (hm : MtR X id r) (ho : PE X o to) (ha : PA X (e :: es) t) (h : X.K = K := by rfl)
    (hbase : attributeBase o name X.env (eval o X.env) = eval o X.env := by rfl)
    (hfew : ((backTo cpos (starEach (e :: es) X.env)).all (fun x => !x.1) && (backToKw cpos (keywordEach [] X.env)).all (fun x => x.1.isSome)
      && decide ((e :: es).length + ([] : List Keyword).length + (if ([] : List Keyword).isEmpty then 0 else 1) < 30)) = true := by rfl)
    (hline : (apos.endLine == cpos.line) = true := by rfl) (hs : starEach (e :: es) X.env = (false, eval e X.env) :: starEach es X.env := by rfl) (hplain : (backTo cpos (starEach es X.env)).any (·.1) = false := by rfl) :
    PE X (.Call (.Attribute o name apos) (e :: es) [] cpos) (tBM K Ty r to t) := h ▸ pe_bm pa slot hty hm ho ha hbase hfew hline hs hplain
end
end GL
namespace KX
open PySem PySem.Spec PyProof.Rows L2 GL RZ TL
theorem nice_sys9 {ns : List Str} {rows rests : List Line} (k : SysOk ns rows rests) : Nice 9009 4 (sysD ns rows rests) := by
  have h : ∀ d ∈ [PyData.tuple (ns.map PyData.str), PyData.tuple (rows.map lnD), PyData.tuple (rests.map lnD)], Nice 3000 3 d := fun d hd => by
    rcases List.mem_cons.mp hd with rfl | hd
    · exact (nice_wds k.wd k.nl).mono (by decide) (by decide)
    rcases List.mem_cons.mp hd with rfl | hd
    · exact (nice_lns k.rk k.rl).mono (by decide) (by decide)
    · rw [List.mem_singleton.mp hd]
      exact (nice_lns k.sk k.sl).mono (by decide) (by decide)
  exact Nice.lst (n := 3) h (Nat.le_refl _)
theorem nice_shown {ns : List Str} {rows rests : List Line} (k : SysOk ns rows rests) : Nice 99999 1 (.list [.str (shownOf ns rows rests)]) := by
  have l := (nice_sys9 k).sz
  have h : ∀ d ∈ [PyData.str (shownOf ns rows rests)], Nice 90092 0 d := fun d hd => by
    rw [List.mem_singleton.mp hd]
    exact Nice.str (n := 9009) (by rw [← str_len]; exact l) (asc_shown k)
  exact (Nice.lst (n := 1) h (Nat.le_refl _)).mono (by decide) (by decide)
theorem erase_map {α β : Type} (f : α → β) : ∀ (l : List α) (k : Nat), (l.map f).eraseIdx k = (l.eraseIdx k).map f
  | [], _ => rfl
  | _ :: _, 0 => rfl
  | a :: l, k + 1 => by
    show f a :: (l.map f).eraseIdx k = f a :: (l.eraseIdx k).map f
    rw [erase_map f l k]
theorem pick_none (ls : List Line) : pick [] ls ls.length = ls := by
  have h : ∀ i, i ≤ ls.length → pick [] ls i = ls.take i := by
    intro i
    induction i with
    | zero => exact fun _ => rfl
    | succ i ih =>
      intro hi
      have li : i < ls.length := by omega
      rw [pick_step (List.getElem?_eq_getElem li), if_neg (fun z => nomatch z), ih (by omega), List.take_add_one, List.getElem?_eq_getElem li]
      rfl
  rw [h _ (Nat.le_refl _), List.take_length]
theorem pick_mem {idx : List Int} {ls : List Line} {i : Nat} {l : Line} (h : l ∈ pick idx ls i) : l ∈ ls := by
  unfold pick at h
  obtain ⟨k, _, e⟩ := List.mem_filterMap.mp h
  exact List.mem_of_getElem? e
section
variable {P : Program} {w : World} {K : PySem.W.Frag} {mg : Str → Option Value} {base : Heap}
abbrev spWo (K : PySem.W.Frag) (C : Addr) : Sp := fun vs H Q E => ∃ ws rest, vs = ws ++ rest ∧ ws.length = ([("self" : Str)]).length ∧ rest.length ≤ sizeLine ∧ ∀ p, H p = Option.none → spWithout K C (ws ++ [V.ref p]) (upd H p (.tup rest)) Q E
abbrev s_without_right : Stmt := topS 37
abbrev stW (d am : Addr) (sh : Str) (sp Dg e : Addr) : L2.St := (((((L2.start ["_law_deck_here", "_law_made_here", "_law_shown_here", "_law_spots", "_law_gone", "_law_k", "_law_told", "_law_left", "_law_at", "_law_row"] [V.ref d]).set 1 (some (V.ref am))).set 2 (some (V.str sh))).set 3 (some (V.ref sp))).set 4 (some (V.ref Dg))).set 6 (some (V.ref e))
def tld (G : List Int) (RL : List Line) (n : Nat) : List Line := if 1 ≤ G.length ∧ G.length ≤ n then pick G RL RL.length else RL
theorem tld0 (G : List Int) (RL : List Line) : tld G RL 0 = RL := if_neg fun h => by omega
theorem tld_ne {G : List Int} {RL : List Line} {n : Nat} (h : ¬ G.length = n + 1) : tld G RL (n + 1) = tld G RL n := by
  unfold tld
  by_cases c : 1 ≤ G.length ∧ G.length ≤ n
  · rw [if_pos c, if_pos ⟨c.1, by omega⟩]
  · rw [if_neg c, if_neg (fun z => c ⟨z.1, by omega⟩)]
theorem tld_all {G : List Int} {RL : List Line} (h : G.length ≤ 4) : tld G RL 4 = pick G RL RL.length := by
  unfold tld
  by_cases c : 1 ≤ G.length ∧ G.length ≤ 4
  · rw [if_pos c]
  · rw [if_neg c]
    cases G with
    | nil => exact (pick_none RL).symm
    | cons a G => exact absurd ⟨Nat.succ_le_succ (Nat.zero_le _), h⟩ c
theorem tld1 {a : Int} {RL : List Line} : tld [a] RL 1 = pick [a] RL RL.length := if_pos ⟨Nat.le_refl _, Nat.le_refl _⟩
theorem tld2 {a b : Int} {RL : List Line} : tld [a, b] RL 2 = pick [a, b] RL RL.length := if_pos ⟨(by decide : 1 ≤ 2), Nat.le_refl _⟩
theorem tld3 {a b c : Int} {RL : List Line} : tld [a, b, c] RL 3 = pick [a, b, c] RL RL.length := if_pos ⟨(by decide : 1 ≤ 3), Nat.le_refl _⟩
theorem tld4 {a b c d : Int} {RL : List Line} : tld [a, b, c, d] RL 4 = pick [a, b, c, d] RL RL.length := if_pos ⟨(by decide : 1 ≤ 4), Nat.le_refl _⟩
theorem len1 {G : List Int} (h : G.length = 1) : ∃ a, G = [a] := match G, h with | [_], _ => ⟨_, rfl⟩
theorem len2 {G : List Int} (h : G.length = 2) : ∃ a b, G = [a, b] := match G, h with | [_, _], _ => ⟨_, _, rfl⟩
theorem len3 {G : List Int} (h : G.length = 3) : ∃ a b c, G = [a, b, c] := match G, h with | [_, _, _], _ => ⟨_, _, _, rfl⟩
theorem len4 {G : List Int} (h : G.length = 4) : ∃ a b c d, G = [a, b, c, d] := match G, h with | [_, _, _, _], _ => ⟨_, _, _, _, rfl⟩
def midW (K : PySem.W.Frag) (C : Addr) (d am : Addr) (sh : Str) (sp Dg : Addr) (ns : List Str) (RL SL : List Line) (G : List Int) (H10 : Hp) (n : Nat) : L2.St → Hp → Prop := fun σ' H' => ∃ e, σ' = stW d am sh sp Dg e ∧ SysAt K C H' e ns (tld G RL n) SL ∧ Same H10 H'
theorem sc_without_right : FnScope ["_law_deck_here", "_law_made_here", "_law_shown_here", "_law_spots", "_law_gone", "_law_k", "_law_told", "_law_left", "_law_at", "_law_row"] ["_law_deck_here"] (defScope s_without_right) := ⟨rfl, rfl, rfl, by decide +kernel, rfl, by decide +kernel, by decide +kernel⟩
theorem ok_without_right {f C fW : Addr} {fd : FuncData} (F : Fun K "_law_without_right" "_law_without_right" s_without_right f fd) (gl : mg "_law_without_right" = some (.ref f)) (T : Bl mg) (zl : mg "list" = none) (S : Sys K mg C)
    (D_draw : DefG P w K mg base 1 "_law_draw" ["_law_deck_here", "_law_many"] spDraw) (D_called : DefG P w K mg base 3 "_law_called" ["_law_deck_here", "_law_many"] (spCalled K))
    (D_made : DefG P w K mg base 4 "_law_made" ["_law_deck_here", "_law_called_here", "_law_tall", "_law_more"] (spMade K C)) (D_shown : DefG P w K mg base 1 "_law_shown" ["_law_made_here"] (spShown K C))
    (MW : Meth K C "without" fW) (FW : FnRG P w K mg base CX0 3 fW (spWo K C)) :
    DefG P w K mg base 5 "_law_without_right" ["_law_deck_here"] spRight := by
  refine def_mk F gl (F.binds fun _ _ _ _ _ _ us hl => match us, hl with | [_], _ => rfl) (okG F sc_without_right (fun vs H Q E h => ?_) fun cdv A outer s H vs Q E hr hc h => ?_)
  · obtain ⟨d, g, rfl, _⟩ := h
    rfl
  · obtain ⟨d, g, rfl, D, q⟩ := h
    have nd := sc_without_right.nd
    have hu64 := hr.units
    have hu100 : (A.deeper (envOfC "_law_without_right" (defScope s_without_right) s.heap.objs.size f cdv)).units + 100 < cLine := by have := hr.un; omega
    refine ⟨_, (pss_cons (ps_set (i := 1) nd rfl (by first | exact Or.inl rfl | exact Or.inr rfl) (pe_def D_made (hr.mono (by decide)) hc (by rfl) (pa_cons (pv 0) (pa_cons (pe_def D_called (hr.mono (by decide)) hc (by rfl) (pa_cons (pv 0) (pa_cons (pe_op op_add pe_int (pe_def D_draw (hr.mono (by decide)) hc (by rfl) (pa_cons (pv 0) (pa_cons pe_int pa_nil)))) pa_nil))) (pa_cons pe_int (pa_cons pe_int pa_nil))))))
      (pss_cons (ps_asg (pe_tup (pa_cons (pe_def D_shown (hr.mono (by decide)) hc (by rfl) (pa_cons (pv 1) pa_nil)) (pa_cons (pe_listRg rfl (by rfl) zl (prg_1 (by rfl) T.range (pe_callB call_len_seq (by rfl) T.len boot_len (pa_cons (pe_fld (pv 1) rfl) pa_nil)))) pa_nil))) (pg_tup rfl (pgs_cons (pg_name (i := 2) nd rfl (by first | exact Or.inl rfl | exact Or.inr rfl)) (pgs_cons (pg_name (i := 3) nd rfl (by first | exact Or.inl rfl | exact Or.inr rfl)) pgs_nil))))
      (pss_cons (ps_if (pt_cmpR op_ne (pe_callB (call_reprN hc hu100) (by rfl) T.repr boot_repr (pa_cons (pe_lst (pa_cons (pe_def D_shown (hr.mono (by decide)) hc (by rfl) (pa_cons (pe_methRG0 (pv 1) S.cl MW FW (hr.mono (by decide)) hc pass0) pa_nil)) pa_nil)) pa_nil)) (pe_callB (call_reprN hc hu100) (by rfl) T.repr boot_repr (pa_cons (pe_lst (pa_cons (pv 2) pa_nil)) pa_nil)) (nomark _))
        (pss_one (ps_ret pe_bl))
        pss_nil)
      (pss_cons (ps_set (i := 4) nd rfl (by first | exact Or.inl rfl | exact Or.inr rfl) (pe_lc (own := [("_law_k", 5)]) (g := (gName 5)) (tt := tYes) rfl nd (pi_range1 (by rfl) T.range (pa_cons (pe_def D_draw (hr.mono (by decide)) hc (by rfl) (pa_cons (pv 0) (pa_cons (pe_op op_add (pe_callB call_len_seq (by rfl) T.len boot_len (pa_cons (pv 3) pa_nil)) pe_int) pa_nil))) pa_nil)) (blkOk_by (own := [("_law_k", 5)]) (N := ["_law_deck_here", "_law_made_here", "_law_shown_here", "_law_spots", "_law_gone", "_law_k", "_law_told", "_law_left", "_law_at", "_law_row"]) (sc := defScope s_without_right) (by decide +kernel)) (fun _ _ _ _ _ => (pg_name (i := 5) nd rfl (by first | exact Or.inl rfl | exact Or.inr rfl))) (fun _ _ _ _ _ => pts_nil) (fun _ _ _ _ _ => (pe_bmK (K := K) PySem.F.plainAttrs_list PySem.F.slot_list_pop PySem.F.type_list_pop mt_popAt (pv 3) (pa_cons (pe_def D_draw (hr.mono (by decide)) hc (by rfl) (pa_cons (pv 0) (pa_cons (pe_callB (call_len_seqK (K := K)) (by rfl) T.len boot_len (pa_cons (pv 3) pa_nil)) pa_nil))) pa_nil)))))
      (pss_cons (ps_set (i := 6) nd rfl (by first | exact Or.inl rfl | exact Or.inr rfl) (pv 1))
      (C8.pss_cut (ps_if (pt_cmpR op_eq (pe_callB call_len_seq (by rfl) T.len boot_len (pa_cons (pv 4) pa_nil)) pe_int (nomark _))
        (pss_one (ps_set (i := 6) nd rfl (by first | exact Or.inl rfl | exact Or.inr rfl) (pe_methRG (pv 1) S.cl MW FW (hr.mono (by decide)) hc pass0 (pa_cons (pe_ix ix_list (pv 4) pe_int (fun _ _ => rfl)) pa_nil))))
        pss_nil)
      (C8.pss_cut (ps_if (pt_cmpR op_eq (pe_callB call_len_seq (by rfl) T.len boot_len (pa_cons (pv 4) pa_nil)) pe_int (nomark _))
        (pss_one (ps_set (i := 6) nd rfl (by first | exact Or.inl rfl | exact Or.inr rfl) (pe_methRG (pv 1) S.cl MW FW (hr.mono (by decide)) hc pass0 (pa_cons (pe_ix ix_list (pv 4) pe_int (fun _ _ => rfl)) (pa_cons (pe_ix ix_list (pv 4) pe_int (fun _ _ => rfl)) pa_nil)))))
        pss_nil)
      (C8.pss_cut (ps_if (pt_cmpR op_eq (pe_callB call_len_seq (by rfl) T.len boot_len (pa_cons (pv 4) pa_nil)) pe_int (nomark _))
        (pss_one (ps_set (i := 6) nd rfl (by first | exact Or.inl rfl | exact Or.inr rfl) (pe_methRG (pv 1) S.cl MW FW (hr.mono (by decide)) hc pass0 (pa_cons (pe_ix ix_list (pv 4) pe_int (fun _ _ => rfl)) (pa_cons (pe_ix ix_list (pv 4) pe_int (fun _ _ => rfl)) (pa_cons (pe_ix ix_list (pv 4) pe_int (fun _ _ => rfl)) pa_nil))))))
        pss_nil)
      (C8.pss_cut (ps_if (pt_cmpR op_eq (pe_callB call_len_seq (by rfl) T.len boot_len (pa_cons (pv 4) pa_nil)) pe_int (nomark _))
        (pss_one (ps_set (i := 6) nd rfl (by first | exact Or.inl rfl | exact Or.inr rfl) (pe_methRG (pv 1) S.cl MW FW (hr.mono (by decide)) hc pass0 (pa_cons (pe_ix ix_list (pv 4) pe_int (fun _ _ => rfl)) (pa_cons (pe_ix ix_list (pv 4) pe_int (fun _ _ => rfl)) (pa_cons (pe_ix ix_list (pv 4) pe_int (fun _ _ => rfl)) (pa_cons (pe_ix ix_list (pv 4) pe_int (fun _ _ => rfl)) pa_nil)))))))
        pss_nil)
      (pss_cons (ps_set (i := 7) nd rfl (by first | exact Or.inl rfl | exact Or.inr rfl) (pe_tupleOf (by rfl) T.tuple (pe_lc (own := [("_law_at", 8), ("_law_row", 9)]) (g := (gTup K 2 (gCons (gName 8) (gCons (gName 9) gNil)))) rfl nd (pi_enumT (by rfl) T.enumerate (pa_cons (pe_fld (pv 1) rfl) pa_nil)) (blkOk_by (own := [("_law_at", 8), ("_law_row", 9)]) (N := ["_law_deck_here", "_law_made_here", "_law_shown_here", "_law_spots", "_law_gone", "_law_k", "_law_told", "_law_left", "_law_at", "_law_row"]) (sc := defScope s_without_right) (by decide +kernel)) (fun _ _ _ _ _ => (pg_tup rfl (pgs_cons (pg_name (i := 8) nd rfl (by first | exact Or.inl rfl | exact Or.inr rfl)) (pgs_cons (pg_name (i := 9) nd rfl (by first | exact Or.inl rfl | exact Or.inr rfl)) pgs_nil)))) (fun _ _ _ _ _ => (pts_one (pt_cmpR (op_notInK (K := K)) (pv 8) (pv 4) (by with_unfolding_all rfl)))) (fun _ _ _ _ _ => (pv 9)))))
      (pss_one (ps_ret (pe_and (pe_cmpR op_eq (pe_def D_shown (hr.mono (by decide)) hc (by rfl) (pa_cons (pv 6) pa_nil)) (pe_callB (call_reprN hc hu100) (by rfl) T.repr boot_repr (pa_cons (pe_lst (pa_cons (pe_fld (pv 1) rfl) (pa_cons (pv 7) (pa_cons (pe_fld (pv 1) rfl) pa_nil)))) pa_nil)) (nomark _)) (pe_one (pe_cmpR op_eq (pe_def D_shown (hr.mono (by decide)) hc (by rfl) (pa_cons (pv 1) pa_nil)) (pv 2) (nomark _)))))))))))))))), ?_⟩
    -- made
    refine ⟨_, rfl, _, rfl, _, rfl, d, g, 4, rfl, D, by decide, by decide, fun r H1 r0 r1 D1 M1 => ⟨1, r, rfl, rfl, d, g, _, rfl, D1, by omega, by omega, fun tn ns H2 D2 M2 hN hl hw hnd => ?_⟩⟩
    refine ⟨d, g, tn, ns, 4, 2, rfl, D2, hN, by omega, by omega, by decide, by decide, by decide, by decide, fun am H3 rows rests D3 M3 hA rl sl fR fS => ?_⟩
    have M03 : Mv d g H H3 := M1.trans (M2.trans M3)
    have lr : (rows.map lnR).length ≤ 4 := by rw [List.length_map]; omega
    have ls5 : (rests.map lnS).length ≤ 5 := by rw [List.length_map]; omega
    have ok3 : SysOk ns (rows.map lnR) (rests.map lnS) := ⟨by omega, hw, by omega, row_ok fR (by omega), ls5, rst_ok fS (by omega)⟩
    revert hA ok3 lr ls5
    generalize rows.map lnR = RL
    generalize rests.map lnS = SL
    intro hA lr ls5 ok3
    -- shown, spots
    obtain ⟨dx, mn, mr, mt, hi3, p3⟩ := id hA
    obtain ⟨xs, a3, b3⟩ := p3.rows
    have lx : xs.length = RL.length := b3.len
    refine ⟨_, rfl, am, ns, _, _, rfl, hA, ok3, fun H4 s4 => ⟨_, rfl, am, C, dx, _, _, rfl, s4 _ _ hi3, S.cl, S.nR, f_rows _ _ _, mr, xs, rfl, .inr ((Kp.of s4).tup a3), _, rfl, RgOk.of_le (by omega) (by omega) (by omega) (by omega), fun sp nsp => ⟨(show 2 ≤ sizeLine from small (by decide)), fun tq ntq => ⟨tq, _, rfl, tofT upd_same, rfl, _, _, rfl, _, _, rfl, rfl, ?_⟩⟩⟩⟩
    have eL : rgV 0 (xs.length : Nat) = ((List.range RL.length).map fun (i : Nat) => (i : Int)).map V.int := by
      unfold rgV
      rw [List.map_map, show (((xs.length : Nat) : Int) - 0).toNat = RL.length by omega]
      refine List.map_congr_left fun i _ => ?_
      show V.int (0 + (i : Nat)) = V.int (i : Int)
      rw [Int.zero_add]
    rw [eL] at ntq ⊢
    have offs := ((D3.same s4)).off nsp
    have nspH : H sp = none := (M03.trans (Mv.of s4)).free D (D3.same s4) nsp
    have s5 : Same H3 (upd (upd H4 sp (.lst (((List.range RL.length).map fun (i : Nat) => (i : Int)).map V.int))) tq (.tup [.str (shownOf ns RL SL), .ref sp])) := s4.trans ((Same.new nsp).trans (Same.new ntq))
    have hsp5 : upd (upd H4 sp (.lst (((List.range RL.length).map fun (i : Nat) => (i : Int)).map V.int))) tq (.tup [.str (shownOf ns RL SL), .ref sp]) sp = some (.lst (((List.range RL.length).map fun (i : Nat) => (i : Int)).map V.int)) := Same.new ntq _ _ upd_same
    revert s5 hsp5
    generalize upd (upd H4 sp (.lst (((List.range RL.length).map fun (i : Nat) => (i : Int)).map V.int))) tq (.tup [.str (shownOf ns RL SL), .ref sp]) = H5
    intro s5 hsp5
    have D5 := D3.same s5
    have hA5 := hA.kp (Kp.of s5)
    have nof : (flds (.ref mn) (.ref mr) (.ref mt)).lookup ("without" : Str) = none := f_no _ _ _ (by decide +kernel) (by decide +kernel) (by decide +kernel)
    have okP : ∀ idx : List Int, SysOk ns (pick idx RL RL.length) SL := fun idx => ⟨ok3.nl, ok3.wd, Nat.le_trans (pick_len idx RL _) (by omega), fun l h => ok3.rk l (pick_mem h), ok3.sl, ok3.sk⟩
    -- repr([shown(made.without())]) != repr([shown_here])
    refine ⟨_, rfl, am, dx, _, rfl, s5 _ _ hi3, nof, [.ref am], [], rfl, rfl, Nat.zero_le _, fun p np => ⟨am, p, ns, RL, SL, [], rfl, hA5.kp (Kp.of (Same.new np)), tofT upd_same, (show 0 ≤ 40 by decide), by omega, fun e H6 s6 hE => ?_⟩⟩
    rw [pick_none] at hE
    refine ⟨e, ns, RL, SL, rfl, hE, ok3, fun H7 s7 => ⟨(show 1 ≤ sizeLine from small (by decide)), fun l1 nl1 => ⟨l1, .list [.str (shownOf ns RL SL)], 99999, 1, rfl, .lst (tofL upd_same) (.cons (.str _) .nil), nice_shown ok3, by decide, by decide, _, rfl, (show 1 ≤ sizeLine from small (by decide)), fun l2 nl2 => ⟨l2, .list [.str (shownOf ns RL SL)], 99999, 1, rfl, .lst (tofL upd_same) (.cons (.str _) .nil), nice_shown ok3, by decide, by decide, rfl, ?_⟩⟩⟩⟩
    generalize (PyData.list [PyData.str (shownOf ns RL SL)]).shown = sh
    refine ⟨_, rfl, iteNS rfl ?_⟩
    have s57 : Same H5 (upd (upd H7 l1 (.lst [.str (shownOf ns RL SL)])) l2 (.lst [.str (shownOf ns RL SL)])) := (Same.new np).trans (s6.trans (s7.trans ((Same.new nl1).trans (Same.new nl2))))
    revert s57
    generalize upd (upd H7 l1 (.lst [.str (shownOf ns RL SL)])) l2 (.lst [.str (shownOf ns RL SL)]) = H8
    intro s57
    have D8 := D5.same s57
    have hsp8 := s57 _ _ hsp5
    have M08 : Mv d g H H8 := M03.trans ((Mv.of s5).trans (Mv.of s57))
    have hA8 := hA5.kp (Kp.of s57)
    -- gone
    refine ⟨_, rfl, _, rfl, sp, _, rfl, .inl (tofL hsp8), _, 1, rfl, rfl, d, g, _, rfl, D8, by omega, by rw [List.length_map, List.length_map, List.length_range]; omega, fun r8 H9 r80 r81 D9 M9 => ⟨r8, rfl, by omega, by rw [List.length_map, List.length_map, List.length_range] at r81; omega, fun Dg nDg => ?_⟩⟩
    rw [List.length_map, List.length_map, List.length_range] at r81
    have hsp9 := M9.at hsp8 offs
    have offg := D9.off nDg
    have nDgH : H Dg = none := (M08.trans M9).free D D9 nDg
    have nsg : sp ≠ Dg := ne_of_none hsp9 nDg
    have k89 := Kp.mv D8 M9
    refine lc_range (fun i Hx => Deck Hx d g ∧ Mv d g H Hx ∧ Kp H8 Hx ∧ ∃ L G : List Int, Hx sp = some (.lst (L.map V.int)) ∧ Hx Dg = some (.lst (G.map V.int)) ∧ L.length + i = RL.length ∧ G.length = i)
      ⟨D9.new nDg, (M08.trans M9).trans (Mv.of (Same.new nDg)), k89.trans (Kp.of (Same.new nDg)), (List.range RL.length).map (fun (i : Nat) => (i : Int)), [], by rw [upd_ne nsg]; exact hsp9, upd_same, by rw [List.length_map, List.length_range]; rfl, rfl⟩ ?_ ?_
    · rintro i Hx hi ⟨Dx, Mx, kx, L, G, hL, hG, hl', hg'⟩
      refine ⟨rfl, _, rfl, ty_l (tofL hL), _, rfl, _, rfl, sp, _, rfl, .inl (tofL hL), d, g, _, rfl, Dx, by rw [List.length_map]; omega, by rw [List.length_map]; omega, fun r9 Hy r90 r91 Dy My => ?_⟩
      rw [List.length_map] at r91
      have hLy := My.at hL offs
      have hGy := My.at hG offg
      have j1 : r9.toNat < L.length := by omega
      refine ⟨sp, _, r9, r9.toNat, .int L[r9.toNat], rfl, rfl, hLy, by omega, by omega, (ixN_seq (ixN_of r90 (by rw [List.length_map]; exact r91))).1, map_at j1, ?_⟩
      have em : (L.map V.int).eraseIdx r9.toNat = (L.eraseIdx r9.toNat).map V.int := erase_map V.int L _
      rw [em]
      refine ⟨_, by rw [upd_ne nsg.symm]; exact hGy, by rw [List.length_map]; exact smallt (by omega), (Dy.mut offs).mut offg, ((Mx.trans My).mut nspH).mut nDgH, ?_, L.eraseIdx r9.toNat, G ++ [L[r9.toNat]], ?_, ?_, ?_, ?_⟩
      · intro b o hb h1 h2
        have hy := (kx.trans (Kp.mv Dx My)) b o hb h1 h2
        rw [upd_ne (fun z => by rw [z, hGy] at hy; exact h1 _ (Option.some.inj hy).symm), upd_ne (fun z => by rw [z, hLy] at hy; exact h1 _ (Option.some.inj hy).symm)]
        exact hy
      · rw [upd_ne nsg, upd_same]
      · rw [upd_same, List.map_append]; rfl
      · rw [List.length_eraseIdx_of_lt j1]; omega
      · rw [List.length_append, hg']; rfl
    rintro H10 ⟨D10, M10, k10, L, G, hL, hG, hl', hg'⟩
    clear hsp8 hsp5 offs
    have hA10 := hA8.kp k10
    have i10 : H10 am = some (.ins C dx (flds (.ref mn) (.ref mr) (.ref mt))) := k10.ins (s57 _ _ (s5 _ _ hi3))
    have s10 : Same H10 H10 := fun _ _ z => z
    refine ⟨_, rfl, ?_⟩
    refine ⟨midW K C d am (shownOf ns RL SL) sp Dg ns RL SL G H10 1, ?_, ?_⟩
    · refine ⟨_, rfl, Dg, _, rfl, .inl (tofL (s10 _ _ hG)), rfl, _, rfl, ite2 (fun w => ?_) (fun w => ?_)⟩
      · have w1 : G.length = 1 := by have := V.int.inj (of_decide_eq_true w); rw [List.length_map] at this; omega
        obtain ⟨a, eG⟩ := len1 w1
        subst eG
        refine ⟨_, rfl, am, dx, _, rfl, s10 _ _ i10, nof, _, rfl, Dg, _, _, _, rfl, rfl, (tofL (s10 _ _ hG)), rfl, [.ref am], [.int a], rfl, rfl, (show 1 ≤ sizeLine from small (by decide)), fun p np => ⟨am, p, ns, RL, SL, [a], rfl, hA10.kp (Kp.of (Same.trans s10 (Same.new np))), tofT upd_same, (show 1 ≤ 40 by decide), by omega, fun e H31 sz hE => ?_⟩⟩
        exact ⟨e, rfl, by rw [tld1]; exact hE, Same.trans s10 ((Same.new np).trans sz)⟩
      · exact ⟨am, rfl, by rw [tld_ne (n := 0) (fun z => w (decide_eq_true (by rw [List.length_map, z]; rfl))), tld0]; exact hA10, fun _ _ z => z⟩
    rintro σ1 H11 ⟨e1, rfl, he1, s11⟩
    refine ⟨midW K C d am (shownOf ns RL SL) sp Dg ns RL SL G H10 2, ?_, ?_⟩
    · refine ⟨_, rfl, Dg, _, rfl, .inl (tofL (s11 _ _ hG)), rfl, _, rfl, ite2 (fun w => ?_) (fun w => ?_)⟩
      · have w1 : G.length = 2 := by have := V.int.inj (of_decide_eq_true w); rw [List.length_map] at this; omega
        obtain ⟨a, b, eG⟩ := len2 w1
        subst eG
        refine ⟨_, rfl, am, dx, _, rfl, s11 _ _ i10, nof, _, rfl, Dg, _, _, _, rfl, rfl, (tofL (s11 _ _ hG)), rfl, _, rfl, Dg, _, _, _, rfl, rfl, (tofL (s11 _ _ hG)), rfl, [.ref am], [.int a, .int b], rfl, rfl, (show 2 ≤ sizeLine from small (by decide)), fun p np => ⟨am, p, ns, RL, SL, [a, b], rfl, hA10.kp (Kp.of (Same.trans s11 (Same.new np))), tofT upd_same, (show 2 ≤ 40 by decide), by omega, fun e H32 sz hE => ?_⟩⟩
        exact ⟨e, rfl, by rw [tld2]; exact hE, Same.trans s11 ((Same.new np).trans sz)⟩
      · exact ⟨e1, rfl, by rw [tld_ne (n := 1) (fun z => w (decide_eq_true (by rw [List.length_map, z]; rfl)))]; exact he1, s11⟩
    rintro σ2 H12 ⟨e2, rfl, he2, s12⟩
    refine ⟨midW K C d am (shownOf ns RL SL) sp Dg ns RL SL G H10 3, ?_, ?_⟩
    · refine ⟨_, rfl, Dg, _, rfl, .inl (tofL (s12 _ _ hG)), rfl, _, rfl, ite2 (fun w => ?_) (fun w => ?_)⟩
      · have w1 : G.length = 3 := by have := V.int.inj (of_decide_eq_true w); rw [List.length_map] at this; omega
        obtain ⟨a, b, c, eG⟩ := len3 w1
        subst eG
        refine ⟨_, rfl, am, dx, _, rfl, s12 _ _ i10, nof, _, rfl, Dg, _, _, _, rfl, rfl, (tofL (s12 _ _ hG)), rfl, _, rfl, Dg, _, _, _, rfl, rfl, (tofL (s12 _ _ hG)), rfl, _, rfl, Dg, _, _, _, rfl, rfl, (tofL (s12 _ _ hG)), rfl, [.ref am], [.int a, .int b, .int c], rfl, rfl, (show 3 ≤ sizeLine from small (by decide)), fun p np => ⟨am, p, ns, RL, SL, [a, b, c], rfl, hA10.kp (Kp.of (Same.trans s12 (Same.new np))), tofT upd_same, (show 3 ≤ 40 by decide), by omega, fun e H33 sz hE => ?_⟩⟩
        exact ⟨e, rfl, by rw [tld3]; exact hE, Same.trans s12 ((Same.new np).trans sz)⟩
      · exact ⟨e2, rfl, by rw [tld_ne (n := 2) (fun z => w (decide_eq_true (by rw [List.length_map, z]; rfl)))]; exact he2, s12⟩
    rintro σ3 H13 ⟨e3, rfl, he3, s13⟩
    refine ⟨midW K C d am (shownOf ns RL SL) sp Dg ns RL SL G H10 4, ?_, ?_⟩
    · refine ⟨_, rfl, Dg, _, rfl, .inl (tofL (s13 _ _ hG)), rfl, _, rfl, ite2 (fun w => ?_) (fun w => ?_)⟩
      · have w1 : G.length = 4 := by have := V.int.inj (of_decide_eq_true w); rw [List.length_map] at this; omega
        obtain ⟨a, b, c, d0, eG⟩ := len4 w1
        subst eG
        refine ⟨_, rfl, am, dx, _, rfl, s13 _ _ i10, nof, _, rfl, Dg, _, _, _, rfl, rfl, (tofL (s13 _ _ hG)), rfl, _, rfl, Dg, _, _, _, rfl, rfl, (tofL (s13 _ _ hG)), rfl, _, rfl, Dg, _, _, _, rfl, rfl, (tofL (s13 _ _ hG)), rfl, _, rfl, Dg, _, _, _, rfl, rfl, (tofL (s13 _ _ hG)), rfl, [.ref am], [.int a, .int b, .int c, .int d0], rfl, rfl, (show 4 ≤ sizeLine from small (by decide)), fun p np => ⟨am, p, ns, RL, SL, [a, b, c, d0], rfl, hA10.kp (Kp.of (Same.trans s13 (Same.new np))), tofT upd_same, (show 4 ≤ 40 by decide), by omega, fun e H34 sz hE => ?_⟩⟩
        exact ⟨e, rfl, by rw [tld4]; exact hE, Same.trans s13 ((Same.new np).trans sz)⟩
      · exact ⟨e3, rfl, by rw [tld_ne (n := 3) (fun z => w (decide_eq_true (by rw [List.length_map, z]; rfl)))]; exact he3, s13⟩
    rintro σ4 H14 ⟨e4, rfl, he4, s14⟩
    rw [tld_all (by omega)] at he4
    have i14 : H14 am = some (.ins C dx (flds (.ref mn) (.ref mr) (.ref mt))) := s14 _ _ i10
    have hA14 : SysAt K C H14 am ns RL SL := hA10.kp (Kp.of s14)
    have p14 : Parts K H14 mn mr mt ns RL SL := (((p3.kp (Kp.of s5)).kp (Kp.of s57)).kp k10).kp (Kp.of s14)
    obtain ⟨xs14, a14, b14⟩ := p14.rows
    have l14 := b14.len
    have gG : H14 Dg = some (.lst (G.map V.int)) := s14 _ _ hG
    refine ⟨_, rfl, am, C, dx, _, _, rfl, i14, S.cl, S.nR, f_rows _ _ _, mr, _, rfl, a14, fun Dr nDr => ?_⟩
    refine lc_it (walk_enumT (K := K) (a := mr) (xs := xs14)) (fun i H2 => Same H14 H2 ∧ ∃ ys, H2 Dr = some (.lst ys) ∧ LnAt H2 ys (pick G RL i)) ⟨Same.new nDr, [], upd_same, .nil⟩ (fun i H2 _ h => (Kp.of h.1).tup a14) ?_ ?_
    · rintro i x H2 H3 hi ⟨s2, ys, hD, hY⟩ ⟨t2, u, v, rfl, nt, rfl, f1, f2⟩
      have e1 : u = .int (i : Nat) := (Option.some.inj f1).symm
      subst e1
      obtain ⟨p, q', fs, ms, rfl, hp, hq', hl⟩ := (b14.to (Kp.of s2).tups).get f2
      have il := (List.getElem?_eq_some_iff.mp hl).1
      have nDt : Dr ≠ t2 := ne_of_none hD nt
      have ps := pick_step (idx := G) hl
      have pl := pick_len G RL i
      have sn := Same.new (o := .tup [V.int (i : Nat), .ref p]) nt
      refine ⟨t2, _, rfl, tofT upd_same, rfl, _, _, rfl, _, _, rfl, rfl, rfl, ?_⟩
      refine ⟨_, rfl, _, rfl, Dg, _, rfl, .inl (tofL (sn _ _ (s2 _ _ gG))), rfl, flat_ints G, _, rfl, ?_⟩
      rw [if_pos rfl, inV_ints]
      refine ite2 (fun e => ?_) (fun e => ?_)
      · have e' : ¬ (i : Int) ∈ G := by simpa using e
        rw [if_neg e'] at ps
        refine ⟨_, rfl, _, sn _ _ hD, ?_, ?_, _, upd_same, ?_⟩
        · rw [hY.len]; exact smallt (by omega)
        · intro c u hc'
          rw [upd_ne (ne_of_none hc' nDr)]
          exact sn _ _ (s2 _ _ hc')
        · rw [ps]
          have kt : ∀ b zs, H2 b = some (.tup zs) → upd (upd H2 t2 (.tup [V.int (i : Nat), .ref p])) Dr (.lst (ys ++ [.ref p])) b = some (.tup zs) := fun b zs hb => by
            rw [upd_ne (fun e => by rw [e, hD] at hb; cases hb)]
            exact sn _ _ hb
          exact (hY.to kt).snoc (kt _ _ hp) (kt _ _ hq')
      · have e' : (i : Int) ∈ G := by simpa using e
        rw [if_pos e', List.append_nil] at ps
        exact ⟨s2.trans sn, ys, sn _ _ hD, by rw [ps]; exact hY.to (Kp.of sn).tups⟩
    rintro H15 ⟨s15, ys, hD, hY⟩
    rw [l14] at hY
    refine .inl ⟨Dr, _, rfl, tofL hD, fun td ntd => ?_⟩
    have s16 : Same H14 (upd H15 td (.tup ys)) := s15.trans (Same.new ntd)
    have htd : upd H15 td (.tup ys) td = some (.tup ys) := upd_same
    have hY16 : LnAt (upd H15 td (.tup ys)) ys (pick G RL RL.length) := hY.to (Kp.of (Same.new ntd)).tups
    revert s16 htd hY16
    generalize upd H15 td (.tup ys) = H16
    intro s16 htd hY16
    -- shown(told) == repr([names, left, rests])
    refine ⟨_, rfl, e4, ns, _, _, rfl, he4.kp (Kp.of s16), okP G, fun H17 s17 => ?_⟩
    have s1417 : Same H14 H17 := s16.trans s17
    refine ⟨_, rfl, am, C, dx, _, _, rfl, s1417 _ _ i14, S.cl, S.nN, f_names _ _ _, _, rfl, _, rfl, am, C, dx, _, _, rfl, s1417 _ _ i14, S.cl, S.nS, f_rests _ _ _, (show 3 ≤ sizeLine from small (by decide)), fun l nl => ?_⟩
    have s18 : Same H17 (upd H17 l (.lst [.ref mn, .ref td, .ref mt])) := Same.new nl
    obtain ⟨ys3, c3, d3⟩ := p14.rests
    have k18 := Kp.of (s1417.trans s18)
    refine ⟨l, sysD ns (pick G RL RL.length) SL, 20000, 4, rfl, .lst (tofL upd_same) (.cons (.tup (k18.tup p14.names.t) (dpa_strs _)) (.cons (.tup (tofT (s18 _ _ (s17 _ _ htd))) (dp_lns (hY16.to (Kp.of (s17.trans s18)).tups))) (.cons (.tup (k18.tup c3) (dp_lns (d3.to k18.tups))) .nil))), nice_sys (okP G), by decide, by decide, rfl, ?_⟩
    refine ⟨_, rfl, ?_⟩
    refine iteY (decide_eq_true rfl) ?_
    refine ⟨_, rfl, am, ns, _, _, rfl, hA14.kp k18, ok3, fun H19 s19 => ⟨_, rfl, rfl, ?_⟩⟩
    rw [decide_eq_true rfl]
    have sE : Same H10 H19 := s14.trans (s1417.trans (s18.trans s19))
    exact q H19 (D10.same sE) (M10.trans (Mv.of sE))
end
end KX
namespace KX
open PySem PySem.Spec PyProof.Rows L2 GL RZ TL
/-! ### sums over names -/
theorem sum_erase {g : Str → Int} {a : Str} : ∀ {N : List Str}, a ∈ N → (N.map g).sum = g a + ((N.erase a).map g).sum
  | b :: N, h => by
    by_cases e : b = a
    · subst e
      rw [List.erase_cons_head]; rfl
    · have ha : a ∈ N := (List.mem_cons.mp h).resolve_left fun z => e z.symm
      rw [List.erase_cons_tail (by simpa using e)]
      show g b + (N.map g).sum = g a + (g b + ((N.erase a).map g).sum)
      rw [sum_erase ha]
      omega
theorem sum_zero {g : Str → Int} : ∀ {N : List Str}, (∀ z ∈ N, g z = 0) → (N.map g).sum = 0
  | [], _ => rfl
  | b :: N, h => by
    show g b + (N.map g).sum = 0
    rw [h b List.mem_cons_self, sum_zero fun z hz => h z (List.mem_cons_of_mem _ hz)]
    rfl
theorem sum_sub {g : Str → Int} : ∀ {old N : List Str}, old.Nodup → N.Nodup → (∀ z ∈ old, z ∈ N) → (∀ z ∈ N, z ∉ old → g z = 0) → (N.map g).sum = (old.map g).sum
  | [], N, _, _, _, h => by
    rw [sum_zero fun z hz => h z hz (fun w => nomatch w)]; rfl
  | a :: old, N, ho, hn, hs, h => by
    have ha : a ∈ N := hs a List.mem_cons_self
    obtain ⟨na, ho'⟩ := List.nodup_cons.mp ho
    rw [sum_erase ha]
    show g a + _ = g a + (old.map g).sum
    rw [sum_sub (old := old) (N := N.erase a) ho' (hn.erase a) (fun z hz => (List.mem_erase_of_ne (fun (e : z = a) => na (by rw [← e]; exact hz))).mpr (hs z (List.mem_cons_of_mem _ hz))) fun z hz nz => ?_]
    have hz' := List.mem_of_mem_erase hz
    refine h z hz' fun w => ?_
    rcases List.mem_cons.mp w with rfl | w
    · exact absurd hz (List.Nodup.not_mem_erase hn)
    · exact nz w
theorem dot_map (f v : Str → Int) : ∀ N : List Str, dotI (N.map f) (N.map v) = (N.map fun z => f z * v z).sum
  | [] => rfl
  | a :: N => by
    have := dot_map f v N
    unfold dotI prods at *
    show f a * v a + (List.zipWith (fun a b => a * b) (N.map f) (N.map v)).sum = f a * v a + (N.map fun z => f z * v z).sum
    rw [this]
/-- the number of a name -/
def valOf (ms : List Int) (N : List Str) (z : Str) : Int := ms.getD (N.idxOf z) 0
theorem map_val : ∀ {N : List Str} {ms : List Int}, N.Nodup → ms.length = N.length → N.map (valOf ms N) = ms
  | [], ms, _, h => (List.eq_nil_of_length_eq_zero h).symm
  | a :: N, [], _, h => nomatch h
  | a :: N, m :: ms, hn, h => by
    obtain ⟨na, hn'⟩ := List.nodup_cons.mp hn
    have ih := map_val (N := N) (ms := ms) hn' (Nat.succ.inj h)
    show valOf (m :: ms) (a :: N) a :: N.map (valOf (m :: ms) (a :: N)) = m :: ms
    have e0 : valOf (m :: ms) (a :: N) a = m := by
      unfold valOf
      rw [List.idxOf_cons_self]; rfl
    have e1 : N.map (valOf (m :: ms) (a :: N)) = N.map (valOf ms N) := List.map_congr_left fun z hz => by
      unfold valOf
      rw [List.idxOf_cons, show (a == z) = false from beq_eq_false_iff_ne.mpr (fun e => na (e ▸ hz))]; rfl
    rw [e0, e1, ih]
theorem fac_map {fs : List Int} {old : List Str} (hn : old.Nodup) (h : fs.length = old.length) : old.map (facOf fs old) = fs := by
  have : old.map (facOf fs old) = old.map (valOf fs old) := List.map_congr_left fun z hz => by
    unfold facOf valOf
    rw [if_pos hz]
  rw [this, map_val hn h]
theorem dot_spread {fs ms : List Int} {old N : List Str} (ho : old.Nodup) (hn : N.Nodup) (hs : ∀ z ∈ old, z ∈ N) (hf : fs.length = old.length) (hm : ms.length = N.length) :
    dotI (N.map (facOf fs old)) ms = dotI fs (old.map (valOf ms N)) := by
  have e1 : dotI (N.map (facOf fs old)) ms = dotI (N.map (facOf fs old)) (N.map (valOf ms N)) := by rw [map_val hn hm]
  have e2 : dotI fs (old.map (valOf ms N)) = dotI (old.map (facOf fs old)) (old.map (valOf ms N)) := by rw [fac_map ho hf]
  rw [e1, e2, dot_map, dot_map]
  refine sum_sub ho hn hs fun z _ nz => ?_
  unfold facOf
  rw [if_neg nz, Int.zero_mul]
/-! ### joined rows -/
def spR (old N : List Str) (r : Row) : Row := (N.map (facOf r.1 old), r.2)
def spS (old N : List Str) (r : Rst) : Rst := (N.map (facOf r.1 old), r.2)
def jR (n1 n2 : List Str) (a b : List Row) : List Row := a.map (spR n1 (joinN n1 n2)) ++ b.map (spR n2 (joinN n1 n2))
def jS (n1 n2 : List Str) (a b : List Rst) : List Rst := a.map (spS n1 (joinN n1 n2)) ++ b.map (spS n2 (joinN n1 n2))
theorem jR_eq (n1 n2 : List Str) (a b : List Row) : joinL2 n1 n2 (a.map lnR) (b.map lnR) = (jR n1 n2 a b).map lnR := by
  unfold joinL2 jR
  rw [List.map_append, List.map_map, List.map_map, List.map_map, List.map_map]; rfl
theorem jS_eq (n1 n2 : List Str) (a b : List Rst) : joinL2 n1 n2 (a.map lnS) (b.map lnS) = (jS n1 n2 a b).map lnS := by
  unfold joinL2 jS
  rw [List.map_append, List.map_map, List.map_map, List.map_map, List.map_map]; rfl
theorem fine_spread {fs : List Int} {n : Nat} {old N : List Str} (h : Fine n fs) : Fine N.length (N.map (facOf fs old)) := by
  refine ⟨List.length_map .., fun f hf => ?_⟩
  obtain ⟨z, _, rfl⟩ := List.mem_map.mp hf
  unfold facOf
  split
  · rw [List.getD_eq_getElem?_getD]
    cases e : fs[old.idxOf z]? with
    | none => exact ⟨by decide, by decide⟩
    | some x => exact h.2 x (List.mem_of_getElem? e)
  · exact ⟨by decide, by decide⟩
theorem fine_jR {n1 n2 : List Str} {a b : List Row} (ha : FineR n1.length a) (hb : FineR n2.length b) : FineR (joinN n1 n2).length (jR n1 n2 a b) := by
  intro r hr
  rcases List.mem_append.mp hr with h | h
  · obtain ⟨x, hx, rfl⟩ := List.mem_map.mp h
    exact ⟨fine_spread (ha x hx).1, (ha x hx).2⟩
  · obtain ⟨x, hx, rfl⟩ := List.mem_map.mp h
    exact ⟨fine_spread (hb x hx).1, (hb x hx).2⟩
theorem fine_jS {n1 n2 : List Str} {a b : List Rst} (ha : FineS n1.length a) (hb : FineS n2.length b) : FineS (joinN n1 n2).length (jS n1 n2 a b) := by
  intro r hr
  rcases List.mem_append.mp hr with h | h
  · obtain ⟨x, hx, rfl⟩ := List.mem_map.mp h
    exact ⟨fine_spread (ha x hx).1, (ha x hx).2⟩
  · obtain ⟨x, hx, rfl⟩ := List.mem_map.mp h
    exact ⟨fine_spread (hb x hx).1, (hb x hx).2⟩
theorem join_mem {n1 n2 : List Str} {z : Str} (h : z ∈ joinN n1 n2) : z ∈ n1 ∨ z ∈ n2 := by
  rcases List.mem_append.mp h with h | h
  · exact .inl h
  · exact .inr (List.mem_filter.mp h).1
theorem join_l {n1 n2 : List Str} {z : Str} (h : z ∈ n1) : z ∈ joinN n1 n2 := List.mem_append.mpr (.inl h)
theorem join_r {n1 n2 : List Str} {z : Str} (h : z ∈ n2) : z ∈ joinN n1 n2 := by
  by_cases k : z ∈ n1
  · exact join_l k
  · exact List.mem_append.mpr (.inr (List.mem_filter.mpr ⟨h, by rw [decide_eq_false k]; rfl⟩))
theorem join_nodup {n1 n2 : List Str} (h1 : n1.Nodup) (h2 : n2.Nodup) : (joinN n1 n2).Nodup := by
  refine List.nodup_append.mpr ⟨h1, h2.filter _, fun a ha b hb e => ?_⟩
  subst e
  have := (List.mem_filter.mp hb).2
  rw [decide_eq_true ha] at this
  cases this
theorem len_sub : ∀ {l m : List Str}, l.Nodup → (∀ z ∈ l, z ∈ m) → l.length ≤ m.length
  | [], _, _, _ => Nat.zero_le _
  | a :: l, m, h, hs => by
    obtain ⟨na, h'⟩ := List.nodup_cons.mp h
    have ha := hs a List.mem_cons_self
    have := len_sub (l := l) (m := m.erase a) h' fun z hz => (List.mem_erase_of_ne (fun (e : z = a) => na (by rw [← e]; exact hz))).mpr (hs z (List.mem_cons_of_mem _ hz))
    rw [List.length_erase_of_mem ha] at this
    have p := List.length_pos_of_mem ha
    show l.length + 1 ≤ m.length
    omega
theorem all_eq {α : Type} {p q : α → Bool} : ∀ {l : List α}, (∀ r ∈ l, p r = q r) → l.all p = l.all q
  | [], _ => rfl
  | a :: l, h => by
    rw [List.all_cons, List.all_cons, h a List.mem_cons_self, all_eq fun r hr => h r (List.mem_cons_of_mem _ hr)]
theorem due_join {n1 n2 : List Str} {rA rB : List Row} {sA sB : List Rst} {ms : List Int} (h1 : n1.Nodup) (h2 : n2.Nodup) (fA : FineR n1.length rA) (fB : FineR n2.length rB) (gA : FineS n1.length sA) (gB : FineS n2.length sB) (hm : ms.length = (joinN n1 n2).length) :
    dueB (jR n1 n2 rA rB) (jS n1 n2 sA sB) ms = (dueB rA sA (n1.map (valOf ms (joinN n1 n2))) && dueB rB sB (n2.map (valOf ms (joinN n1 n2)))) := by
  have hn := join_nodup h1 h2
  have a1 : (rA.map (spR n1 (joinN n1 n2))).all (okRow ms) = rA.all (okRow (n1.map (valOf ms (joinN n1 n2)))) := by
    rw [List.all_map]
    refine all_eq fun r hr => ?_
    show decide (dotI ((joinN n1 n2).map (facOf r.1 n1)) ms - r.2 = 0) = decide (dotI r.1 _ - r.2 = 0)
    rw [dot_spread h1 hn (fun z hz => join_l hz) (fA r hr).1.1 hm]
  have a2 : (rB.map (spR n2 (joinN n1 n2))).all (okRow ms) = rB.all (okRow (n2.map (valOf ms (joinN n1 n2)))) := by
    rw [List.all_map]
    refine all_eq fun r hr => ?_
    show decide (dotI ((joinN n1 n2).map (facOf r.1 n2)) ms - r.2 = 0) = decide (dotI r.1 _ - r.2 = 0)
    rw [dot_spread h2 hn (fun z hz => join_r hz) (fB r hr).1.1 hm]
  have a3 : (sA.map (spS n1 (joinN n1 n2))).all (okRst ms) = sA.all (okRst (n1.map (valOf ms (joinN n1 n2)))) := by
    rw [List.all_map]
    refine all_eq fun r hr => ?_
    show decide ((dotI ((joinN n1 n2).map (facOf r.1 n1)) ms - r.2.1) % r.2.2 = 0) = decide ((dotI r.1 _ - r.2.1) % r.2.2 = 0)
    rw [dot_spread h1 hn (fun z hz => join_l hz) (gA r hr).1.1 hm]
  have a4 : (sB.map (spS n2 (joinN n1 n2))).all (okRst ms) = sB.all (okRst (n2.map (valOf ms (joinN n1 n2)))) := by
    rw [List.all_map]
    refine all_eq fun r hr => ?_
    show decide ((dotI ((joinN n1 n2).map (facOf r.1 n2)) ms - r.2.1) % r.2.2 = 0) = decide ((dotI r.1 _ - r.2.1) % r.2.2 = 0)
    rw [dot_spread h2 hn (fun z hz => join_r hz) (gB r hr).1.1 hm]
  unfold dueB jR jS
  rw [List.all_append, List.all_append, a1, a2, a3, a4]
  cases rA.all (okRow (n1.map (valOf ms (joinN n1 n2)))) <;> cases rB.all (okRow (n2.map (valOf ms (joinN n1 n2)))) <;> cases sA.all (okRst (n1.map (valOf ms (joinN n1 n2)))) <;> cases sB.all (okRst (n2.map (valOf ms (joinN n1 n2)))) <;> rfl
/-! ### lines as put lays them -/
inductive LnT (K : PySem.W.Frag) (H : Hp) : List V → List Line → Prop
  | nil : LnT K H [] []
  | cons {p q : Addr} {fs ms : List Int} {xs : List V} {ls : List Line} : SqT K H p (.ref q :: ms.map V.int) → H q = some (.tup (fs.map V.int)) → LnT K H xs ls → LnT K H (.ref p :: xs) ((fs, ms) :: ls)
theorem LnT.len {K : PySem.W.Frag} {H : Hp} : ∀ {xs : List V} {ls : List Line}, LnT K H xs ls → xs.length = ls.length
  | _, _, .nil => rfl
  | _, _, .cons _ _ t => congrArg Nat.succ t.len
theorem LnT.to {K : PySem.W.Frag} {H H' : Hp} (k : Kp H H') : ∀ {xs : List V} {ls : List Line}, LnT K H xs ls → LnT K H' xs ls
  | _, _, .nil => .nil
  | _, _, .cons a b t => .cons (k.tup a) (k.tups _ _ b) (t.to k)
theorem LnT.snoc {K : PySem.W.Frag} {H : Hp} {p q : Addr} {fs ms : List Int} (h1 : SqT K H p (.ref q :: ms.map V.int)) (h2 : H q = some (.tup (fs.map V.int))) : ∀ {xs : List V} {ls : List Line}, LnT K H xs ls → LnT K H (xs ++ [.ref p]) (ls ++ [(fs, ms)])
  | _, _, .nil => .cons h1 h2 .nil
  | _, _, .cons a b t => .cons a b (t.snoc h1 h2)
theorem LnT.app {K : PySem.W.Frag} {H : Hp} : ∀ {xs ys : List V} {ls ms : List Line}, LnT K H xs ls → LnT K H ys ms → LnT K H (xs ++ ys) (ls ++ ms)
  | _, _, _, _, .nil, h => h
  | _, _, _, _, .cons a b t, h => .cons a b (t.app h)
theorem dp_lnt {K : PySem.W.Frag} {H : Hp} : ∀ {xs : List V} {ls : List Line}, LnT K H xs ls → DpAll K H xs (ls.map lnD)
  | _, _, .nil => .nil
  | _, _, .cons a b t => .cons (.tup a (.cons (.tup (tofT b) (dpa_ints _)) (dpa_ints _))) (dp_lnt t)
/-! ### cuts of a tuple of names -/
theorem cut_lo (ns : List Str) {c : Int} (h0 : 0 ≤ c) (h1 : c ≤ ns.length) : cutV (ns.map V.str) none (some c) = (ns.take c.toNat).map V.str := by
  unfold cutV
  have e : HT.sIx (ns.map V.str).length (ns.map V.str).length (some c) = c.toNat := by
    rw [List.length_map]
    show (if c < 0 then _ else min c.toNat ns.length) = _
    rw [if_neg (by omega)]
    omega
  rw [e]
  show ((ns.map V.str).drop 0).take (c.toNat - 0) = _
  rw [List.drop_zero, Nat.sub_zero, List.map_take]
theorem cut_hi (ns : List Str) {c : Int} (h0 : 0 ≤ c) (h1 : c ≤ ns.length) : cutV (ns.map V.str) (some c) none = (ns.drop c.toNat).map V.str := by
  unfold cutV
  have e : HT.sIx (ns.map V.str).length 0 (some c) = c.toNat := by
    rw [List.length_map]
    show (if c < 0 then _ else min c.toNat ns.length) = _
    rw [if_neg (by omega)]
    omega
  rw [e]
  show ((ns.map V.str).drop c.toNat).take ((ns.map V.str).length - c.toNat) = _
  rw [List.map_drop, List.take_of_length_le (by rw [List.length_drop]; omega)]
theorem slZ_lo {K : PySem.W.Frag} {H : Hp} {a : Addr} {ns : List Str} {c : Int} {Q : VK} (h : SqZ K H a (ns.map V.str)) (h0 : 0 ≤ c) (h1 : c ≤ ns.length)
    (q : ∀ (p : Addr) (H' : Hp), Same H H' → SqZ K H' p ((ns.take c.toNat).map V.str) → Q (.ref p) H') : rSlZ K (.ref a) none (some c) H Q := by
  refine ⟨a, _, rfl, h.t, fun e => q a H (fun _ _ z => z) ?_, fun _ p o np od => q p _ (Same.new np) (.inl ⟨o, by rw [← cut_lo ns h0 h1]; exact upd_same, od⟩)⟩
  have w : c.toNat = ns.length := by
    have := e.2
    rw [List.length_map] at this
    have e2 : (if c < 0 then (c + (ns.length : Int)).toNat else min c.toNat ns.length) = ns.length := this
    rw [if_neg (by omega)] at e2
    omega
  rw [w, List.take_length]
  exact h
theorem slZ_hi {K : PySem.W.Frag} {H : Hp} {a : Addr} {ns : List Str} {c : Int} {Q : VK} (h : SqZ K H a (ns.map V.str)) (h0 : 0 ≤ c) (h1 : c ≤ ns.length)
    (q : ∀ (p : Addr) (H' : Hp), Same H H' → SqZ K H' p ((ns.drop c.toNat).map V.str) → Q (.ref p) H') : rSlZ K (.ref a) (some c) none H Q := by
  refine ⟨a, _, rfl, h.t, fun e => q a H (fun _ _ z => z) ?_, fun _ p o np od => q p _ (Same.new np) (.inl ⟨o, by rw [← cut_hi ns h0 h1]; exact upd_same, od⟩)⟩
  have w : c.toNat = 0 ∨ ns.length = 0 := by
    have := e.1
    rw [List.length_map] at this
    have e2 : (if c < 0 then (c + (ns.length : Int)).toNat else min c.toNat ns.length) = 0 := this
    rw [if_neg (by omega)] at e2
    omega
  rcases w with w | w
  · rw [w, List.drop_zero]
    exact h
  · rw [List.eq_nil_of_length_eq_zero w] at h ⊢
    rw [List.drop_nil]
    exact h
end KX
namespace GL
open PySem PySem.Spec PyProof.Rows L2
section
variable {X : Cx}
theorem call_reprB : CallR X (.builtin "repr") (fun xs H Q => ∃ b, xs = [.bl b] ∧ Q (.str (if b then "True" else "False")) H) := by
  intro pins s σ H xs us Q I r h
  obtain ⟨b, rfl, q⟩ := h
  cases r with
  | cons r t =>
    cases t
    cases r
    exact PySem.P.repr_of_bool ⟨.str _, H, I.tok _, ⟨_, rfl⟩, q⟩
end
end GL
namespace KX
open PySem PySem.Spec PyProof.Rows L2 GL RZ TL
section
variable {P : Program} {w : World} {K : PySem.W.Frag} {mg : Str → Option Value} {base : Heap}
abbrev s_joined_right : Stmt := topS 36
theorem sc_joined_right : FnScope ["_law_deck_here", "_law_every", "_law_cut", "_law_back", "_law_first", "_law_second", "_law_a", "_law_b", "_law_shown_here", "_law_told", "_law_due", "_law_name", "_law_lines", "_law_row", "_law_pieces", "_law_k", "_law_some", "_law_parts", "_law_own"] ["_law_deck_here"] (defScope s_joined_right) := ⟨rfl, rfl, rfl, by decide +kernel, rfl, by decide +kernel, by decide +kernel⟩
theorem fit_R {n : Nat} {rs : List Row} (h : FineR n rs) (l : rs.length ≤ 40) : Fit n (rs.map lnR) := ⟨by rw [List.length_map]; exact l, fun x hx => by
  obtain ⟨r, hr, rfl⟩ := List.mem_map.mp hx
  exact ⟨(h r hr).1.1, (show 1 ≤ 1 by decide), (show 1 ≤ 2 by decide)⟩⟩
theorem fit_S {n : Nat} {rs : List Rst} (h : FineS n rs) (l : rs.length ≤ 40) : Fit n (rs.map lnS) := ⟨by rw [List.length_map]; exact l, fun x hx => by
  obtain ⟨r, hr, rfl⟩ := List.mem_map.mp hx
  exact ⟨(h r hr).1.1, (show 1 ≤ 2 by decide), (show 2 ≤ 2 by decide)⟩⟩
theorem kp_lst {H : Hp} {a : Addr} {xs ys : List V} (h : H a = some (.lst xs)) : Kp H (upd H a (.lst ys)) := fun b o hb n1 _ => by
  rw [upd_ne (fun e => by rw [e, h] at hb; exact n1 _ (Option.some.inj hb).symm)]
  exact hb
theorem take_map1 {α β : Type} {f : α → β} {l : List α} {i : Nat} {x : α} (h : l[i]? = some x) : (l.take (i + 1)).map f = (l.take i).map f ++ [f x] := by
  rw [List.take_add_one, h, List.map_append]; rfl
theorem ok_sys {ns : List Str} {rs : List Row} {ss : List Rst} (hl : ns.length ≤ 6) (hw : ∀ z ∈ ns, Word z) (fR : FineR ns.length rs) (fS : FineS ns.length ss) (l1 : rs.length ≤ 5) (l2 : ss.length ≤ 5) : SysOk ns (rs.map lnR) (ss.map lnS) :=
  ⟨hl, hw, by rw [List.length_map]; exact l1, row_ok fR hl, by rw [List.length_map]; exact l2, rst_ok fS hl⟩
theorem gN_of {n : Nat} {v : V} {σ σ' : L2.St} {H : Hp} {Q : L2.St → Hp → Prop} (e : σ.set n (some v) = σ') (h : Q σ' H) : gName n v σ H Q := by
  subst e
  exact h
inductive TpAt (H : Hp) : List V → List (List Int) → Prop
  | nil : TpAt H [] []
  | cons {p : Addr} {l : List Int} {xs : List V} {ls : List (List Int)} : H p = some (.tup (l.map V.int)) → TpAt H xs ls → TpAt H (.ref p :: xs) (l :: ls)
theorem TpAt.to {H H' : Hp} (k : ∀ a xs, H a = some (.tup xs) → H' a = some (.tup xs)) : ∀ {xs : List V} {ls : List (List Int)}, TpAt H xs ls → TpAt H' xs ls
  | _, _, .nil => .nil
  | _, _, .cons a t => .cons (k _ _ a) (t.to k)
theorem TpAt.len {H : Hp} : ∀ {xs : List V} {ls : List (List Int)}, TpAt H xs ls → xs.length = ls.length
  | _, _, .nil => rfl
  | _, _, .cons _ t => congrArg Nat.succ t.len
theorem TpAt.snoc {H : Hp} {p : Addr} {l : List Int} (h1 : H p = some (.tup (l.map V.int))) : ∀ {xs : List V} {ls : List (List Int)}, TpAt H xs ls → TpAt H (xs ++ [.ref p]) (ls ++ [l])
  | _, _, .nil => .cons h1 .nil
  | _, _, .cons a t => .cons a (t.snoc h1)
theorem TpAt.two {H : Hp} {xs : List V} {a b : List Int} (h : TpAt H xs [a, b]) : ∃ p q, xs = [.ref p, .ref q] ∧ H p = some (.tup (a.map V.int)) ∧ H q = some (.tup (b.map V.int)) := by
  cases h with
  | cons h1 t =>
    cases t with
    | cons h2 t =>
      cases t
      exact ⟨_, _, rfl, h1, h2⟩
theorem val_at {ms : List Int} {N : List Str} {z : Str} (hz : z ∈ N) (hl : ms.length = N.length) : (ms.map V.int)[N.idxOf z]? = some (.int (valOf ms N z)) := by
  have lt : N.idxOf z < ms.length := by
    rw [hl]
    exact List.idxOf_lt_length_iff.mpr hz
  unfold valOf
  rw [List.getElem?_map, List.getD_eq_getElem?_getD, List.getElem?_eq_getElem lt]; rfl
theorem at0 (x : Str) (xs : List Str) : atI ((x :: xs).map V.str) 0 = some (V.str x) := atI_nat (j := 0) rfl
theorem nd_rev {l : List Str} (h : l.Nodup) : l.reverse.Nodup := List.pairwise_reverse.mpr (h.imp fun e => e.symm)
theorem shaped_tup (ns : List Str) (h : ∀ z ∈ ns, Word z) : SeqAt.shaped (.tuple (ns.map PyData.str)) = true := by
  have := shaped_words ns h
  unfold SeqAt.shaped at *
  exact this
abbrev stU (d tn : Addr) (c b : Int) (pf ps : Addr) : L2.St := [some (V.ref d), some (V.ref tn), some (V.int (1 + c)), some (V.int b), some (V.ref pf), some (V.ref ps), none, none, none, none, none, none, none, none, none, none, none, none, none]
abbrev stV (d tn : Addr) (c b : Int) (pf ps : Addr) (v6 v7 v8 v9 v10 v12 v14 v15 v16 v17 : Option V) : L2.St := [some (V.ref d), some (V.ref tn), some (V.int (1 + c)), some (V.int b), some (V.ref pf), some (V.ref ps), v6, v7, v8, v9, v10, none, v12, none, v14, v15, v16, v17, none]
def midU (K : PySem.W.Frag) (d g tn : Addr) (c b : Int) (pf : Addr) (es : List Str) (H H7 : Hp) : L2.St → Hp → Prop := fun σ' H' => ∃ (pS : Addr) (ss : List Str), σ' = stU d tn c b pf pS ∧ Deck H' d g ∧ Mv d g H H' ∧ Kp H7 H' ∧ SqZ K H' pS (ss.map V.str) ∧ ss.Nodup ∧ (∀ z ∈ ss, z ∈ es) ∧ 1 ≤ ss.length
theorem ok_joined_right {f C fA fF : Addr} {fd fdA fdF : FuncData} (F : Fun K "_law_joined_right" "_law_joined_right" s_joined_right f fd) (gl : mg "_law_joined_right" = some (.ref f)) (T : Bl mg) (Tmin : mg "min" = none) (Tis : mg "isinstance" = none) (S : Sys K mg C)
    (D_draw : DefG P w K mg base 1 "_law_draw" ["_law_deck_here", "_law_many"] spDraw) (D_called : DefG P w K mg base 3 "_law_called" ["_law_deck_here", "_law_many"] (spCalled K))
    (D_made : DefG P w K mg base 4 "_law_made" ["_law_deck_here", "_law_called_here", "_law_tall", "_law_more"] (spMade K C)) (D_shown : DefG P w K mg base 1 "_law_shown" ["_law_made_here"] (spShown K C))
    (D_put : DefG P w K mg base 1 "_law_put" ["_law_called_here", "_law_piece", "_law_every"] (spPut K))
    (O_and : OpK K C fA "__and__") (FA : FnG P w K mg base CX0 3 fA fdA ["self", "other"] (spAnd K C)) (BA : Binds K fdA ["self", "other"] []) (IC : C8.InsC K C)
    (MF : Meth K C "fulfils" fF) (FF : FnG P w K mg base CX0 2 fF fdF ["self", "numbers"] (spFul K C)) (BF : Binds K fdF ["self", "numbers"] []) :
    DefG P w K mg base 5 "_law_joined_right" ["_law_deck_here"] spRight := by
  refine def_mk F gl (F.binds fun _ _ _ _ _ _ us hl => match us, hl with | [_], _ => rfl) (okG F sc_joined_right (fun vs H Q E h => ?_) fun cdv A outer s H vs Q E hr hc h => ?_)
  · obtain ⟨d, g, rfl, _⟩ := h
    rfl
  · obtain ⟨d, g, rfl, D, q⟩ := h
    have nd := sc_joined_right.nd
    have hu64 := hr.units
    have hu100 : (A.deeper (envOfC "_law_joined_right" (defScope s_joined_right) s.heap.objs.size f cdv)).units + 100 < cLine := by have := hr.un; omega
    refine ⟨_, (pss_cons (ps_set (i := 1) nd rfl (by first | exact Or.inl rfl | exact Or.inr rfl) (pe_def D_called (hr.mono (by decide)) hc (by rfl) (pa_cons (pv 0) (pa_cons (pe_op op_add pe_int (pe_def D_draw (hr.mono (by decide)) hc (by rfl) (pa_cons (pv 0) (pa_cons pe_int pa_nil)))) pa_nil))))
      (pss_cons (ps_par (i := 2) (j := 3) rfl nd rfl rfl (by decide) rfl rfl (pa_cons (pe_op op_add pe_int (pe_def D_draw (hr.mono (by decide)) hc (by rfl) (pa_cons (pv 0) (pa_cons (pe_callB call_len_seq (by rfl) T.len boot_len (pa_cons (pv 1) pa_nil)) pa_nil)))) (pa_cons (pe_def D_draw (hr.mono (by decide)) hc (by rfl) (pa_cons (pv 0) (pa_cons (pe_callB call_len_seq (by rfl) T.len boot_len (pa_cons (pv 1) pa_nil)) pa_nil))) pa_nil)) rfl)
      (pss_cons (ps_asg (pe_tup (pa_cons (pe_slice sl_tupZ (pv 1) po_none (po_some (pv 2))) (pa_cons (pe_slice sl_tupZ (pv 1) (po_some (pe_callB (call_min2 rfl) (by rfl) Tmin boot_min (pa_cons (pv 3) (pa_cons (pv 2) pa_nil)))) po_none) pa_nil))) (pg_tup rfl (pgs_cons (pg_name (i := 4) nd rfl (by first | exact Or.inl rfl | exact Or.inr rfl)) (pgs_cons (pg_name (i := 5) nd rfl (by first | exact Or.inl rfl | exact Or.inr rfl)) pgs_nil))))
      (C8.pss_cut (ps_if (PW.pt (pw_or (pt_cmpR op_eq (pe_def D_draw (hr.mono (by decide)) hc (by rfl) (pa_cons (pv 0) (pa_cons pe_int pa_nil))) pe_int (nomark _)) (pw_or1 (pt_cmpR (op_eqD hu64) (pv 5) (pe_tup pa_nil) (nomark _)))))
        (pss_one (ps_set (i := 5) nd rfl (by first | exact Or.inl rfl | exact Or.inr rfl) (pe_op op_catZ (pe_revZ (pv 5)) (pe_op op_rep01 (pe_slice sl_tupZ (pv 1) po_none (po_some pe_int)) (pe_callTy call_int1 (by rfl) T.int boot_int (pa_cons (pe_cmpR (op_notInK (K := K)) (pe_ix ix_tup (pv 1) pe_int (fun _ _ => rfl)) (pv 5) (by with_unfolding_all rfl)) pa_nil))))))
        pss_nil)
      (pss_cons (ps_par (i := 6) (j := 7) rfl nd rfl rfl (by decide) rfl rfl (pa_cons (pe_def D_made (hr.mono (by decide)) hc (by rfl) (pa_cons (pv 0) (pa_cons (pv 4) (pa_cons pe_int (pa_cons pe_int pa_nil))))) (pa_cons (pe_def D_made (hr.mono (by decide)) hc (by rfl) (pa_cons (pv 0) (pa_cons (pv 5) (pa_cons pe_int (pa_cons pe_int pa_nil))))) pa_nil)) rfl)
      (pss_cons (ps_par (i := 8) (j := 9) rfl nd rfl rfl (by decide) rfl rfl (pa_cons (pe_lst (pa_cons (pe_def D_shown (hr.mono (by decide)) hc (by rfl) (pa_cons (pv 6) pa_nil)) (pa_cons (pe_def D_shown (hr.mono (by decide)) hc (by rfl) (pa_cons (pv 7) pa_nil)) pa_nil))) (pa_cons (pe_op (op_own O_and (by rfl) FA (hr.mono (by decide)) hc BA pass0) (pv 6) (pv 7)) pa_nil)) rfl)
      (pss_cons (ps_set (i := 10) nd rfl (by first | exact Or.inl rfl | exact Or.inr rfl) (pe_op op_catZ (pv 4) (pe_tupleZ (by rfl) T.tuple (pe_lc (own := [("_law_name", 11)]) (g := (gName 11)) rfl nd (pi_tup (pv 5)) (blkOk_by (own := [("_law_name", 11)]) (N := ["_law_deck_here", "_law_every", "_law_cut", "_law_back", "_law_first", "_law_second", "_law_a", "_law_b", "_law_shown_here", "_law_told", "_law_due", "_law_name", "_law_lines", "_law_row", "_law_pieces", "_law_k", "_law_some", "_law_parts", "_law_own"]) (sc := defScope s_joined_right) (by decide +kernel)) (fun _ _ _ _ _ => (pg_name (i := 11) nd rfl (by first | exact Or.inl rfl | exact Or.inr rfl))) (fun _ _ _ _ _ => (pts_one (pt_cmpR (op_notInK (K := K)) (pv 11) (pv 4) (by with_unfolding_all rfl)))) (fun _ _ _ _ _ => (pv 11))))))
      (pss_cons (ps_set (i := 12) nd rfl (by first | exact Or.inl rfl | exact Or.inr rfl) (pe_op op_cat (pe_lc (own := [("_law_row", 13)]) (g := (gName 13)) (tt := tYes) rfl nd (pi_tup (pe_fld (pv 6) rfl)) (blkOk_by (own := [("_law_row", 13)]) (N := ["_law_deck_here", "_law_every", "_law_cut", "_law_back", "_law_first", "_law_second", "_law_a", "_law_b", "_law_shown_here", "_law_told", "_law_due", "_law_name", "_law_lines", "_law_row", "_law_pieces", "_law_k", "_law_some", "_law_parts", "_law_own"]) (sc := defScope s_joined_right) (by decide +kernel)) (fun _ _ _ _ _ => (pg_name (i := 13) nd rfl (by first | exact Or.inl rfl | exact Or.inr rfl))) (fun _ _ _ _ _ => pts_nil) (fun _ _ _ _ _ => (pe_def D_put (hr.mono (by decide)) hc (by rfl) (pa_cons (pv 4) (pa_cons (pv 13) (pa_cons (pv 10) pa_nil)))))) (pe_lc (own := [("_law_row", 13)]) (g := (gName 13)) (tt := tYes) rfl nd (pi_tup (pe_fld (pv 7) rfl)) (blkOk_by (own := [("_law_row", 13)]) (N := ["_law_deck_here", "_law_every", "_law_cut", "_law_back", "_law_first", "_law_second", "_law_a", "_law_b", "_law_shown_here", "_law_told", "_law_due", "_law_name", "_law_lines", "_law_row", "_law_pieces", "_law_k", "_law_some", "_law_parts", "_law_own"]) (sc := defScope s_joined_right) (by decide +kernel)) (fun _ _ _ _ _ => (pg_name (i := 13) nd rfl (by first | exact Or.inl rfl | exact Or.inr rfl))) (fun _ _ _ _ _ => pts_nil) (fun _ _ _ _ _ => (pe_def D_put (hr.mono (by decide)) hc (by rfl) (pa_cons (pv 5) (pa_cons (pv 13) (pa_cons (pv 10) pa_nil))))))))
      (pss_cons (ps_set (i := 14) nd rfl (by first | exact Or.inl rfl | exact Or.inr rfl) (pe_op op_cat (pe_lc (own := [("_law_row", 13)]) (g := (gName 13)) (tt := tYes) rfl nd (pi_tup (pe_fld (pv 6) rfl)) (blkOk_by (own := [("_law_row", 13)]) (N := ["_law_deck_here", "_law_every", "_law_cut", "_law_back", "_law_first", "_law_second", "_law_a", "_law_b", "_law_shown_here", "_law_told", "_law_due", "_law_name", "_law_lines", "_law_row", "_law_pieces", "_law_k", "_law_some", "_law_parts", "_law_own"]) (sc := defScope s_joined_right) (by decide +kernel)) (fun _ _ _ _ _ => (pg_name (i := 13) nd rfl (by first | exact Or.inl rfl | exact Or.inr rfl))) (fun _ _ _ _ _ => pts_nil) (fun _ _ _ _ _ => (pe_def D_put (hr.mono (by decide)) hc (by rfl) (pa_cons (pv 4) (pa_cons (pv 13) (pa_cons (pv 10) pa_nil)))))) (pe_lc (own := [("_law_row", 13)]) (g := (gName 13)) (tt := tYes) rfl nd (pi_tup (pe_fld (pv 7) rfl)) (blkOk_by (own := [("_law_row", 13)]) (N := ["_law_deck_here", "_law_every", "_law_cut", "_law_back", "_law_first", "_law_second", "_law_a", "_law_b", "_law_shown_here", "_law_told", "_law_due", "_law_name", "_law_lines", "_law_row", "_law_pieces", "_law_k", "_law_some", "_law_parts", "_law_own"]) (sc := defScope s_joined_right) (by decide +kernel)) (fun _ _ _ _ _ => (pg_name (i := 13) nd rfl (by first | exact Or.inl rfl | exact Or.inr rfl))) (fun _ _ _ _ _ => pts_nil) (fun _ _ _ _ _ => (pe_def D_put (hr.mono (by decide)) hc (by rfl) (pa_cons (pv 5) (pa_cons (pv 13) (pa_cons (pv 10) pa_nil))))))))
      (pss_cons (ps_if (PW.pt (pw_or (pt_not (pt_val (pe_callB (C8.call_isC IC) (by rfl) Tis boot_isinstance (pa_cons (pv 9) (pa_cons (C8.pe_gc (v := .ref C) (by rfl) ⟨_, S.mgC, rfl⟩) pa_nil))))) (pw_or1 (pt_cmpR op_ne (pe_def D_shown (hr.mono (by decide)) hc (by rfl) (pa_cons (pv 9) pa_nil)) (pe_callB (call_reprN hc hu100) (by rfl) T.repr boot_repr (pa_cons (pe_lst (pa_cons (pv 10) (pa_cons (pe_tupleOf (by rfl) T.tuple (pv 12)) (pa_cons (pe_tupleOf (by rfl) T.tuple (pv 14)) pa_nil)))) pa_nil)) (nomark _)))))
        (pss_one (ps_ret pe_bl))
        pss_nil)
      (pss_cons (ps_for PassesOwn.never rfl (pi_range1 (by rfl) T.range (pa_cons pe_int pa_nil)) (pg_name (i := 15) nd rfl (by first | exact Or.inl rfl | exact Or.inr rfl))
        (pss_cons (ps_set (i := 16) nd rfl (by first | exact Or.inl rfl | exact Or.inr rfl) (pe_tupleOf (by rfl) T.tuple (pe_lc (own := [("_law_name", 11)]) (g := (gName 11)) (tt := tYes) rfl nd (pi_tup (pv 10)) (blkOk_by (own := [("_law_name", 11)]) (N := ["_law_deck_here", "_law_every", "_law_cut", "_law_back", "_law_first", "_law_second", "_law_a", "_law_b", "_law_shown_here", "_law_told", "_law_due", "_law_name", "_law_lines", "_law_row", "_law_pieces", "_law_k", "_law_some", "_law_parts", "_law_own"]) (sc := defScope s_joined_right) (by decide +kernel)) (fun _ _ _ _ _ => (pg_name (i := 11) nd rfl (by first | exact Or.inl rfl | exact Or.inr rfl))) (fun _ _ _ _ _ => pts_nil) (fun _ _ _ _ _ => (pe_op op_sub (pe_def D_draw (hr.mono (by decide)) hc (by rfl) (pa_cons (pv 0) (pa_cons pe_int pa_nil))) pe_int)))))
        (pss_cons (ps_setLc (i := 17) (own := [("_law_own", 18)]) (g := (gName 18)) (tt := tYes) rfl nd rfl rfl (sw_true rfl rfl rfl (by decide +kernel)) (pi_tup (pe_tup (pa_cons (pv 4) (pa_cons (pv 5) pa_nil)))) (blkOk_by (own := [("_law_own", 18)]) (N := ["_law_deck_here", "_law_every", "_law_cut", "_law_back", "_law_first", "_law_second", "_law_a", "_law_b", "_law_shown_here", "_law_told", "_law_due", "_law_name", "_law_lines", "_law_row", "_law_pieces", "_law_k", "_law_some", "_law_parts", "_law_own"]) (sc := defScope s_joined_right) (by decide +kernel)) (fun _ _ _ _ _ => (pg_name (i := 18) nd rfl (by first | exact Or.inl rfl | exact Or.inr rfl))) (fun _ _ _ _ _ => pts_nil) (fun _ _ _ _ _ => (pe_tupleOfK (K := K) (by rfl) T.tuple (pe_lc (own := [("_law_name", 11)]) (g := (gName 11)) (tt := tYes) rfl nd (pi_tupK (K := K) (pv 18)) (blkOk_by (own := [("_law_name", 11)]) (by with_unfolding_all rfl)) (fun _ _ _ _ _ => (pg_name (i := 11) nd rfl (by first | exact Or.inl rfl | exact Or.inr rfl))) (fun _ _ _ _ _ => pts_nil) (fun _ _ _ _ _ => (pe_ix (ix_tupK (K := K)) (pv 16) (pe_bmZK (K := K) PySem.F.slot_tuple_index PySem.F.type_tuple_index mt_tup_indexK (pv 10) (pa_cons (pv 11) pa_nil)) (fun _ _ => rfl)))))))
        (pss_one (ps_if (pt_cmpR op_ne (pe_callB call_reprB (by rfl) T.repr boot_repr (pa_cons (pe_methG (pv 9) S.cl MF FF (hr.mono (by decide)) hc BF .nil pass0 (pa_cons (pv 16) pa_nil)) pa_nil)) (pe_callB call_reprB (by rfl) T.repr boot_repr (pa_cons (pe_and (pe_methG (pv 6) S.cl MF FF (hr.mono (by decide)) hc BF .nil pass0 (pa_cons (pe_ix ix_list (pv 17) pe_int (fun _ _ => rfl)) pa_nil)) (pe_one (pe_methG (pv 7) S.cl MF FF (hr.mono (by decide)) hc BF .nil pass0 (pa_cons (pe_ix ix_list (pv 17) pe_int (fun _ _ => rfl)) pa_nil)))) pa_nil)) (nomark _))
          (pss_one (ps_ret pe_bl))
          pss_nil)))))
      (pss_one (ps_ret (pe_cmpR (op_eqD hu64) (pe_lst (pa_cons (pe_def D_shown (hr.mono (by decide)) hc (by rfl) (pa_cons (pv 6) pa_nil)) (pa_cons (pe_def D_shown (hr.mono (by decide)) hc (by rfl) (pa_cons (pv 7) pa_nil)) pa_nil))) (pv 8) (nomark _))))))))))))))), ?_⟩
    -- every
    refine ⟨_, rfl, _, rfl, d, g, 6, rfl, D, by decide, by decide, fun r H1 r0 r1 D1 M1 => ⟨1, r, rfl, rfl, d, g, _, rfl, D1, by omega, by omega, fun tn es H2 D2 M2 hN hl hw hnd => ?_⟩⟩
    have n1 : 1 ≤ es.length := by omega
    have n6 : es.length ≤ 6 := by omega
    have M02 := M1.trans M2
    refine ⟨_, rfl, _, rfl, tn, _, rfl, .inr hN.t, d, g, _, rfl, D2, by rw [List.length_map]; omega, by rw [List.length_map]; omega, fun c H3 c0 c1 D3 M3 => ?_⟩
    rw [List.length_map] at c1
    have hN3 := (Kp.mv D2 M3).z hN
    refine ⟨1, c, rfl, rfl, _, rfl, _, rfl, tn, _, rfl, .inr hN3.t, d, g, _, rfl, D3, by rw [List.length_map]; omega, by rw [List.length_map]; omega, fun b H4 b0 b1 D4 M4 => ?_⟩
    rw [List.length_map] at b1
    have hN4 := (Kp.mv D3 M4).z hN3
    have M04 := M02.trans (M3.trans M4)
    refine ⟨_, _, rfl, ?_⟩
    -- first, second
    refine ⟨_, rfl, ?_⟩
    refine noPart_of ?_
    refine ⟨_, rfl, 1 + c, rfl, ?_⟩
    refine slZ_lo hN4 (by omega) (by omega) fun pf H5 s5 hF => ?_
    refine ⟨_, rfl, _, rfl, _, rfl, b, 1 + c, rfl, _, rfl, ?_⟩
    have mz : ∃ m : Int, m = (if 1 + c < b then 1 + c else b) := ⟨_, rfl⟩
    obtain ⟨m, em⟩ := mz
    rw [← em]
    have m0 : 0 ≤ m := by rw [em]; split <;> omega
    have m1 : m < es.length := by rw [em]; split <;> omega
    refine noPart_of ?_
    refine slZ_hi (hN4.same s5) m0 (by omega) fun ps H6 s6 hS => ?_
    refine ⟨(show 2 ≤ sizeLine from small (by decide)), fun tq ntq => ⟨tq, _, rfl, tofT upd_same, rfl, _, _, rfl, _, _, rfl, rfl, ?_⟩⟩
    have s7 : Same H4 (upd H6 tq (.tup [.ref pf, .ref ps])) := s5.trans (s6.trans (Same.new ntq))
    have hF7 := (hF.same s6).same (Same.new (o := .tup [.ref pf, .ref ps]) ntq)
    have hS7 := hS.same (Same.new (o := .tup [.ref pf, .ref ps]) ntq)
    revert s7 hF7 hS7
    generalize upd H6 tq (.tup [.ref pf, .ref ps]) = H7
    intro s7 hF7 hS7
    have D7 := D4.same s7
    have M07 := M04.trans (Mv.of s7)
    have hN7 := hN4.same s7
    -- the first names, the second ones
    have F1 : ∃ fs : List Str, fs = es.take (1 + c).toNat := ⟨_, rfl⟩
    obtain ⟨fs, eF⟩ := F1
    rw [← eF] at hF7 hF
    have F2 : ∃ ss : List Str, ss = es.drop m.toNat := ⟨_, rfl⟩
    obtain ⟨ss, eS⟩ := F2
    rw [← eS] at hS7 hS
    have ndF : fs.Nodup := by rw [eF]; exact hnd.sublist (List.take_sublist _ _)
    have inF : ∀ z ∈ fs, z ∈ es := fun z hz => by rw [eF] at hz; exact List.mem_of_mem_take hz
    have lF : 1 ≤ fs.length := by rw [eF, List.length_take]; omega
    have ndS : ss.Nodup := by rw [eS]; exact hnd.sublist (List.drop_sublist _ _)
    have inS : ∀ z ∈ ss, z ∈ es := fun z hz => by rw [eS] at hz; exact List.mem_of_mem_drop hz
    have lS : 1 ≤ ss.length := by rw [eS, List.length_drop]; omega
    have h6F : fs.length ≤ 6 := Nat.le_trans (len_sub ndF inF) n6
    have h6S : ss.length ≤ 6 := Nat.le_trans (len_sub ndS inS) n6
    refine ⟨midU K d g tn c b pf es H H7, ?_, ?_⟩
    · refine ⟨_, rfl, d, g, 2, rfl, D7, by decide, by decide, fun r8 H8 r80 r81 D8 M8 => ⟨rfl, _, rfl, ?_⟩⟩
      have k78 := Kp.mv D7 M8
      have hS8 := k78.z hS7
      have hN8 := k78.z hN7
      have M08 := M07.trans M8
      refine ite2 (fun w => ?_) (fun w => ?_)
      · refine ite2 (fun _ => ?_) (fun z => absurd rfl z)
        obtain ⟨e0, er, ee⟩ : ∃ e0 er, es = e0 :: er := by
          cases es with
          | nil => exact absurd n1 (by decide)
          | cons a t => exact ⟨a, t, rfl⟩
        have he0 : e0 ∈ es := by rw [ee]; exact List.mem_cons_self
        refine ⟨_, rfl, ps, _, rfl, hS8.t, fun pr o nr od => ?_⟩
        have s9 := Same.new (o := .frz o (.tup (ss.map V.str).reverse)) nr
        have hR : SqZ K (upd H8 pr (.frz o (.tup (ss.map V.str).reverse))) pr (ss.reverse.map V.str) := .inl ⟨o, by rw [List.map_reverse]; exact upd_same, od⟩
        have hS9 := hS8.same s9
        have hN9 := hN8.same s9
        revert s9 hR hS9 hN9
        generalize upd H8 pr (.frz o (.tup (ss.map V.str).reverse)) = H9
        intro s9 hR hS9 hN9
        refine ⟨_, rfl, ?_⟩
        refine noPart_of ?_
        refine ⟨1, rfl, ?_⟩
        refine slZ_lo hN9 (by decide) (by omega) fun p1 H10 s10 h1 => ?_
        have e1 : es.take (1 : Int).toNat = [e0] := by rw [ee]; rfl
        rw [e1] at h1
        refine ⟨_, rfl, tn, _, 0, V.str e0, rfl, rfl, (hN9.same s10).t, by rw [ee]; exact at0 _ _, ?_⟩
        refine ⟨_, rfl, ps, _, rfl, .inr (hS9.same s10).t, rfl, flat_strs ss, .inr ⟨_, rfl, ?_⟩⟩
        rw [if_pos rfl, inV_strs]
        have s810 := s9.trans s10
        have fin : ∀ (p2 : Addr) (H11 : Hp) (xs : List Str), Same H10 H11 → SqZ K H11 p2 (xs.map V.str) → (ss.reverse ++ xs).Nodup → (∀ z ∈ xs, z ∈ es) → ∀ Q' : VK, (∀ t H', midU K d g tn c b pf es H H7 (stU d tn c b pf t) H' → Q' (.ref t) H') → rCatZ K (.ref pr) (.ref p2) H11 Q' := by
          intro p2 H11 xs s11 hx hnd2 hin Q' hQ
          refine catZ_of ((hR.same s10).same s11) hx ?_ fun p3 H12 s12 h3 => hQ p3 H12 ⟨p3, ss.reverse ++ xs, rfl, D8.same (s810.trans (s11.trans s12)), M08.trans (Mv.of (s810.trans (s11.trans s12))), k78.trans (Kp.of (s810.trans (s11.trans s12))), by rw [List.map_append]; exact h3, hnd2, fun z hz => ?_, ?_⟩
          · have hl : (ss.reverse ++ xs).length ≤ 6 := Nat.le_trans (len_sub hnd2 fun z hz => ?_) n6
            · rw [List.length_append] at hl
              rw [List.length_map, List.length_map]
              exact Nat.le_trans hl (small (by decide))
            · rcases List.mem_append.mp hz with hz | hz
              · exact inS z (List.mem_reverse.mp hz)
              · exact hin z hz
          · rcases List.mem_append.mp hz with hz | hz
            · exact inS z (List.mem_reverse.mp hz)
            · exact hin z hz
          · rw [List.length_append, List.length_reverse]; omega
        refine ⟨p1, _, _, rfl, rfl, h1.t, (fun z => nomatch z), ?_, ?_, ?_⟩
        · cases decide (e0 ∈ ss)
          · exact .inr rfl
          · exact .inl rfl
        · intro _ p2 o2 np2 od2
          refine fin p2 _ [] (Same.new np2) (.inl ⟨o2, upd_same, od2⟩) (by rw [List.append_nil]; exact nd_rev ndS) (fun z hz => nomatch hz) _ (fun t H' h => h)
        · intro hk
          have nz : e0 ∉ ss := fun z => by rw [decide_eq_true z] at hk; exact absurd hk (by decide)
          refine fin p1 H10 [e0] (fun _ _ z => z) h1 ?_ (fun z hz => by rw [List.mem_singleton.mp hz]; exact he0) _ (fun t H' h => h)
          refine List.nodup_append.mpr ⟨nd_rev ndS, List.nodup_cons.mpr ⟨(fun z => nomatch z), List.nodup_nil⟩, fun a ha b hb e => ?_⟩
          rw [List.mem_singleton.mp hb] at e
          exact nz (e ▸ List.mem_reverse.mp ha)
      · refine ⟨_, rfl, Nat.zero_le _, fun e1 ne1 => ?_⟩
        have s9 := Same.new (o := .tup []) ne1
        refine ⟨_, _, .tup (hS8.same s9).t (dpa_strs ss), .tup (tofT upd_same) .nil, shaped_tup ss fun z hz => hw z (inS z hz), by decide +kernel, _, rfl, ?_⟩
        have ef : PyData.eqv (.tuple (ss.map PyData.str)) (.tuple []) = false := by
          cases ss with
          | nil => exact absurd lS (by decide)
          | cons a t => rfl
        rw [ef]
        refine iteF ?_
        exact ⟨ps, ss, rfl, D8.same s9, M08.trans (Mv.of s9), k78.trans (Kp.of s9), hS8.same s9, ndS, inS, lS⟩
    rintro σ1 H11 ⟨pS, ns2, rfl, D11, M11, k11, hS11, nd2, in2, l2⟩
    clear ndS inS lS h6S hS7 hS M07 D7 hN7
    have hF11 := k11.z hF7
    have h62 : ns2.length ≤ 6 := Nat.le_trans (len_sub nd2 in2) n6
    have hwF : ∀ z ∈ fs, Word z := fun z hz => hw z (inF z hz)
    have hw2 : ∀ z ∈ ns2, Word z := fun z hz => hw z (in2 z hz)
    -- a, b
    refine ⟨_, rfl, _, rfl, d, g, pf, fs, 2, 1, rfl, D11, hF11, lF, h6F, by decide, by decide, by decide, by decide, fun pa H12 rA sA D12 M12 hA12 lrA lsA fRA fSA => ?_⟩
    have hS12 := (Kp.mv D11 M12).z hS11
    have hF12 := (Kp.mv D11 M12).z hF11
    refine ⟨_, rfl, _, rfl, d, g, pS, ns2, 2, 2, rfl, D12, hS12, l2, h62, by decide, by decide, by decide, by decide, fun pb H13 rB sB D13 M13 hB13 lrB lsB fRB fSB => ⟨_, _, rfl, ?_⟩⟩
    have k13 := Kp.mv D12 M13
    have hS13 := k13.z hS12
    have hF13 := k13.z hF12
    have hA13 := hA12.kp k13
    have M013 := M11.trans (M12.trans M13)
    clear hA12 hS12 hF12 hS11 hF11
    obtain ⟨dxa, tna, tra, tsa, ia, pA⟩ := id hA13
    obtain ⟨dxb, tnb, trb, tsb, ib, pB⟩ := id hB13
    have okA : SysOk fs (rA.map lnR) (sA.map lnS) := ok_sys h6F hwF fRA fSA (by omega) (by omega)
    have okB : SysOk ns2 (rB.map lnR) (sB.map lnS) := ok_sys h62 hw2 fRB fSB (by omega) (by omega)
    rw [show ((stU d tn c b pf pS).set 6 (some (V.ref pa))).set 7 (some (V.ref pb)) = stV d tn c b pf pS (some (V.ref pa)) (some (V.ref pb)) none none none none none none none none from rfl]
    -- shown, told
    refine ⟨_, rfl, pa, fs, _, _, rfl, hA13, okA, fun H14 s14 => ⟨_, rfl, pb, ns2, _, _, rfl, hB13.kp (Kp.of s14), okB, fun H15 s15 => ⟨(show 2 ≤ sizeLine from small (by decide)), fun lh nlh => ?_⟩⟩⟩
    have s16 : Same H13 (upd H15 lh (.lst [.str (shownOf fs (rA.map lnR) (sA.map lnS)), .str (shownOf ns2 (rB.map lnR) (sB.map lnS))])) := s14.trans (s15.trans (Same.new nlh))
    have hlh : upd H15 lh (.lst [.str (shownOf fs (rA.map lnR) (sA.map lnS)), .str (shownOf ns2 (rB.map lnR) (sB.map lnS))]) lh = some (.lst ([shownOf fs (rA.map lnR) (sA.map lnS), shownOf ns2 (rB.map lnR) (sB.map lnS)].map V.str)) := upd_same
    have offL := (D13.same (s14.trans s15)).off nlh
    revert s16 hlh
    generalize upd H15 lh (.lst [.str (shownOf fs (rA.map lnR) (sA.map lnS)), .str (shownOf ns2 (rB.map lnR) (sB.map lnS))]) = H16
    intro s16 hlh
    refine ⟨_, rfl, _, rfl, pa, dxa, _, pb, dxb, _, rfl, rfl, s16 _ _ ia, s16 _ _ ib, pa, pb, fs, ns2, _, _, _, _, rfl, hA13.kp (Kp.of s16), hB13.kp (Kp.of s16), by omega, by omega, fit_R fRA (by omega), fit_S fSA (by omega), fit_R fRB (by omega), fit_S fSB (by omega), fun pt H17 s17 hT => ⟨⟨pt, rfl⟩, _, _, rfl, ?_⟩⟩
    rw [show ((stV d tn c b pf pS (some (V.ref pa)) (some (V.ref pb)) none none none none none none none none).set 8 (some (V.ref lh))).set 9 (some (V.ref pt)) = stV d tn c b pf pS (some (V.ref pa)) (some (V.ref pb)) (some (V.ref lh)) (some (V.ref pt)) none none none none none none from rfl]
    rw [jR_eq, jS_eq] at hT
    have s137 := s16.trans s17
    have NX : ∃ N, N = joinN fs ns2 := ⟨_, rfl⟩
    obtain ⟨N, eN⟩ := NX
    have ndN : N.Nodup := by rw [eN]; exact join_nodup ndF nd2
    have inN : ∀ z ∈ N, z ∈ es := fun z hz => by rw [eN] at hz; exact (join_mem hz).elim (inF z) (in2 z)
    have h6N : N.length ≤ 6 := Nat.le_trans (len_sub ndN inN) n6
    have fRJ : FineR N.length (jR fs ns2 rA rB) := by rw [eN]; exact fine_jR fRA fRB
    have fSJ : FineS N.length (jS fs ns2 sA sB) := by rw [eN]; exact fine_jS fSA fSB
    have lRJ : (jR fs ns2 rA rB).length ≤ 5 := by unfold jR; rw [List.length_append, List.length_map, List.length_map]; omega
    have lSJ : (jS fs ns2 sA sB).length ≤ 5 := by unfold jS; rw [List.length_append, List.length_map, List.length_map]; omega
    rw [← eN] at hT
    have okT : SysOk N ((jR fs ns2 rA rB).map lnR) ((jS fs ns2 sA sB).map lnS) := ok_sys h6N (fun z hz => hw z (inN z hz)) fRJ fSJ lRJ lSJ
    have hF17 := hF13.same s137
    have hS17 := hS13.same s137
    -- due
    refine ⟨_, rfl, _, rfl, pS, rfl, ⟨_, hS17.t⟩, fun Dl nDl => ?_⟩
    refine lc_tup (K := K) (a := pS) (xs := ns2.map V.str) (fun i H2 => Same H17 H2 ∧ H2 Dl = some (.lst (((ns2.take i).filter fun z => !decide (z ∈ fs)).map V.str))) ⟨Same.new nDl, upd_same⟩ (fun i H2 _ h => (hS17.same h.1).t) ?_ ?_
    · rintro i y Hx hi ⟨sx, hD⟩
      obtain ⟨z, ez, rfl⟩ := str_at hi
      have il := (List.getElem?_eq_some_iff.mp ez).1
      have ft := flt_take (fun z => !decide (z ∈ fs)) ez
      refine ⟨rfl, _, rfl, _, rfl, pf, _, rfl, .inr (hF17.same sx).t, rfl, flat_strs fs, _, rfl, ?_⟩
      rw [if_pos rfl, inV_strs]
      refine ite2 (fun e => ?_) (fun e => ?_)
      · refine ⟨_, rfl, _, hD, ?_, ?_, ?_⟩
        · rw [List.length_map]; exact smallt (Nat.lt_of_le_of_lt (List.length_filter_le _ _) (by rw [List.length_take]; omega))
        · intro c' u hc'
          rw [upd_ne (ne_of_none hc' nDl)]
          exact sx _ _ hc'
        · rw [upd_same, ft, if_pos e, List.map_append]; rfl
      · refine ⟨sx, ?_⟩
        rw [ft, if_neg e, List.append_nil]
        exact hD
    rintro H18 ⟨s18, hD⟩
    rw [List.length_map, List.take_length] at hD
    refine ⟨Dl, _, rfl, tofL hD, fun p1 o1 np1 od1 => ?_⟩
    have s19 : Same H17 (upd H18 p1 (.frz o1 (.tup ((ns2.filter fun z => !decide (z ∈ fs)).map V.str)))) := s18.trans (Same.new np1)
    have h19 : SqZ K (upd H18 p1 (.frz o1 (.tup ((ns2.filter fun z => !decide (z ∈ fs)).map V.str)))) p1 ((ns2.filter fun z => !decide (z ∈ fs)).map V.str) := .inl ⟨o1, upd_same, od1⟩
    revert s19 h19
    generalize upd H18 p1 (.frz o1 (.tup ((ns2.filter fun z => !decide (z ∈ fs)).map V.str))) = H19
    intro s19 h19
    refine catZ_of (hF17.same s19) h19 ?_ fun pd H20 s20 hd20 => ?_
    · have := h6N
      rw [eN] at this
      unfold joinN at this
      rw [List.length_append] at this
      rw [List.length_map, List.length_map]
      exact Nat.le_trans this (small (by decide))
    rw [← List.map_append, show fs ++ ns2.filter (fun z => !decide (z ∈ fs)) = N from eN.symm] at hd20
    have s1720 := s19.trans s20
    have s1320 := s137.trans s1720
    -- lines
    refine gN_of (n := 10) (v := V.ref pd) (σ' := stV d tn c b pf pS (some (V.ref pa)) (some (V.ref pb)) (some (V.ref lh)) (some (V.ref pt)) (some (V.ref pd)) none none none none none) rfl ?_
    have ia20 := s1320 _ _ ia
    have ib20 := s1320 _ _ ib
    obtain ⟨xsA, aA, bA⟩ := (pA.kp (Kp.of s1320)).rows
    obtain ⟨xsB, aB, bB⟩ := (pB.kp (Kp.of s1320)).rows
    obtain ⟨ysA, cA, dA⟩ := (pA.kp (Kp.of s1320)).rests
    obtain ⟨ysB, cB, dB⟩ := (pB.kp (Kp.of s1320)).rests
    have hF20 := hF17.same s1720
    have hS20 := hS17.same s1720
    have lRA := okA.rl
    have lRB := okB.rl
    have lSA := okA.sl
    have lSB := okB.sl
    have eRJ : (rA.map lnR).map (sprd fs N) ++ (rB.map lnR).map (sprd ns2 N) = (jR fs ns2 rA rB).map lnR := by rw [eN]; exact jR_eq fs ns2 rA rB
    have eSJ : (sA.map lnS).map (sprd fs N) ++ (sB.map lnS).map (sprd ns2 N) = (jS fs ns2 sA sB).map lnS := by rw [eN]; exact jS_eq fs ns2 sA sB
    have z20 : Same H20 H20 := fun _ _ z => z
    refine ⟨_, rfl, pa, C, dxa, _, _, rfl, z20 _ _ ia20, S.cl, S.nR, f_rows _ _ _, tra, rfl, ⟨_, (Kp.of z20).tup aA⟩, fun D1 nD1 => ?_⟩
    refine lc_tup (K := K) (a := tra) (xs := xsA) (fun i H2 => Same H20 H2 ∧ ∃ ys, H2 D1 = some (.lst ys) ∧ LnT K H2 ys (((rA.map lnR).take i).map (sprd fs N))) ⟨Same.new nD1, [], upd_same, .nil⟩ (fun i H2 _ h => (Kp.of (z20.trans h.1)).tup aA) ?_ ?_
    · rintro i y Hx hi ⟨sx, ys, hD, hY⟩
      have sbx := z20.trans sx
      obtain ⟨p, q', fs0, ms0, rfl, hp, hq', hl⟩ := (bA.to (Kp.of sbx).tups).get hi
      have il := (List.getElem?_eq_some_iff.mp hl).1
      have lo := (fit_R fRA (by omega)).2 _ (List.mem_of_getElem? hl)
      refine ⟨rfl, _, rfl, _, rfl, _, rfl, pf, p, pd, q', fs, N, fs0, ms0, rfl, hF20.same sbx, hp, hq', (hd20.same sbx).t, lo.1, by omega, by omega, lo.2.2, fun r t Hy sy h1 h2 => ?_⟩
      refine ⟨_, sy _ _ hD, ?_, ?_, _, upd_same, ?_⟩
      · rw [hY.len, List.length_map, List.length_take]; exact smallt (by omega)
      · intro c' u hc'
        rw [upd_ne (ne_of_none hc' nD1)]
        exact sy _ _ (sx _ _ hc')
      · rw [take_map1 hl]
        exact ((hY.to (Kp.of sy)).snoc h1 h2).to (kp_lst (sy _ _ hD))
    rintro H21 ⟨sH21, ws1, hD1, hY1⟩
    rw [bA.len, List.take_length] at hY1
    have tH21 := z20.trans sH21
    refine ⟨_, rfl, pb, C, dxb, _, _, rfl, tH21 _ _ ib20, S.cl, S.nR, f_rows _ _ _, trb, rfl, ⟨_, (Kp.of tH21).tup aB⟩, fun D2 nD2 => ?_⟩
    refine lc_tup (K := K) (a := trb) (xs := xsB) (fun i H2 => Same H21 H2 ∧ ∃ ys, H2 D2 = some (.lst ys) ∧ LnT K H2 ys (((rB.map lnR).take i).map (sprd ns2 N))) ⟨Same.new nD2, [], upd_same, .nil⟩ (fun i H2 _ h => (Kp.of (tH21.trans h.1)).tup aB) ?_ ?_
    · rintro i y Hx hi ⟨sx, ys, hD, hY⟩
      have sbx := tH21.trans sx
      obtain ⟨p, q', fs0, ms0, rfl, hp, hq', hl⟩ := (bB.to (Kp.of sbx).tups).get hi
      have il := (List.getElem?_eq_some_iff.mp hl).1
      have lo := (fit_R fRB (by omega)).2 _ (List.mem_of_getElem? hl)
      refine ⟨rfl, _, rfl, _, rfl, _, rfl, pS, p, pd, q', ns2, N, fs0, ms0, rfl, hS20.same sbx, hp, hq', (hd20.same sbx).t, lo.1, by omega, by omega, lo.2.2, fun r t Hy sy h1 h2 => ?_⟩
      refine ⟨_, sy _ _ hD, ?_, ?_, _, upd_same, ?_⟩
      · rw [hY.len, List.length_map, List.length_take]; exact smallt (by omega)
      · intro c' u hc'
        rw [upd_ne (ne_of_none hc' nD2)]
        exact sy _ _ (sx _ _ hc')
      · rw [take_map1 hl]
        exact ((hY.to (Kp.of sy)).snoc h1 h2).to (kp_lst (sy _ _ hD))
    rintro H22 ⟨sH22, ws2, hD2, hY2⟩
    rw [bB.len, List.take_length] at hY2
    have tH22 := tH21.trans sH22
    refine ⟨D1, D2, ws1, ws2, rfl, rfl, sH22 _ _ hD1, hD2, ?_, fun pl npl => ?_⟩
    · have e1 := hY1.len
      have e2 := hY2.len
      rw [List.length_map] at e1 e2
      exact Nat.le_trans (show ws1.length + ws2.length ≤ 10 by omega) (small (by decide))
    have sH23 : Same H22 (upd H22 pl (.lst (ws1 ++ ws2))) := Same.new npl
    have hpl : upd H22 pl (.lst (ws1 ++ ws2)) pl = some (.lst (ws1 ++ ws2)) := upd_same
    revert sH23 hpl
    generalize upd H22 pl (.lst (ws1 ++ ws2)) = H23
    intro sH23 hpl
    have tH23 := tH22.trans sH23
    have hL1 : LnT K H23 (ws1 ++ ws2) ((jR fs ns2 rA rB).map lnR) := by
      rw [← eRJ]
      exact ((hY1.to (Kp.of sH22)).app hY2).to (Kp.of sH23)
    refine gN_of (n := 12) (v := V.ref pl) (σ' := stV d tn c b pf pS (some (V.ref pa)) (some (V.ref pb)) (some (V.ref lh)) (some (V.ref pt)) (some (V.ref pd)) (some (V.ref pl)) none none none none) rfl ?_
    refine ⟨_, rfl, pa, C, dxa, _, _, rfl, tH23 _ _ ia20, S.cl, S.nS, f_rests _ _ _, tsa, rfl, ⟨_, (Kp.of tH23).tup cA⟩, fun D3 nD3 => ?_⟩
    refine lc_tup (K := K) (a := tsa) (xs := ysA) (fun i H2 => Same H23 H2 ∧ ∃ ys, H2 D3 = some (.lst ys) ∧ LnT K H2 ys (((sA.map lnS).take i).map (sprd fs N))) ⟨Same.new nD3, [], upd_same, .nil⟩ (fun i H2 _ h => (Kp.of (tH23.trans h.1)).tup cA) ?_ ?_
    · rintro i y Hx hi ⟨sx, ys, hD, hY⟩
      have sbx := tH23.trans sx
      obtain ⟨p, q', fs0, ms0, rfl, hp, hq', hl⟩ := (dA.to (Kp.of sbx).tups).get hi
      have il := (List.getElem?_eq_some_iff.mp hl).1
      have lo := (fit_S fSA (by omega)).2 _ (List.mem_of_getElem? hl)
      refine ⟨rfl, _, rfl, _, rfl, _, rfl, pf, p, pd, q', fs, N, fs0, ms0, rfl, hF20.same sbx, hp, hq', (hd20.same sbx).t, lo.1, by omega, by omega, lo.2.2, fun r t Hy sy h1 h2 => ?_⟩
      refine ⟨_, sy _ _ hD, ?_, ?_, _, upd_same, ?_⟩
      · rw [hY.len, List.length_map, List.length_take]; exact smallt (by omega)
      · intro c' u hc'
        rw [upd_ne (ne_of_none hc' nD3)]
        exact sy _ _ (sx _ _ hc')
      · rw [take_map1 hl]
        exact ((hY.to (Kp.of sy)).snoc h1 h2).to (kp_lst (sy _ _ hD))
    rintro H24 ⟨sH24, ws3, hD3, hY3⟩
    rw [dA.len, List.take_length] at hY3
    have tH24 := tH23.trans sH24
    refine ⟨_, rfl, pb, C, dxb, _, _, rfl, tH24 _ _ ib20, S.cl, S.nS, f_rests _ _ _, tsb, rfl, ⟨_, (Kp.of tH24).tup cB⟩, fun D4 nD4 => ?_⟩
    refine lc_tup (K := K) (a := tsb) (xs := ysB) (fun i H2 => Same H24 H2 ∧ ∃ ys, H2 D4 = some (.lst ys) ∧ LnT K H2 ys (((sB.map lnS).take i).map (sprd ns2 N))) ⟨Same.new nD4, [], upd_same, .nil⟩ (fun i H2 _ h => (Kp.of (tH24.trans h.1)).tup cB) ?_ ?_
    · rintro i y Hx hi ⟨sx, ys, hD, hY⟩
      have sbx := tH24.trans sx
      obtain ⟨p, q', fs0, ms0, rfl, hp, hq', hl⟩ := (dB.to (Kp.of sbx).tups).get hi
      have il := (List.getElem?_eq_some_iff.mp hl).1
      have lo := (fit_S fSB (by omega)).2 _ (List.mem_of_getElem? hl)
      refine ⟨rfl, _, rfl, _, rfl, _, rfl, pS, p, pd, q', ns2, N, fs0, ms0, rfl, hS20.same sbx, hp, hq', (hd20.same sbx).t, lo.1, by omega, by omega, lo.2.2, fun r t Hy sy h1 h2 => ?_⟩
      refine ⟨_, sy _ _ hD, ?_, ?_, _, upd_same, ?_⟩
      · rw [hY.len, List.length_map, List.length_take]; exact smallt (by omega)
      · intro c' u hc'
        rw [upd_ne (ne_of_none hc' nD4)]
        exact sy _ _ (sx _ _ hc')
      · rw [take_map1 hl]
        exact ((hY.to (Kp.of sy)).snoc h1 h2).to (kp_lst (sy _ _ hD))
    rintro H25 ⟨sH25, ws4, hD4, hY4⟩
    rw [dB.len, List.take_length] at hY4
    have tH25 := tH24.trans sH25
    refine ⟨D3, D4, ws3, ws4, rfl, rfl, sH25 _ _ hD3, hD4, ?_, fun pp npp => ?_⟩
    · have e1 := hY3.len
      have e2 := hY4.len
      rw [List.length_map] at e1 e2
      exact Nat.le_trans (show ws3.length + ws4.length ≤ 10 by omega) (small (by decide))
    have sH26 : Same H25 (upd H25 pp (.lst (ws3 ++ ws4))) := Same.new npp
    have hpp : upd H25 pp (.lst (ws3 ++ ws4)) pp = some (.lst (ws3 ++ ws4)) := upd_same
    revert sH26 hpp
    generalize upd H25 pp (.lst (ws3 ++ ws4)) = H26
    intro sH26 hpp
    have tH26 := tH25.trans sH26
    have hL3 : LnT K H26 (ws3 ++ ws4) ((jS fs ns2 sA sB).map lnS) := by
      rw [← eSJ]
      exact ((hY3.to (Kp.of sH25)).app hY4).to (Kp.of sH26)
    refine gN_of (n := 14) (v := V.ref pp) (σ' := stV d tn c b pf pS (some (V.ref pa)) (some (V.ref pb)) (some (V.ref lh)) (some (V.ref pt)) (some (V.ref pd)) (some (V.ref pl)) (some (V.ref pp)) none none none) rfl ?_
    -- told as it lies
    have s2326 := sH24.trans (sH25.trans sH26)
    have hpl26 := s2326 _ _ hpl
    have hL1' := hL1.to (Kp.of s2326)
    have s1726 := s1720.trans tH26
    have s1326 := s1320.trans tH26
    have hT26 := hT.kp (Kp.of s1726)
    have hd26 := hd20.same tH26
    obtain ⟨dxt, tnt, trt, tst, it, pT⟩ := id hT26
    refine ⟨_, rfl, pt, dxt, _, rfl, it, ?_⟩
    refine ⟨true, rfl, ?_⟩
    refine iteF ?_
    refine ⟨_, rfl, pt, N, _, _, rfl, hT26, okT, fun H27 s27 => ?_⟩
    refine ⟨_, rfl, _, rfl, .inl ⟨pl, _, rfl, tofL (s27 _ _ hpl26), fun t1 nt1 => ⟨_, rfl, .inl ⟨pp, _, rfl, tofL (Same.new nt1 _ _ (s27 _ _ hpp)), fun t2 nt2 => ⟨(show 3 ≤ sizeLine from small (by decide)), fun lz nlz => ?_⟩⟩⟩⟩⟩
    have k27 := Kp.of s27
    have s28 := Same.new (o := .tup (ws1 ++ ws2)) nt1
    have s29 := Same.new (o := .tup (ws3 ++ ws4)) nt2
    have s30 := Same.new (o := .lst [.ref pd, .ref t1, .ref t2]) nlz
    have s2630 := s27.trans (s28.trans (s29.trans s30))
    refine ⟨lz, sysD N ((jR fs ns2 rA rB).map lnR) ((jS fs ns2 sA sB).map lnS), 20000, 4, rfl, .lst (tofL upd_same) (.cons (.tup (hd26.same s2630).t (dpa_strs _)) (.cons (.tup (tofT (s30 _ _ (s29 _ _ upd_same))) (dp_lnt (hL1'.to (Kp.of s2630)))) (.cons (.tup (tofT (s30 _ _ upd_same)) (dp_lnt (hL3.to (Kp.of s2630)))) .nil))), nice_sys okT, by decide, by decide, rfl, ?_⟩
    have esh : (sysD N ((jR fs ns2 rA rB).map lnR) ((jS fs ns2 sA sB).map lnS)).shown = shownOf N ((jR fs ns2 rA rB).map lnR) ((jS fs ns2 sA sB).map lnS) := rfl
    rw [esh]
    generalize shownOf N ((jR fs ns2 rA rB).map lnR) ((jS fs ns2 sA sB).map lnS) = sh
    refine ⟨_, rfl, iteNS rfl ?_⟩
    revert s2630
    generalize upd (upd (upd H27 t1 (.tup (ws1 ++ ws2))) t2 (.tup (ws3 ++ ws4))) lz (.lst [.ref pd, .ref t1, .ref t2]) = H30
    intro s2630
    have s1330 := s1326.trans s2630
    have D30 := D13.same s1330
    have M030 := M013.trans (Mv.of s1330)
    have hlh30 : H30 lh = _ := (s17.trans (s1726.trans s2630)) _ _ hlh
    -- four laps
    refine ⟨4, rfl, by decide, by decide, ?_⟩
    refine for_range (fun i σ Hx => Deck Hx d g ∧ Mv d g H Hx ∧ Kp H30 Hx ∧ Hx lh = some (.lst ([shownOf fs (rA.map lnR) (sA.map lnS), shownOf ns2 (rB.map lnR) (sB.map lnS)].map V.str)) ∧ ∃ v15 v16 v17 : Option V, σ = stV d tn c b pf pS (some (V.ref pa)) (some (V.ref pb)) (some (V.ref lh)) (some (V.ref pt)) (some (V.ref pd)) (some (V.ref pl)) (some (V.ref pp)) v15 v16 v17)
      ⟨D30, M030, Kp.refl, hlh30, none, none, none, rfl⟩ ?_ ?_
    · rintro i σ Hx hi ⟨Dx, Mx, kx, hlx, v15, v16, v17, rfl⟩
      refine gN_of (n := 15) (σ' := stV d tn c b pf pS (some (V.ref pa)) (some (V.ref pb)) (some (V.ref lh)) (some (V.ref pt)) (some (V.ref pd)) (some (V.ref pl)) (some (V.ref pp)) (some (.int (0 + (i : Nat)))) v16 v17) rfl ?_
      have k13x := (Kp.of s1330).trans kx
      have hdx := kx.z (hd26.same s2630)
      -- some
      refine ⟨_, rfl, pd, rfl, ⟨_, hdx.t⟩, fun Dn nDn => ?_⟩
      have offn := Dx.off nDn
      refine lc_tup (K := K) (a := pd) (xs := N.map V.str) (fun j H2 => Deck H2 d g ∧ Mv d g Hx H2 ∧ ∃ ms : List Int, H2 Dn = some (.lst (ms.map V.int)) ∧ ms.length = j)
        ⟨Dx.new nDn, Mv.of (Same.new nDn), [], upd_same, rfl⟩ (fun j H2 _ h => ((Kp.mv Dx h.2.1).z hdx).t) ?_ ?_
      · rintro j y Hy hj ⟨Dy, My, ms, hms, lms⟩
        have jl := (List.getElem?_eq_some_iff.mp hj).1
        rw [List.length_map] at jl
        refine ⟨rfl, _, rfl, d, g, 7, rfl, Dy, by decide, by decide, fun r Hz r0 r1 Dz Mz => ⟨r, 3, rfl, rfl, ?_⟩⟩
        refine ⟨_, Mz.at hms offn, by rw [List.length_map]; exact smallt (by omega), Dz.mut offn, (My.trans Mz).mut nDn, ms ++ [r - 3], by rw [upd_same, List.map_append]; rfl, by rw [List.length_append, lms]; rfl⟩
      rintro Hy ⟨Dy, My, ms, hms, lms⟩
      rw [List.length_map] at lms
      refine .inl ⟨Dn, _, rfl, tofL hms, fun tm ntm => ?_⟩
      refine gN_of (n := 16) (σ' := stV d tn c b pf pS (some (V.ref pa)) (some (V.ref pb)) (some (V.ref lh)) (some (V.ref pt)) (some (V.ref pd)) (some (V.ref pl)) (some (V.ref pp)) (some (.int (0 + (i : Nat)))) (some (.ref tm)) v17) rfl ?_
      have sz := Same.new (o := .tup (ms.map V.int)) ntm
      have htm : upd Hy tm (.tup (ms.map V.int)) tm = some (.tup (ms.map V.int)) := upd_same
      have Dz := Dy.same sz
      have Mxz := My.trans (Mv.of sz)
      have kxz := (Kp.mv Dx My).trans (Kp.of sz)
      have hlz := (Mv.of sz).at (My.at hlx offL) offL
      revert htm Dz Mxz kxz hlz
      generalize upd Hy tm (.tup (ms.map V.int)) = Hz
      intro htm Dz Mxz kxz hlz
      have k13z := k13x.trans kxz
      have hdz := kxz.z hdx
      have hFz := k13z.z hF13
      have hSz := k13z.z hS13
      -- parts
      refine ⟨_, rfl, _, rfl, (show 2 ≤ sizeLine from small (by decide)), fun t0 nt0 => ?_⟩
      have s0 := Same.new (o := .tup [.ref pf, .ref pS]) nt0
      have ht0 : upd Hz t0 (.tup [.ref pf, .ref pS]) t0 = some (.tup [.ref pf, .ref pS]) := upd_same
      revert s0 ht0
      generalize upd Hz t0 (.tup [.ref pf, .ref pS]) = Ha
      intro s0 ht0
      refine ⟨t0, rfl, ⟨_, tofT ht0⟩, fun Dq nDq => ?_⟩
      refine lc_tup (K := K) (a := t0) (xs := [V.ref pf, V.ref pS]) (fun j H2 => Same Ha H2 ∧ ∃ ts, H2 Dq = some (.lst ts) ∧ TpAt H2 ts (([fs, ns2].take j).map fun o => o.map (valOf ms N)))
        ⟨Same.new nDq, [], upd_same, .nil⟩ (fun j H2 _ h => tofT (h.1 _ _ ht0)) ?_ ?_
      · rintro j y H2 hj ⟨s2, ts, hts, hP⟩
        have sz2 := s0.trans s2
        have hy : ∃ po o, y = .ref po ∧ [fs, ns2][j]? = some o ∧ SqZ K H2 po (o.map V.str) ∧ (∀ z ∈ o, z ∈ N) ∧ o.length ≤ 6 := by
          match j, hj with
          | 0, e =>
            cases e
            exact ⟨pf, fs, rfl, rfl, hFz.same sz2, fun z hz => by rw [eN]; exact join_l hz, h6F⟩
          | 1, e =>
            cases e
            exact ⟨pS, ns2, rfl, rfl, hSz.same sz2, fun z hz => by rw [eN]; exact join_r hz, h62⟩
        obtain ⟨po, o, rfl, eo, hpo, inO, lo⟩ := hy
        have jl := (List.getElem?_eq_some_iff.mp eo).1
        refine ⟨rfl, _, rfl, po, rfl, ⟨_, hpo.t⟩, fun Dr nDr => ?_⟩
        refine lc_tup (K := K) (a := po) (xs := o.map V.str) (fun k H3 => Same H2 H3 ∧ H3 Dr = some (.lst (((o.take k).map (valOf ms N)).map V.int))) ⟨Same.new nDr, upd_same⟩ (fun k H3 _ h => (hpo.same h.1).t) ?_ ?_
        · rintro k y H3 hk ⟨s3, hD⟩
          obtain ⟨z, ez, rfl⟩ := str_at hk
          have il := (List.getElem?_eq_some_iff.mp ez).1
          have hzN := inO z (List.mem_of_getElem? ez)
          have s23 := sz2.trans s3
          obtain ⟨i1, i2⟩ := idx_facts z N hzN
          refine ⟨rfl, _, rfl, _, rfl, ⟨pd, _, rfl, hdz.same s23⟩, _, rfl, pd, N, z, N.idxOf z, rfl, rfl, (hdz.same s23).t, i1, i2, tm, _, _, _, rfl, rfl, tofT (s23 _ _ htm), atI_nat (val_at hzN lms), ?_⟩
          refine ⟨_, hD, ?_, ?_, ?_⟩
          · rw [List.length_map, List.length_map, List.length_take]; exact smallt (by omega)
          · intro c' u hc'
            rw [upd_ne (ne_of_none hc' nDr)]
            exact s3 _ _ hc'
          · rw [upd_same, take_map1 ez, List.map_append]; rfl
        rintro H3 ⟨s3, hD⟩
        rw [List.length_map, List.take_length] at hD
        refine .inl ⟨Dr, _, rfl, tofL hD, fun tt ntt => ?_⟩
        have s34 := Same.new (o := .tup ((o.map (valOf ms N)).map V.int)) ntt
        have s24 := s3.trans s34
        refine ⟨_, s24 _ _ hts, ?_, ?_, _, upd_same, ?_⟩
        · rw [hP.len, List.length_map, List.length_take]; exact smallt (by show min j 2 < _; omega)
        · intro c' u hc'
          rw [upd_ne (ne_of_none hc' nDq)]
          exact s24 _ _ (s2 _ _ hc')
        · rw [take_map1 eo]
          exact ((hP.to (Kp.of s24).tups).snoc upd_same).to (kp_lst (s24 _ _ hts)).tups
      rintro Hq ⟨sq, ts, hts, hP⟩
      obtain ⟨q1, q2, rfl, hq1, hq2⟩ := hP.two
      refine gN_of (n := 17) (v := V.ref Dq) (σ' := stV d tn c b pf pS (some (V.ref pa)) (some (V.ref pb)) (some (V.ref lh)) (some (V.ref pt)) (some (V.ref pd)) (some (V.ref pl)) (some (V.ref pp)) (some (.int (0 + (i : Nat)))) (some (.ref tm)) (some (.ref Dq))) rfl ?_
      have szq := s0.trans sq
      have k13q := k13z.trans (Kp.of szq)
      have k26q := (Kp.of s2630).trans (kx.trans (kxz.trans (Kp.of szq)))
      have itq := k26q.ins it
      have pTq := pT.kp k26q
      have iaq := k13q.ins ia
      have pAq := pA.kp k13q
      have ibq := k13q.ins ib
      have pBq := pB.kp k13q
      have htmq := szq _ _ htm
      have nofT : (flds (.ref tnt) (.ref trt) (.ref tst)).lookup ("fulfils" : Str) = none := f_no _ _ _ (by decide +kernel) (by decide +kernel) (by decide +kernel)
      have nofA : (flds (.ref tna) (.ref tra) (.ref tsa)).lookup ("fulfils" : Str) = none := f_no _ _ _ (by decide +kernel) (by decide +kernel) (by decide +kernel)
      have nofB : (flds (.ref tnb) (.ref trb) (.ref tsb)).lookup ("fulfils" : Str) = none := f_no _ _ _ (by decide +kernel) (by decide +kernel) (by decide +kernel)
      obtain ⟨xT, aT, bT⟩ := pTq.rows
      obtain ⟨yT, cT, dT⟩ := pTq.rests
      obtain ⟨xA, aA', bA'⟩ := pAq.rows
      obtain ⟨yA, cA', dA'⟩ := pAq.rests
      obtain ⟨xB, aB', bB'⟩ := pBq.rows
      obtain ⟨yB, cB', dB'⟩ := pBq.rests
      have eJ := due_join (ms := ms) ndF nd2 fRA fRB fSA fSB (by rw [lms, eN])
      rw [← eN] at eJ
      have gA : FineR (fs.map (valOf ms N)).length rA := by rw [List.length_map]; exact fRA
      have gA' : FineS (fs.map (valOf ms N)).length sA := by rw [List.length_map]; exact fSA
      have gB : FineR (ns2.map (valOf ms N)).length rB := by rw [List.length_map]; exact fRB
      have gB' : FineS (ns2.map (valOf ms N)).length sB := by rw [List.length_map]; exact fSB
      refine ⟨_, rfl, pt, dxt, _, rfl, itq, nofT, _, rfl, pt, dxt, trt, tst, tm, _, xT, yT, _, _, ms, rfl, itq, aT, rows_ln bT, cT, rests_ln dT, tofT htmq, by omega, by omega, by omega, by rw [lms]; exact fRJ, by rw [lms]; exact fSJ, fun Hr sr => ⟨_, rfl, ?_⟩⟩
      refine ⟨_, rfl, pa, dxa, _, rfl, sr _ _ iaq, nofA, _, rfl, Dq, _, 0, _, rfl, rfl, tofL (sr _ _ hts), rfl, pa, dxa, tra, tsa, q1, _, xA, yA, _, _, _, rfl, sr _ _ iaq, (Kp.of sr).tup aA', rows_ln (bA'.to (Kp.of sr).tups), (Kp.of sr).tup cA', rests_ln (dA'.to (Kp.of sr).tups), tofT (sr _ _ hq1), by rw [List.length_map]; omega, by omega, by omega, gA, gA', fun Hs ss' => ?_⟩
      have srs := sr.trans ss'
      refine ⟨_, rfl, ?_⟩
      have endd : ∀ Hv, Same Hs Hv → Deck Hv d g ∧ Mv d g H Hv ∧ Kp H30 Hv ∧ Hv lh = some (.lst ([shownOf fs (rA.map lnR) (sA.map lnS), shownOf ns2 (rB.map lnR) (sB.map lnS)].map V.str)) := fun Hv sv =>
        have sA1 := szq.trans (srs.trans sv)
        ⟨Dz.same sA1, Mx.trans (Mxz.trans (Mv.of sA1)), kx.trans (kxz.trans (Kp.of sA1)), sA1 _ _ hlz⟩
      refine ite2 (fun w => ?_) (fun w => ?_)
      · refine ⟨_, rfl, pb, dxb, _, rfl, srs _ _ ibq, nofB, _, rfl, Dq, _, 1, _, rfl, rfl, tofL (srs _ _ hts), rfl, pb, dxb, trb, tsb, q2, _, xB, yB, _, _, _, rfl, srs _ _ ibq, (Kp.of srs).tup aB', rows_ln (bB'.to (Kp.of srs).tups), (Kp.of srs).tup cB', rests_ln (dB'.to (Kp.of srs).tups), tofT (srs _ _ hq2), by rw [List.length_map]; omega, by omega, by omega, gB, gB', fun Ht st => ?_⟩
        refine ⟨_, rfl, rfl, _, rfl, iteNS ?_ ?_⟩
        · rw [eJ, w, Bool.true_and]
        · obtain ⟨a1, a2, a3, a4⟩ := endd Ht st
          exact ⟨a1, a2, a3, a4, _, _, _, rfl⟩
      · refine ⟨_, rfl, rfl, _, rfl, iteNS ?_ ?_⟩
        · rw [eJ, Bool.eq_false_iff.mpr w, Bool.false_and]
        · obtain ⟨a1, a2, a3, a4⟩ := endd Hs (fun _ _ z => z)
          exact ⟨a1, a2, a3, a4, _, _, _, rfl⟩
    rintro σ Hf ⟨Df, Mf, kf, hlf, v15, v16, v17, rfl⟩
    have k13f := (Kp.of s1330).trans kf
    have hAf := hA13.kp k13f
    have hBf := hB13.kp k13f
    refine ⟨_, rfl, pa, fs, _, _, rfl, hAf, okA, fun Hg sg => ⟨_, rfl, pb, ns2, _, _, rfl, hBf.kp (Kp.of sg), okB, fun Hh sh2 => ⟨(show 2 ≤ sizeLine from small (by decide)), fun o no => ?_⟩⟩⟩
    have hs1 := asc_shown okA
    have hs2 := asc_shown okB
    have sE := sg.trans (sh2.trans (Same.new (o := .lst [.str (shownOf fs (rA.map lnR) (sA.map lnS)), .str (shownOf ns2 (rB.map lnR) (sB.map lnS))]) no))
    have hsh : SeqAt.shaped (.list ([shownOf fs (rA.map lnR) (sA.map lnS), shownOf ns2 (rB.map lnR) (sB.map lnS)].map PyData.str)) = true := shaped_asc _ fun z hz => by
      rcases List.mem_cons.mp hz with rfl | hz
      · exact hs1
      · rw [List.mem_singleton.mp hz]; exact hs2
    refine ⟨_, rfl, _, _, .lst (tofL upd_same) (dpa_strs [_, _]), .lst (tofL (sE _ _ hlf)) (dpa_strs _), hsh, hsh, ?_⟩
    have hcan : PyData.canLay0 (.list ([shownOf fs (rA.map lnR) (sA.map lnS), shownOf ns2 (rB.map lnR) (sB.map lnS)].map PyData.str)) = true := by
      unfold SeqAt.shaped at hsh
      exact (Bool.and_eq_true_iff.mp hsh).1
    have er := PySem.SeqAt.eqv_refl _ hcan
    refine Eq.mp ?_ (q _ (Df.same sE) (Mf.trans (Mv.of sE)))
    rw [er]
end
end KX
namespace KX
open PySem PySem.Spec PyProof.Rows L2 GL RZ
theorem vals_rev : ∀ {xs : List V} {us : List Value}, Vals xs us → Vals xs.reverse us.reverse
  | _, _, .nil => .nil
  | _, _, .cons r t => by
    rw [List.reverse_cons, List.reverse_cons]
    exact Vals.append (vals_rev t) (.cons r .nil)
theorem kit_same {K : PySem.W.Frag} {C : Addr} : PySem.W.kitOne K (.ref C) (.ref C) = some true := by
  unfold PySem.W.kitOne
  exact if_pos (by first | exact beq_self_eq_true _ | rfl | simp | decide)
def spLaw (K : PySem.W.Frag) : Sp := fun vs H Q _ => ∃ (a : Addr) (ns : List Int), vs = [.ref a] ∧ SqL K H a (ns.map V.int) ∧ ns.length ≤ 63 ∧ ∀ H', Q (.bl true) H'
section
variable {P : Program} {w : World} {K : PySem.W.Frag} {mg : Str → Option Value} {base : Heap}
abbrev s_law : Stmt := topS 40
theorem sc_law : FnScope ["_law_script", "_law_deck_here", "_law_lap"] ["_law_script"] (defScope s_law) := ⟨rfl, rfl, rfl, by decide +kernel, rfl, by decide +kernel, by decide +kernel⟩
theorem ok_law {f : Addr} {fd : FuncData} (F : Fun K "law" "law" s_law f fd) (T : Bl mg) (D_deck : DefG P w K mg base 1 "_law_deck" ["_law_script"] (spDeck K)) (D_j : DefG P w K mg base 5 "_law_joined_right" ["_law_deck_here"] spRight)
    (D_w : DefG P w K mg base 5 "_law_without_right" ["_law_deck_here"] spRight) (D_r : DefG P w K mg base 5 "_law_renamed_right" ["_law_deck_here"] spRight) (D_e : DefG P w K mg base 5 "_law_equate_right" ["_law_deck_here"] spRight) :
    FnG P w K mg base CX0 6 f fd ["_law_script"] (spLaw K) := by
  refine okG F sc_law (fun vs H Q E h => ?_) fun cdv A outer s H vs Q E hr hc h => ?_
  · obtain ⟨a, ns, rfl, _⟩ := h
    rfl
  · obtain ⟨a, ns, rfl, hS, hl, q⟩ := h
    have nd := sc_law.nd
    refine ⟨_, (pss_cons (ps_set (i := 1) nd rfl (by first | exact Or.inl rfl | exact Or.inr rfl) (pe_def D_deck (hr.mono (by decide)) hc (by rfl) (pa_cons (pv 0) pa_nil)))
      (pss_cons (ps_for PassesOwn.never rfl (pi_range1 (by rfl) T.range (pa_cons pe_int pa_nil)) (pg_name (i := 2) nd rfl (by first | exact Or.inl rfl | exact Or.inr rfl))
        (pss_cons (ps_if (PW.pt (pw_or (pt_not (pt_val (pe_def D_j (hr.mono (by decide)) hc (by rfl) (pa_cons (pv 1) pa_nil)))) (pw_or1 (pt_not (pt_val (pe_def D_w (hr.mono (by decide)) hc (by rfl) (pa_cons (pv 1) pa_nil)))))))
          (pss_one (ps_ret pe_bl))
          pss_nil)
        (pss_one (ps_if (PW.pt (pw_or (pt_not (pt_val (pe_def D_r (hr.mono (by decide)) hc (by rfl) (pa_cons (pv 1) pa_nil)))) (pw_or1 (pt_not (pt_val (pe_def D_e (hr.mono (by decide)) hc (by rfl) (pa_cons (pv 1) pa_nil)))))))
          (pss_one (ps_ret pe_bl))
          pss_nil))))
      (pss_one (ps_ret pe_bl)))), ?_⟩
    refine ⟨_, rfl, a, ns, rfl, hS, hl, fun d g H1 s1 nd1 ng1 D1 => ?_⟩
    refine ⟨4, rfl, by decide, by decide, for_range (fun i σ Hx => ∃ v2, σ = [some (.ref a), some (.ref d), v2] ∧ Deck Hx d g) ⟨none, rfl, D1⟩ ?_ ?_⟩
    · rintro i σ Hx hi ⟨v2, rfl, Dx⟩
      exact ⟨_, rfl, d, g, rfl, Dx, fun Hy Dy My => ⟨_, rfl, iteF ⟨_, rfl, d, g, rfl, Dy, fun Hz Dz Mz => ⟨_, rfl, iteF ⟨_, rfl, d, g, rfl, Dz, fun Hu Du Mu => ⟨_, rfl, iteF ⟨_, rfl, d, g, rfl, Du, fun Hw Dw Mw => ⟨_, rfl, iteF ⟨_, rfl, Dw⟩⟩⟩⟩⟩⟩⟩⟩⟩
    · rintro σ Hx ⟨v2, rfl, Dx⟩
      exact q Hx
end
theorem walk {l : PySem.W.OpenLaw} {q : Program} {loose : List Str} {XP : (Str → Option Value) → Heap → Prop} {YP : World → Heap → Prop} {d : DefRec} {K : Params → PySem.W.Frag} (hn : l.most = some 63) (hdf : d.params.defaults = [])
    (hY : ∀ (w : World) (h : Heap), YP w h → (K w.params).In h)
    (F : ∀ (w : World) (mg : Str → Option Value) (fa : Addr) (h : Heap), (K w.params).In h → h.Ns mainGlobals mg → mg d.name = some (.ref fa) →
      ∃ fd : FuncData, (∀ (s : Shared) (u : Value), BindsTo s fd ⟨[u], []⟩ [("_law_script", u)]) ∧ ∀ base : Heap, (K w.params).In base → base.Ns mainGlobals mg → FnG l.prog w (K w.params) mg base CX0 6 fa fd ["_law_script"] (spLaw (K w.params))) :
    PySem.W.WalkO q loose XP YP l.row.toRowW d [] (fun f vs => PySem.call f vs) :=
  walkG (n := 63) (k := 6) (x := "_law_script") (sp := spLaw) hn (by decide) hdf ⟨rfl, by decide, by decide⟩ hY F (fun _ _ a ns hl _ hS => ⟨a, ns, rfl, hS, hl, fun _ => rfl⟩)
end KX
namespace KX
open PySem PySem.Spec PyProof.Rows L2 GL RZ TL
theorem all_mk {l : PySem.W.OpenLaw} {w : World} {K : PySem.W.Frag} {h : Heap} {mg : Str → Option Value} {fa f_dot f_factor f_spread f_deck f_draw f_pick f_called f_factors f_made f_shown f_put f_jr f_wr f_rr f_er f_law : Addr} (X : K.In h) (G : h.Ns mainGlobals mg) (hfa : mg "law" = some (.ref fa))
    {od_dot an_dot : Option Addr} {sl_dot : Array (Option Value)} {oc_dot kV_dot dc_dot pm_dot cd_dot ct_dot : Value}
    {od_factor an_factor : Option Addr} {sl_factor : Array (Option Value)} {oc_factor kV_factor dc_factor pm_factor cd_factor ct_factor : Value}
    {od_spread an_spread : Option Addr} {sl_spread : Array (Option Value)} {oc_spread kV_spread dc_spread pm_spread cd_spread ct_spread : Value}
    {od_deck an_deck : Option Addr} {sl_deck : Array (Option Value)} {oc_deck kV_deck dc_deck pm_deck cd_deck ct_deck : Value}
    {od_draw an_draw : Option Addr} {sl_draw : Array (Option Value)} {oc_draw kV_draw dc_draw pm_draw cd_draw ct_draw : Value}
    {od_pick an_pick : Option Addr} {sl_pick : Array (Option Value)} {oc_pick kV_pick dc_pick pm_pick cd_pick ct_pick : Value}
    {od_called an_called : Option Addr} {sl_called : Array (Option Value)} {oc_called kV_called dc_called pm_called cd_called ct_called : Value}
    {od_factors an_factors : Option Addr} {sl_factors : Array (Option Value)} {oc_factors kV_factors dc_factors pm_factors cd_factors ct_factors : Value}
    {od_made an_made : Option Addr} {sl_made : Array (Option Value)} {oc_made kV_made dc_made pm_made cd_made ct_made : Value}
    {od_shown an_shown : Option Addr} {sl_shown : Array (Option Value)} {oc_shown kV_shown dc_shown pm_shown cd_shown ct_shown : Value}
    {od_put an_put : Option Addr} {sl_put : Array (Option Value)} {oc_put kV_put dc_put pm_put cd_put ct_put : Value}
    {od_jr an_jr : Option Addr} {sl_jr : Array (Option Value)} {oc_jr kV_jr dc_jr pm_jr cd_jr ct_jr : Value}
    {od_wr an_wr : Option Addr} {sl_wr : Array (Option Value)} {oc_wr kV_wr dc_wr pm_wr cd_wr ct_wr : Value}
    {od_rr an_rr : Option Addr} {sl_rr : Array (Option Value)} {oc_rr kV_rr dc_rr pm_rr cd_rr ct_rr : Value}
    {od_er an_er : Option Addr} {sl_er : Array (Option Value)} {oc_er kV_er dc_er pm_er cd_er ct_er : Value}
    {od_law an_law : Option Addr} {sl_law : Array (Option Value)} {oc_law kV_law dc_law pm_law cd_law ct_law : Value}
    {C fI fF fA fW fR fE T0 E0 : Addr} {dT dE : Option Addr} {slT slE0 : Array (Option Value)} {nT nE : Nat}
    {odI anI : Option Addr} {slI : Array (Option Value)} {ocI kVI dcI pmI cdI ctI : Value}
    {odF anF : Option Addr} {slF : Array (Option Value)} {ocF kVF dcF pmF cdF ctF : Value}
    {odA anA : Option Addr} {slA : Array (Option Value)} {ocA kVA dcA pmA cdA ctA : Value}
    {odW anW : Option Addr} {slW : Array (Option Value)} {ocW kVW dcW pmW cdW ctW : Value}
    {odR anR : Option Addr} {slR : Array (Option Value)} {ocR kVR dcR pmR cdR ctR : Value}
    {odE anE : Option Addr} {slE : Array (Option Value)} {ocE kVE dcE pmE cdE ctE : Value}
    (a_dot : PySem.W.nsIn K mainGlobals "dot" = some (some (.ref f_dot)))
    (l_dot : K.lookup f_dot = some ⟨oc_dot, od_dot, .func (PySem.W.fnOf "dot" "dot" (defArgs s_dot) (defBody s_dot) (defScope s_dot) .none kV_dot dc_dot pm_dot an_dot cd_dot ct_dot), sl_dot⟩)
    (c_dot : PySem.W.codeIn K cd_dot "dot" = true) (k_dot : PySem.W.keepIn K (.ref f_dot) = true)
    (a_factor : PySem.W.nsIn K mainGlobals "_factor" = some (some (.ref f_factor)))
    (l_factor : K.lookup f_factor = some ⟨oc_factor, od_factor, .func (PySem.W.fnOf "_factor" "_factor" (defArgs s_factor) (defBody s_factor) (defScope s_factor) .none kV_factor dc_factor pm_factor an_factor cd_factor ct_factor), sl_factor⟩)
    (c_factor : PySem.W.codeIn K cd_factor "_factor" = true) (k_factor : PySem.W.keepIn K (.ref f_factor) = true)
    (a_spread : PySem.W.nsIn K mainGlobals "_spread" = some (some (.ref f_spread)))
    (l_spread : K.lookup f_spread = some ⟨oc_spread, od_spread, .func (PySem.W.fnOf "_spread" "_spread" (defArgs s_spread) (defBody s_spread) (defScope s_spread) .none kV_spread dc_spread pm_spread an_spread cd_spread ct_spread), sl_spread⟩)
    (c_spread : PySem.W.codeIn K cd_spread "_spread" = true) (k_spread : PySem.W.keepIn K (.ref f_spread) = true)
    (a_deck : PySem.W.nsIn K mainGlobals "_law_deck" = some (some (.ref f_deck)))
    (l_deck : K.lookup f_deck = some ⟨oc_deck, od_deck, .func (PySem.W.fnOf "_law_deck" "_law_deck" (defArgs s_deck) (defBody s_deck) (defScope s_deck) .none kV_deck dc_deck pm_deck an_deck cd_deck ct_deck), sl_deck⟩)
    (c_deck : PySem.W.codeIn K cd_deck "_law_deck" = true) (k_deck : PySem.W.keepIn K (.ref f_deck) = true)
    (a_draw : PySem.W.nsIn K mainGlobals "_law_draw" = some (some (.ref f_draw)))
    (l_draw : K.lookup f_draw = some ⟨oc_draw, od_draw, .func (PySem.W.fnOf "_law_draw" "_law_draw" (defArgs s_draw) (defBody s_draw) (defScope s_draw) .none kV_draw dc_draw pm_draw an_draw cd_draw ct_draw), sl_draw⟩)
    (c_draw : PySem.W.codeIn K cd_draw "_law_draw" = true) (k_draw : PySem.W.keepIn K (.ref f_draw) = true)
    (a_pick : PySem.W.nsIn K mainGlobals "_law_pick" = some (some (.ref f_pick)))
    (l_pick : K.lookup f_pick = some ⟨oc_pick, od_pick, .func (PySem.W.fnOf "_law_pick" "_law_pick" (defArgs s_pick) (defBody s_pick) (defScope s_pick) .none kV_pick dc_pick pm_pick an_pick cd_pick ct_pick), sl_pick⟩)
    (c_pick : PySem.W.codeIn K cd_pick "_law_pick" = true) (k_pick : PySem.W.keepIn K (.ref f_pick) = true)
    (a_called : PySem.W.nsIn K mainGlobals "_law_called" = some (some (.ref f_called)))
    (l_called : K.lookup f_called = some ⟨oc_called, od_called, .func (PySem.W.fnOf "_law_called" "_law_called" (defArgs s_called) (defBody s_called) (defScope s_called) .none kV_called dc_called pm_called an_called cd_called ct_called), sl_called⟩)
    (c_called : PySem.W.codeIn K cd_called "_law_called" = true) (k_called : PySem.W.keepIn K (.ref f_called) = true)
    (a_factors : PySem.W.nsIn K mainGlobals "_law_factors" = some (some (.ref f_factors)))
    (l_factors : K.lookup f_factors = some ⟨oc_factors, od_factors, .func (PySem.W.fnOf "_law_factors" "_law_factors" (defArgs s_factors) (defBody s_factors) (defScope s_factors) .none kV_factors dc_factors pm_factors an_factors cd_factors ct_factors), sl_factors⟩)
    (c_factors : PySem.W.codeIn K cd_factors "_law_factors" = true) (k_factors : PySem.W.keepIn K (.ref f_factors) = true)
    (a_made : PySem.W.nsIn K mainGlobals "_law_made" = some (some (.ref f_made)))
    (l_made : K.lookup f_made = some ⟨oc_made, od_made, .func (PySem.W.fnOf "_law_made" "_law_made" (defArgs s_made) (defBody s_made) (defScope s_made) .none kV_made dc_made pm_made an_made cd_made ct_made), sl_made⟩)
    (c_made : PySem.W.codeIn K cd_made "_law_made" = true) (k_made : PySem.W.keepIn K (.ref f_made) = true)
    (a_shown : PySem.W.nsIn K mainGlobals "_law_shown" = some (some (.ref f_shown)))
    (l_shown : K.lookup f_shown = some ⟨oc_shown, od_shown, .func (PySem.W.fnOf "_law_shown" "_law_shown" (defArgs s_shown) (defBody s_shown) (defScope s_shown) .none kV_shown dc_shown pm_shown an_shown cd_shown ct_shown), sl_shown⟩)
    (c_shown : PySem.W.codeIn K cd_shown "_law_shown" = true) (k_shown : PySem.W.keepIn K (.ref f_shown) = true)
    (a_put : PySem.W.nsIn K mainGlobals "_law_put" = some (some (.ref f_put)))
    (l_put : K.lookup f_put = some ⟨oc_put, od_put, .func (PySem.W.fnOf "_law_put" "_law_put" (defArgs s_put) (defBody s_put) (defScope s_put) .none kV_put dc_put pm_put an_put cd_put ct_put), sl_put⟩)
    (c_put : PySem.W.codeIn K cd_put "_law_put" = true) (k_put : PySem.W.keepIn K (.ref f_put) = true)
    (a_jr : PySem.W.nsIn K mainGlobals "_law_joined_right" = some (some (.ref f_jr)))
    (l_jr : K.lookup f_jr = some ⟨oc_jr, od_jr, .func (PySem.W.fnOf "_law_joined_right" "_law_joined_right" (defArgs s_joined_right) (defBody s_joined_right) (defScope s_joined_right) .none kV_jr dc_jr pm_jr an_jr cd_jr ct_jr), sl_jr⟩)
    (c_jr : PySem.W.codeIn K cd_jr "_law_joined_right" = true) (k_jr : PySem.W.keepIn K (.ref f_jr) = true)
    (a_wr : PySem.W.nsIn K mainGlobals "_law_without_right" = some (some (.ref f_wr)))
    (l_wr : K.lookup f_wr = some ⟨oc_wr, od_wr, .func (PySem.W.fnOf "_law_without_right" "_law_without_right" (defArgs s_without_right) (defBody s_without_right) (defScope s_without_right) .none kV_wr dc_wr pm_wr an_wr cd_wr ct_wr), sl_wr⟩)
    (c_wr : PySem.W.codeIn K cd_wr "_law_without_right" = true) (k_wr : PySem.W.keepIn K (.ref f_wr) = true)
    (a_rr : PySem.W.nsIn K mainGlobals "_law_renamed_right" = some (some (.ref f_rr)))
    (l_rr : K.lookup f_rr = some ⟨oc_rr, od_rr, .func (PySem.W.fnOf "_law_renamed_right" "_law_renamed_right" (defArgs s_renamed_right) (defBody s_renamed_right) (defScope s_renamed_right) .none kV_rr dc_rr pm_rr an_rr cd_rr ct_rr), sl_rr⟩)
    (c_rr : PySem.W.codeIn K cd_rr "_law_renamed_right" = true) (k_rr : PySem.W.keepIn K (.ref f_rr) = true)
    (a_er : PySem.W.nsIn K mainGlobals "_law_equate_right" = some (some (.ref f_er)))
    (l_er : K.lookup f_er = some ⟨oc_er, od_er, .func (PySem.W.fnOf "_law_equate_right" "_law_equate_right" (defArgs s_equate_right) (defBody s_equate_right) (defScope s_equate_right) .none kV_er dc_er pm_er an_er cd_er ct_er), sl_er⟩)
    (c_er : PySem.W.codeIn K cd_er "_law_equate_right" = true) (k_er : PySem.W.keepIn K (.ref f_er) = true)
    (a_law : PySem.W.nsIn K mainGlobals "law" = some (some (.ref f_law)))
    (l_law : K.lookup f_law = some ⟨oc_law, od_law, .func (PySem.W.fnOf "law" "law" (defArgs s_law) (defBody s_law) (defScope s_law) .none kV_law dc_law pm_law an_law cd_law ct_law), sl_law⟩)
    (c_law : PySem.W.codeIn K cd_law "law" = true) (k_law : PySem.W.keepIn K (.ref f_law) = true)
    (aC : PySem.W.nsIn K mainGlobals "System" = some (some (.ref C)))
    (aI : PySem.W.findIn K (.ref C) "__init__" = some (some (.ref fI))) (iI : PySem.W.isFn K (.ref fI) = true) (lI : K.lookup fI = some ⟨ocI, odI, .func (PySem.W.fnOf "__init__" "System.__init__" (defArgs s_init) (defBody s_init) (defScope s_init) (.ref T0) kVI dcI pmI anI cdI ctI), slI⟩) (cI : PySem.W.codeIn K cdI "System.__init__" = true) (kI : PySem.W.keepIn K (.ref fI) = true)
    (aF : PySem.W.findIn K (.ref C) "fulfils" = some (some (.ref fF))) (iF : PySem.W.isFn K (.ref fF) = true) (lF : K.lookup fF = some ⟨ocF, odF, .func (PySem.W.fnOf "fulfils" "System.fulfils" (defArgs s_ful) (defBody s_ful) (defScope s_ful) .none kVF dcF pmF anF cdF ctF), slF⟩) (cF : PySem.W.codeIn K cdF "System.fulfils" = true) (kF : PySem.W.keepIn K (.ref fF) = true)
    (aA : PySem.W.findIn K (.ref C) "__and__" = some (some (.ref fA))) (iA : PySem.W.isFn K (.ref fA) = true) (lA : K.lookup fA = some ⟨ocA, odA, .func (PySem.W.fnOf "__and__" "System.__and__" (defArgs s_and) (defBody s_and) (defScope s_and) .none kVA dcA pmA anA cdA ctA), slA⟩) (cA : PySem.W.codeIn K cdA "System.__and__" = true) (kA : PySem.W.keepIn K (.ref fA) = true)
    (aW : PySem.W.findIn K (.ref C) "without" = some (some (.ref fW))) (iW : PySem.W.isFn K (.ref fW) = true) (lW : K.lookup fW = some ⟨ocW, odW, .func (PySem.W.fnOf "without" "System.without" (defArgs s_without) (defBody s_without) (defScope s_without) .none kVW dcW pmW anW cdW ctW), slW⟩) (cW : PySem.W.codeIn K cdW "System.without" = true) (kW : PySem.W.keepIn K (.ref fW) = true)
    (aR : PySem.W.findIn K (.ref C) "renamed" = some (some (.ref fR))) (iR : PySem.W.isFn K (.ref fR) = true) (lR : K.lookup fR = some ⟨ocR, odR, .func (PySem.W.fnOf "renamed" "System.renamed" (defArgs s_renamed) (defBody s_renamed) (defScope s_renamed) .none kVR dcR pmR anR cdR ctR), slR⟩) (cR : PySem.W.codeIn K cdR "System.renamed" = true) (kR : PySem.W.keepIn K (.ref fR) = true)
    (aE : PySem.W.findIn K (.ref C) "equate" = some (some (.ref fE))) (iE : PySem.W.isFn K (.ref fE) = true) (lE : K.lookup fE = some ⟨ocE, odE, .func (PySem.W.fnOf "equate" "System.equate" (defArgs s_equate) (defBody s_equate) (defScope s_equate) .none kVE dcE pmE anE cdE ctE), slE⟩) (cE : PySem.W.codeIn K cdE "System.equate" = true) (kE : PySem.W.keepIn K (.ref fE) = true)
    (lT : K.lookup T0 = some ⟨.type "tuple", dT, .seq #[.ref E0] nT, slT⟩) (lE0 : K.lookup E0 = some ⟨.type "tuple", dE, .seq #[] nE, slE0⟩)
    (pg : PySem.W.plainGet K C Str.empty = true) (hd : PySem.W.hasDictIn K C = true) (po : PySem.W.plainOver K C = true) (sa : PySem.W.findIn K (.ref C) "__setattr__" = some (some (.builtin "object.__setattr__"))) (mk : PySem.W.makesIn K C = true) (kc : PySem.W.keepIn K (.ref C) = true)
    (nN : PySem.W.findIn K (.ref C) "names" = some none) (nR : PySem.W.findIn K (.ref C) "rows" = some none) (nS : PySem.W.findIn K (.ref C) "rests" = some none)
    (qa : PySem.W.findIn K (.ref C) "__class__" = some (some (.builtin "object.__class__"))) (qn : PySem.W.specialIn K (.builtin "object.__class__") "__get__" = some (some (.builtin "getset_descriptor.__get__"))) (qt : PySem.W.takesIn K (.builtin "object.__class__") = some true) (qm : PySem.W.mroIn K C (.type "object") = some true)
    (sf : PySem.W.selfFirst K C = true)
    (z_min : PySem.W.nsIn K mainGlobals "min" = some none) (z_is : PySem.W.nsIn K mainGlobals "isinstance" = some none) (z_list : PySem.W.nsIn K mainGlobals "list" = some none)
    (z_int : PySem.W.nsIn K mainGlobals "int" = some none)
    (z_len : PySem.W.nsIn K mainGlobals "len" = some none)
    (z_range : PySem.W.nsIn K mainGlobals "range" = some none)
    (z_tuple : PySem.W.nsIn K mainGlobals "tuple" = some none)
    (z_str : PySem.W.nsIn K mainGlobals "str" = some none)
    (z_abs : PySem.W.nsIn K mainGlobals "abs" = some none)
    (z_any : PySem.W.nsIn K mainGlobals "any" = some none)
    (z_sum : PySem.W.nsIn K mainGlobals "sum" = some none)
    (z_zip : PySem.W.nsIn K mainGlobals "zip" = some none)
    (z_enumerate : PySem.W.nsIn K mainGlobals "enumerate" = some none)
    (z_repr : PySem.W.nsIn K mainGlobals "repr" = some none) :
    ∃ fd : FuncData, (∀ (s : Shared) (v : Value), BindsTo s fd ⟨[v], []⟩ [("_law_script", v)]) ∧ ∀ base : Heap, K.In base → base.Ns mainGlobals mg → FnG l.prog w K mg base CX0 6 fa fd ["_law_script"] (spLaw K) := by
  have e := hfa.symm.trans (PySem.W.mg_of X G a_law)
  cases e
  have F_dot := fun_mk (st := s_dot) l_dot c_dot k_dot
  have g_dot := PySem.W.mg_of X G a_dot
  have F_factor := fun_mk (st := s_factor) l_factor c_factor k_factor
  have g_factor := PySem.W.mg_of X G a_factor
  have F_spread := fun_mk (st := s_spread) l_spread c_spread k_spread
  have g_spread := PySem.W.mg_of X G a_spread
  have F_deck := fun_mk (st := s_deck) l_deck c_deck k_deck
  have g_deck := PySem.W.mg_of X G a_deck
  have F_draw := fun_mk (st := s_draw) l_draw c_draw k_draw
  have g_draw := PySem.W.mg_of X G a_draw
  have F_pick := fun_mk (st := s_pick) l_pick c_pick k_pick
  have g_pick := PySem.W.mg_of X G a_pick
  have F_called := fun_mk (st := s_called) l_called c_called k_called
  have g_called := PySem.W.mg_of X G a_called
  have F_factors := fun_mk (st := s_factors) l_factors c_factors k_factors
  have g_factors := PySem.W.mg_of X G a_factors
  have F_made := fun_mk (st := s_made) l_made c_made k_made
  have g_made := PySem.W.mg_of X G a_made
  have F_shown := fun_mk (st := s_shown) l_shown c_shown k_shown
  have g_shown := PySem.W.mg_of X G a_shown
  have F_put := fun_mk (st := s_put) l_put c_put k_put
  have g_put := PySem.W.mg_of X G a_put
  have F_jr := fun_mk (st := s_joined_right) l_jr c_jr k_jr
  have g_jr := PySem.W.mg_of X G a_jr
  have F_wr := fun_mk (st := s_without_right) l_wr c_wr k_wr
  have g_wr := PySem.W.mg_of X G a_wr
  have F_rr := fun_mk (st := s_renamed_right) l_rr c_rr k_rr
  have g_rr := PySem.W.mg_of X G a_rr
  have F_er := fun_mk (st := s_equate_right) l_er c_er k_er
  have g_er := PySem.W.mg_of X G a_er
  have F_law := fun_mk (st := s_law) l_law c_law k_law
  have T : Bl mg := ⟨PySem.W.mg_none_of X G z_int, PySem.W.mg_none_of X G z_len, PySem.W.mg_none_of X G z_range, PySem.W.mg_none_of X G z_tuple, PySem.W.mg_none_of X G z_str, PySem.W.mg_none_of X G z_abs, PySem.W.mg_none_of X G z_any, PySem.W.mg_none_of X G z_sum, PySem.W.mg_none_of X G z_zip, PySem.W.mg_none_of X G z_enumerate, PySem.W.mg_none_of X G z_repr⟩
  refine ⟨PySem.W.fnOf "law" "law" (defArgs s_law) (defBody s_law) (defScope s_law) .none kV_law dc_law pm_law an_law cd_law ct_law, fun s v => .of_eq rfl, fun base _ _ => ?_⟩
  have S : Sys K mg C := ⟨⟨pg, hd, po, sa⟩, nN, nR, nS, PySem.W.mg_of X G aC⟩
  have FI0 : FunD K "__init__" "System.__init__" (defArgs s_init) (defBody s_init) (defScope s_init) [.ref E0] [] fI _ := ⟨⟨ocI, odI, _, kVI, dcI, pmI, anI, cdI, ctI, slI, rfl, lI, cI, .inr ⟨(fun z => nomatch z), T0, _, [.ref E0], nT, rfl, lT, rfl, .cons rfl .nil⟩, .inl rfl⟩, kI⟩
  have FF0 := fun_mk (st := s_ful) lF cF kF
  have FA0 := fun_mk (st := s_and) lA cA kA
  have FE0 := fun_mk (st := s_equate) lE cE kE
  have B4 := FI0.binds1 (ps := ["self", "names", "rows", "rests"]) 4 1 (fun z => nomatch z) rfl (fun _ _ _ _ _ _ _ us its h1 h2 => match us, its, h1, h2 with | [_, _, _, _], [_], _, _ => ⟨_, rfl, rfl⟩)
  obtain ⟨u4, V4, B4⟩ := B4
  cases V4
  have MK : Mk K C fI := ⟨mk, aI, iI, kc⟩
  have FI := ok_init (P := l.prog) (w := w) (base := base) FI0 S
  have D_dot := ok_dot (P := l.prog) (w := w) (base := base) F_dot g_dot T
  have D_factor := ok_factor (P := l.prog) (w := w) (base := base) F_factor g_factor T
  have D_spread := ok_spread F_spread g_spread T D_factor
  have D_deck := ok_deck (P := l.prog) (w := w) (base := base) F_deck g_deck T
  have D_draw := ok_draw (P := l.prog) (w := w) (base := base) F_draw g_draw T
  have D_pickL := ok_pickL F_pick g_pick T D_draw
  have D_pickS := ok_pickS F_pick g_pick T D_draw
  have D_pickT := ok_pickT F_pick g_pick T D_draw
  have D_called := ok_called F_called g_called T D_draw D_pickS
  have D_factors := ok_factors F_factors g_factors T D_draw D_pickL
  have D_made := ok_made F_made g_made T S D_draw D_factors MK FI B4
  have D_shown := ok_shown (P := l.prog) (w := w) (base := base) F_shown g_shown T S
  have D_put := ok_put (P := l.prog) (w := w) (base := base) F_put g_put T
  have D_j := ok_joined_right F_jr g_jr T (PySem.W.mg_none_of X G z_min) (PySem.W.mg_none_of X G z_is) S D_draw D_called D_made D_shown D_put ⟨sf, aA, iA⟩ (ok_and FA0 S T D_spread MK FI B4) (FA0.binds fun _ _ _ _ _ _ us hl => match us, hl with | [_, _], _ => rfl) ⟨⟨pg, hd, po, sa⟩, qa, qn, qt, qm, kit_same⟩ ⟨aF, iF, kF⟩ (ok_ful FF0 S T D_dot) (FF0.binds fun _ _ _ _ _ _ us hl => match us, hl with | [_, _], _ => rfl)
  have D_w := ok_without_right F_wr g_wr T (PySem.W.mg_none_of X G z_list) S D_draw D_called D_made D_shown ⟨aW, iW, kW⟩ (fn_starG (ps := ["self"]) (pv := "indexes") lW cW sc_without (fun us rest h => match us, rest, h with | [_], [], _ => rfl | [_], _ :: _, _ => rfl) (walk_without S T MK FI B4))
  have D_r := ok_renamed_right F_rr g_rr T S D_draw D_pickL D_made D_shown ⟨aR, iR, kR⟩ (fn_kwG (ps := ["self"]) (pd := "names") (ks := ["x", "y"]) lR cR sc_renamed (by decide +kernel) (by decide) (fun us ws h1 h2 => match us, ws, h1, h2 with | [_], [_, _], _, _ => rfl) (walk_renamed S T MK FI B4)) (fn_kwG (ps := ["self"]) (pd := "names") (ks := ["z"]) lR cR sc_renamed (by decide +kernel) (by decide) (fun us ws h1 h2 => match us, ws, h1, h2 with | [_], [_], _, _ => rfl) (walk_renamed S T MK FI B4)) (fn_kwG (ps := ["self"]) (pd := "names") (ks := ["y", "z", "x"]) lR cR sc_renamed (by decide +kernel) (by decide) (fun us ws h1 h2 => match us, ws, h1, h2 with | [_], [_, _, _], _, _ => rfl) (walk_renamed S T MK FI B4)) (fn_kwG (ps := ["self"]) (pd := "names") (ks := ["x", "z", "y"]) lR cR sc_renamed (by decide +kernel) (by decide) (fun us ws h1 h2 => match us, ws, h1, h2 with | [_], [_, _, _], _, _ => rfl) (walk_renamed S T MK FI B4)) (fn_kwG (ps := ["self"]) (pd := "names") (ks := []) lR cR sc_renamed (by decide +kernel) (by decide) (fun us ws h1 h2 => match us, ws, h1, h2 with | [_], [], _, _ => rfl) (walk_renamed S T MK FI B4))
  have D_e := ok_equate_right F_er g_er T S D_draw D_pickL D_pickT D_called D_made D_shown ⟨aE, iE, kE⟩ (ok_equate FE0 S T MK FI B4) (FE0.binds fun _ _ _ _ _ _ us hl => match us, hl with | [_, _, _], _ => rfl) ⟨fun us ws => us ++ ws.reverse, ⟨fun s us ws _ h1 h2 => match us, ws, h1, h2 with | [_], [_, _], _, _ => .of_eq rfl, fun r1 r2 => Vals.append r1 (vals_rev r2)⟩⟩
  exact ok_law F_law T D_deck D_j D_w D_r D_e
end KX
open PySem PySem.W PyProof.Rows
set_option maxRecDepth 100000 in
set_option maxHeartbeats 0 in
theorem PySem.Challenge.cw_whateverboxes_k10_joined_and_turned_holds : PySem.Challenge.rw_whateverboxes_k10_joined_and_turned.Holds := by
  w_on; o_law; k_head; (case hw => w_witness2)
  k_fill
  refine KX.walk (l := PySem.Challenge.rw_whateverboxes_k10_joined_and_turned) rfl rfl (fun w h Y => PySem.W.kIn_of Y) ?F
  case F =>
    intro w mg fa h hKI G hmg
    refine' KX.all_mk hKI G hmg ?a_dot ?l_dot ?c_dot ?k_dot ?a_factor ?l_factor ?c_factor ?k_factor ?a_spread ?l_spread ?c_spread ?k_spread ?a_deck ?l_deck ?c_deck ?k_deck ?a_draw ?l_draw ?c_draw ?k_draw ?a_pick ?l_pick ?c_pick ?k_pick ?a_called ?l_called ?c_called ?k_called ?a_factors ?l_factors ?c_factors ?k_factors ?a_made ?l_made ?c_made ?k_made ?a_shown ?l_shown ?c_shown ?k_shown ?a_put ?l_put ?c_put ?k_put ?a_jr ?l_jr ?c_jr ?k_jr ?a_wr ?l_wr ?c_wr ?k_wr ?a_rr ?l_rr ?c_rr ?k_rr ?a_er ?l_er ?c_er ?k_er ?a_law ?l_law ?c_law ?k_law ?aC ?aI ?iI ?lI ?cI ?kI ?aF ?iF ?lF ?cF ?kF ?aA ?iA ?lA ?cA ?kA ?aW ?iW ?lW ?cW ?kW ?aR ?iR ?lR ?cR ?kR ?aE ?iE ?lE ?cE ?kE ?lT ?lE0 ?pg ?hd ?po ?sa ?mk ?kc ?nN ?nR ?nS ?qa ?qn ?qt ?qm ?sf ?z_min ?z_is ?z_list ?z_int ?z_len ?z_range ?z_tuple ?z_str ?z_abs ?z_any ?z_sum ?z_zip ?z_enumerate ?z_repr
    (case a_dot => k_is)
    (case l_dot => k_is)
    (case c_dot => k_is)
    (case k_dot => k_is)
    (case a_factor => k_is)
    (case l_factor => k_is)
    (case c_factor => k_is)
    (case k_factor => k_is)
    (case a_spread => k_is)
    (case l_spread => k_is)
    (case c_spread => k_is)
    (case k_spread => k_is)
    (case a_deck => k_is)
    (case l_deck => k_is)
    (case c_deck => k_is)
    (case k_deck => k_is)
    (case a_draw => k_is)
    (case l_draw => k_is)
    (case c_draw => k_is)
    (case k_draw => k_is)
    (case a_pick => k_is)
    (case l_pick => k_is)
    (case c_pick => k_is)
    (case k_pick => k_is)
    (case a_called => k_is)
    (case l_called => k_is)
    (case c_called => k_is)
    (case k_called => k_is)
    (case a_factors => k_is)
    (case l_factors => k_is)
    (case c_factors => k_is)
    (case k_factors => k_is)
    (case a_made => k_is)
    (case l_made => k_is)
    (case c_made => k_is)
    (case k_made => k_is)
    (case a_shown => k_is)
    (case l_shown => k_is)
    (case c_shown => k_is)
    (case k_shown => k_is)
    (case a_put => k_is)
    (case l_put => k_is)
    (case c_put => k_is)
    (case k_put => k_is)
    (case a_jr => k_is)
    (case l_jr => k_is)
    (case c_jr => k_is)
    (case k_jr => k_is)
    (case a_wr => k_is)
    (case l_wr => k_is)
    (case c_wr => k_is)
    (case k_wr => k_is)
    (case a_rr => k_is)
    (case l_rr => k_is)
    (case c_rr => k_is)
    (case k_rr => k_is)
    (case a_er => k_is)
    (case l_er => k_is)
    (case c_er => k_is)
    (case k_er => k_is)
    (case a_law => k_is)
    (case l_law => k_is)
    (case c_law => k_is)
    (case k_law => k_is)
    (case aC => k_is)
    (case aI => k_is)
    (case iI => k_is)
    (case lI => k_is)
    (case cI => k_is)
    (case kI => k_is)
    (case aF => k_is)
    (case iF => k_is)
    (case lF => k_is)
    (case cF => k_is)
    (case kF => k_is)
    (case aA => k_is)
    (case iA => k_is)
    (case lA => k_is)
    (case cA => k_is)
    (case kA => k_is)
    (case aW => k_is)
    (case iW => k_is)
    (case lW => k_is)
    (case cW => k_is)
    (case kW => k_is)
    (case aR => k_is)
    (case iR => k_is)
    (case lR => k_is)
    (case cR => k_is)
    (case kR => k_is)
    (case aE => k_is)
    (case iE => k_is)
    (case lE => k_is)
    (case cE => k_is)
    (case kE => k_is)
    (case lT => k_is)
    (case lE0 => k_is)
    (case pg => k_is)
    (case hd => k_is)
    (case po => k_is)
    (case sa => k_is)
    (case mk => k_is)
    (case kc => k_is)
    (case nN => k_is)
    (case nR => k_is)
    (case nS => k_is)
    (case qa => k_is)
    (case qn => k_is)
    (case qt => k_is)
    (case qm => k_is)
    (case sf => k_is)
    (case z_min => k_is)
    (case z_is => k_is)
    (case z_list => k_is)
    (case z_int => k_is)
    (case z_len => k_is)
    (case z_range => k_is)
    (case z_tuple => k_is)
    (case z_str => k_is)
    (case z_abs => k_is)
    (case z_any => k_is)
    (case z_sum => k_is)
    (case z_zip => k_is)
    (case z_enumerate => k_is)
    (case z_repr => k_is)
