import PyProof.Rows.All
import Wide.All
import OpenK.AllK
import Wide.FinOn
import HandS.ForMost
import HandS.Wide
import HandS.Style
import HandS.Zip
import HandS.MakeKwOnly
import HandS.MakeKw
import HandS.Walk
import HandS.TupAny
import HandS.Conv
import HandS.TupMul
import KE.KRevSl
import HandS.Strs
import HandS.Star
import HandS.Codes
import HandS.SortInts
import PySem.Challenge.RW_whateverboxes_k39_four_kinds_of_machines
set_option Elab.async false
set_option linter.all false
set_option maxRecDepth 100000
set_option maxHeartbeats 4000000
namespace GL
open PySem PySem.Spec PyProof.Rows L2

/-- nothing that guards itself against its own turn is under way -/
def Calm (A : Around) : Prop := A.guards = some []
theorem Calm.deeper {A : Around} (g : Calm A) (env : Env) : Calm (A.deeper env) := g
theorem Calm.make {A : Around} (g : Calm A) (C : Addr) (us : List Value) (kw : List (Str × Value)) : Calm (A.under (.builtin "type.__call__" ⟨.ref C :: us, kw⟩)) := by
  unfold Calm at *
  simp only [Around.under, Code.guards, Code.isGuard, guardIds]
  first | exact g | (rw [g]; rfl) | (simp [g])

/-- a def keeps its promise wherever no guard is under way -/
structure FnG (P : Program) (w : World) (K : PySem.W.Frag) (mg : Str → Option Value) (base : Heap) (CX : CXT) (k : Nat) (f : Addr) (fd : FuncData) (ps : List Str) (sp : Sp) : Prop where
  len : ∀ vs H Q E, sp vs H Q E → vs.length = ps.length
  run : ∀ (A : Around) (outer : List Env) (s : Shared) (H : Hp) (args : Args) (us : List Value) (vs : List V) (Q : VK) (E : XK),
    Room k A → Calm A → Env0 P w K mg base A outer s H → BindsTo s fd args (ps.zip us) → Vals vs us → sp vs H Q E →
    codeAny (model P w) A (.call (.ref f) args) (CR CX outer P w H s Q E) s
section
variable {P : Program} {w : World} {K : PySem.W.Frag} {mg : Str → Option Value} {base : Heap} {CX : CXT} {j k : Nat} {f : Addr} {fd : FuncData} {ps : List Str} {sp sp' : Sp}
theorem FnG.up (F : FnG P w K mg base CX j f fd ps sp) (h : j ≤ k) : FnG P w K mg base CX k f fd ps sp where
  len := F.len
  run := fun A outer s H args us vs Q E r g => F.run A outer s H args us vs Q E (r.mono h) g
theorem FnG.of (F : FnOk P w K mg base CX k f fd ps sp) : FnG P w K mg base CX k f fd ps sp where
  len := F.len
  run := fun A outer s H args us vs Q E r _ => F.run A outer s H args us vs Q E r
end

/-! what is known of a def of the text by its callers -/
structure DefG (P : Program) (w : World) (K : PySem.W.Frag) (mg : Str → Option Value) (base : Heap) (k : Nat) (x : Str) (ps : List Str) (sp : Sp) : Prop where
  ex : ∃ (f : Addr) (fd : FuncData), FnG P w K mg base CX0 k f fd ps sp ∧ mg x = some (.ref f) ∧ PySem.W.keepIn K (.ref f) = true ∧ Binds K fd ps []

section
variable {X : Cx} {CX : CXT} {k n : Nat} {f C : Addr} {fd : FuncData} {ps ks : List Str} {sp : Sp} {dvs : List V} {ds : List Value} {E : XK} {x m : Str} {p pos apos : Pos} {e o : Expr} {es : List Expr} {ta : TE} {t tk : TA} {kws : List Keyword}
variable {g : List Value → List Value → List Value} {gV : List V → List V → List V}

theorem out_of {pins : List (Addr × Obj)} {σ : L2.St} {H : Hp} {s : Shared} {Q : VK} (hx : Passes CX X E) (I : Inv X pins σ H s) :
    ∀ (r : Result) (s' : Shared), CR CX X.stack X.prog X.w H s Q E r s' → (match r with | .ok (.ret u) => EP X pins σ Q u s' | .ok _ => False | .error e => X.xe e s')
  | .error e, s', q => hx pins σ H s e s' I q
  | .ok (.ret _), _, q => I.after q
  | .ok .next, _, q => q
  | .ok .brk, _, q => q
  | .ok .cont, _, q => q

theorem runG {pins : List (Addr × Obj)} {σ : L2.St} {H : Hp} {s : Shared} {Q : VK} {us : List Value} {vs : List V} (F : FnG X.prog X.w X.K X.mg X.base CX k f fd ps sp) (hr : Room k X.A) (hc : Calm X.A)
    (hb : Binds X.K fd ps ds) (hd : Vals dvs ds) (hx : Passes CX X E) (I : Inv X pins σ H s) (r : Vals vs us) (h : sp (vs ++ dvs) H Q E) :
    wpAny (model X.prog X.w) X.A (call (.ref f) us) (EP X pins σ Q) X.xe s := by
  have both : Vals (vs ++ dvs) (us ++ ds) := Vals.append r hd
  have long : (us ++ ds).length = ps.length := both.length.symm.trans (F.len _ _ _ _ h)
  have go := F.run X.A X.stack s H ⟨us, []⟩ (us ++ ds) (vs ++ dvs) Q E hr hc I.env0 (hb s us I.kIn long) both h
  refine wpAny_call (codeAny_mono go fun r' s' q => ?_)
  have z := out_of hx I r' s' q
  match r', z with
  | .error _, z => exact z
  | .ok (.ret _), z => exact z

theorem pe_def (D : DefG X.prog X.w X.K X.mg X.base k x ps sp) (hr : Room k X.A) (hc : Calm X.A) (hg : Gl X x) (ha : PA X (e :: es) t) (hdb : (x == ("__debug__" : Str)) = false := by decide)
    (he : starEach (e :: es) X.env = (false, eval e X.env) :: starEach es X.env := by rfl) (hpl : (backTo pos (starEach es X.env)).any (·.1) = false := by rfl) :
    PE X (.Call (.Name x p) (e :: es) [] pos) (tCall sp [] E0 t) := by
  obtain ⟨f, fd, F, hm, hk, hb⟩ := D.ex
  exact ⟨fun pins s σ H Q I h => wpAny_Call_Name_kw (ld_glob I hg hm (PySem.W.callWith_K (h₀ := X.base) I.ok.mod.kin hk
    (thn (ha.run pos pins s σ H _ I h) fun us s1 ⟨vs, H1, I1, r, q⟩ => ⟨I1.kIn, runG F hr hc hb .nil pass0 I1 r q⟩) he hpl) hdb)⟩

/-- a method with positional arguments -/
theorem pe_methG {pl : Sem Bool} (he : PE X o ta) (c : Cls X.K C) (hm : Meth X.K C m f) (F : FnG X.prog X.w X.K X.mg X.base CX k f fd ps sp) (hr : Room k X.A) (hc : Calm X.A) (hb : Binds X.K fd ps ds) (hd : Vals dvs ds) (hx : Passes CX X E)
    (ha : PA X (e :: es) t) (hst : starEach (e :: es) X.env = (false, eval e X.env) :: starEach es X.env := by rfl) (hpl : (backTo pos (starEach es X.env)).any (·.1) = false := by rfl)
    (ht : eval (.Call (.Attribute o m apos) (e :: es) [] pos) X.env = (eval o X.env >>= fun ov => standAt apos.atName >>= fun _ => holding [ov] (getMethod ov m pl) >>= fun fx =>
      callWith pos fx.1 fx.2 (backTo pos (starEach (e :: es) X.env)) (backToKw pos (keywordEach [] X.env))) := by rfl) :
    PE X (.Call (.Attribute o m apos) (e :: es) [] pos) (tMeth C m sp dvs E ta t) := by
  constructor
  intro pins s σ H Q I h
  refine PySem.W.methodCall_KW (pl := pl) (thn (he.run pins s σ H _ I h) ?_) ht
  rintro u s1 ⟨_, H1, I1, rx, a, dx, fs, rfl, ea, l, q⟩
  obtain rfl : u = .ref a := rx
  refine getmeth_ok I1 ea c hm l (PySem.W.callWith_K (first := [.ref a]) (h₀ := X.base) I.ok.mod.kin hm.kp (thn (ha.run pos pins s1 σ H1 _ I1 q) ?_) hst hpl)
  rintro us s2 ⟨vs, H2, I2, r, q2⟩
  exact ⟨I2.kIn, runG (us := .ref a :: us) (vs := .ref a :: vs) F hr hc hb hd hx I2 (.cons rfl r) q2⟩

/-- how keywords alone bind behind a receiver -/
def tMethK (C : Addr) (m : Str) (sp : Sp) (n : Nat) (gV : List V → List V → List V) (E : XK) (ta : TE) (tk : TA) : TE := fun σ H Q => ta σ H fun x H1 => ∃ a dx fs, x = .ref a ∧ H1 a = some (.ins C dx fs) ∧ fs.lookup m = none ∧
  tk σ H1 fun zs H2 => zs.length = n ∧ sp (gV [x] zs) H2 Q E
theorem runKG {pins : List (Addr × Obj)} {σ : L2.St} {H : Hp} {s : Shared} {Q : VK} {us ws : List Value} {vs zs : List V} (F : FnG X.prog X.w X.K X.mg X.base CX k f fd ps sp) (hr : Room k X.A) (hc : Calm X.A) (hb : KBn X.K fd ps n ks g gV) (hx : Passes CX X E)
    (I : Inv X pins σ H s) (r : Vals vs us) (rz : Vals zs ws) (l1 : vs.length = n) (l2 : zs.length = ks.length) (h : sp (gV vs zs) H Q E) :
    wpAny (model X.prog X.w) X.A (call (.ref f) us (ks.zip ws)) (EP X pins σ Q) X.xe s := by
  have go := F.run X.A X.stack s H ⟨us, ks.zip ws⟩ (g us ws) (gV vs zs) Q E hr hc I.env0 (hb.to s us ws I.kIn (r.length.symm.trans l1) (rz.length.symm.trans l2)) (hb.rel r rz) h
  refine wpAny_call (codeAny_mono go fun r' s' q => ?_)
  have z := out_of hx I r' s' q
  match r', z with
  | .error _, z => exact z
  | .ok (.ret _), z => exact z
theorem pe_methKG {pl : Sem Bool} (he : PE X o ta) (c : Cls X.K C) (hm : Meth X.K C m f) (F : FnG X.prog X.w X.K X.mg X.base CX k f fd ps sp) (hr : Room k X.A) (hc : Calm X.A) (hb : KBn X.K fd ps 1 ks g gV) (hx : Passes CX X E)
    (hkw : PK X kws tk) (hall : (backToKw pos (keywordEach kws X.env)).all (·.1.isSome) = true := by rfl) (hks : (backToKw pos (keywordEach kws X.env)).filterMap (·.1) = ks := by rfl)
    (hpl : ((backTo pos (starEach [] X.env)).any (·.1) || (backToKw pos (keywordEach kws X.env)).any (·.1.isNone)) = false := by rfl)
    (ht : eval (.Call (.Attribute o m apos) [] kws pos) X.env = (eval o X.env >>= fun ov => standAt apos.atName >>= fun _ => holding [ov] (getMethod ov m pl) >>= fun fx =>
      callWith pos fx.1 fx.2 (backTo pos (starEach [] X.env)) (backToKw pos (keywordEach kws X.env))) := by rfl) :
    PE X (.Call (.Attribute o m apos) [] kws pos) (tMethK C m sp ks.length gV E ta tk) := by
  constructor
  intro pins s σ H Q I h
  refine PySem.W.methodCall_KW (pl := pl) (thn (he.run pins s σ H _ I h) ?_) ht
  rintro u s1 ⟨_, H1, I1, rx, a, dx, fs, rfl, ea, l, q⟩
  obtain rfl : u = .ref a := rx
  refine getmeth_ok I1 ea c hm l (PySem.W.callWith_KW0 (first := [.ref a]) (h₀ := X.base) I.ok.mod.kin hm.kp hall (thn (hkw.run pos pins s1 σ H1 _ I1 q) ?_) hpl)
  rintro ws s2 ⟨zs, H2, I2, rz, l2, q2⟩
  refine ⟨I2.kIn, ?_⟩
  rw [hks]
  exact runKG (us := [.ref a]) (vs := [.ref a]) F hr hc hb hx I2 (.cons rfl .nil) rz rfl l2 q2

/-- a new instance, then its __init__ with what binds -/
theorem makeG {pins : List (Addr × Obj)} {σ : L2.St} {H : Hp} {s : Shared} {Q : VK} {us : List Value} {kw : List (Str × Value)} {all : List Value} {av : Addr → List V} (M : Mk X.K C f) (F : FnG X.prog X.w X.K X.mg X.base CX k f fd ps sp) (hr : Room (k + 1) X.A) (hc : Calm X.A)
    (hx : Passes CX X E) (I : Inv X pins σ H s)
    (hb : ∀ s' : Shared, X.K.In s'.heap → BindsTo s' fd ⟨.ref (s.heap.objs.size + 1) :: us, kw⟩ (ps.zip all)) (r : Vals (av (s.heap.objs.size + 1)) all)
    (h : ∀ x dx, H x = none → H dx = none → dx ≠ x → sp (av x) (upd (upd H dx (.own x)) x (.ins C dx [])) (fun v H2 => v = .non ∧ Q (.ref x) H2) E) :
    wpAny (model X.prog X.w) X.A (call (.ref C) us kw) (EP X pins σ Q) X.xe s := by
  have q0 := h (s.heap.objs.size + 1) s.heap.objs.size (I.hok.fresh (Nat.le_succ _)) (I.hok.fresh (Nat.le_refl _)) (Nat.ne_of_lt (Nat.lt_succ_self _))
  have J := Inv.made (C := C) I
  have go := F.run _ X.stack _ _ ⟨Value.ref (s.heap.objs.size + 1) :: us, kw⟩ all _ _ E (hr.make C us kw) (hc.make C us kw) (J.env0.make C us kw) (hb _ J.kIn) r q0
  refine wpAny_call (make_map (f := f) I.kIn M.makes M.init (beq_iff_eq.mp M.fn) (codeAny_mono go fun r' s' q => ?_))
  match r', q with
  | .error e, q => exact hx pins σ _ _ e s' J q
  | .ok (.ret u), q =>
    obtain ⟨v, H', I3, rv, ev, q3⟩ := J.after q
    cases ev
    exact ⟨rv, ⟨V.ref (s.heap.objs.size + 1), H', I3, rfl, q3⟩⟩
theorem pe_makeG (M : Mk X.K C f) (F : FnG X.prog X.w X.K X.mg X.base CX k f fd ps sp) (hr : Room (k + 1) X.A) (hc : Calm X.A) (hg : Gl X x) (hm : X.mg x = some (.ref C)) (hb : Binds X.K fd ps ds) (hd : Vals dvs ds) (hx : Passes CX X E)
    (ha : PA X (e :: es) t) (hdb : (x == ("__debug__" : Str)) = false := by decide) (he : starEach (e :: es) X.env = (false, eval e X.env) :: starEach es X.env := by rfl) (hpl : (backTo pos (starEach es X.env)).any (·.1) = false := by rfl) :
    PE X (.Call (.Name x p) (e :: es) [] pos) (tMake C sp dvs E t) := by
  constructor
  intro pins s σ H Q I h
  refine wpAny_Call_Name_kw (ld_glob I hg hm (PySem.W.callWith_K (h₀ := X.base) I.ok.mod.kin M.kp (thn (ha.run pos pins s σ H _ I h) ?_) he hpl) hdb)
  rintro us s1 ⟨vs, H1, I1, r, q⟩
  have r2 : Vals (V.ref (s1.heap.objs.size + 1) :: (vs ++ dvs)) (Value.ref (s1.heap.objs.size + 1) :: (us ++ ds)) := .cons rfl (Vals.append r hd)
  have q0 := q (s1.heap.objs.size + 1) s1.heap.objs.size (I1.hok.fresh (Nat.le_succ _)) (I1.hok.fresh (Nat.le_refl _)) (Nat.ne_of_lt (Nat.lt_succ_self _))
  exact ⟨I1.kIn, makeG (av := fun x => .ref x :: (vs ++ dvs)) M F hr hc hx I1 (fun s' X' => hb s' (Value.ref (s1.heap.objs.size + 1) :: us) X' (r2.length.symm.trans (F.len _ _ _ _ q0))) r2 q⟩
theorem pe_makeKG0 (M : Mk X.K C f) (F : FnG X.prog X.w X.K X.mg X.base CX k f fd ps sp) (hr : Room (k + 1) X.A) (hc : Calm X.A) (hg : Gl X x) (hm : X.mg x = some (.ref C)) (hb : KBn X.K fd ps 1 ks g gV) (hx : Passes CX X E) (hkw : PK X kws tk)
    (hall : (backToKw pos (keywordEach kws X.env)).all (·.1.isSome) = true := by rfl) (hks : (backToKw pos (keywordEach kws X.env)).filterMap (·.1) = ks := by rfl) (hdb : (x == ("__debug__" : Str)) = false := by decide)
    (hpl : ((backTo pos (starEach [] X.env)).any (·.1) || (backToKw pos (keywordEach kws X.env)).any (·.1.isNone)) = false := by rfl) :
    PE X (.Call (.Name x p) [] kws pos) (tMakeK C 0 ks.length sp gV E tNil tk) := by
  constructor
  intro pins s σ H Q I h
  refine wpAny_Call_Name_kw (ld_glob I hg hm (PySem.W.callWith_KW0 (h₀ := X.base) I.ok.mod.kin M.kp hall (thn (hkw.run pos pins s σ H _ I h) ?_) hpl) hdb)
  rintro ws s2 ⟨zs, H2, I2, rz, _, l2, q2⟩
  refine ⟨I2.kIn, ?_⟩
  rw [hks]
  exact makeG (av := fun x => gV [.ref x] zs) M F hr hc hx I2 (fun s' X' => hb.to s' [Value.ref (s2.heap.objs.size + 1)] ws X' rfl (rz.length.symm.trans l2)) (hb.rel (.cons rfl .nil) rz) q2

/-- repr of what reads as data -/
theorem call_reprD (hc : Calm X.A) (hu : X.A.units + 100 < cLine) : CallR X (.builtin "repr") (fun xs H Q => ∃ (a : Addr) (d : PyData), xs = [.ref a] ∧ Dp X.K H (.ref a) d ∧ d.showable = true ∧ d.hasDict = false ∧ d.depth ≤ 64 ∧ d.shown.length ≤ sizeLine ∧ Q (.str d.shown) H) := by
  intro pins s σ H xs us Q I r h
  obtain ⟨a, d, rfl, hd, hs, hn, hdp, hz, q⟩ := h
  obtain ⟨as, rd⟩ := Dp.reads I d (.ref a) (.ref a) hd rfl
  rw [Vals.ref1 r]
  exact repr_of_reads' rd hs (PyData.noDict_hsm hn) hc (by omega) (fun _ _ e => e) (fun h' u tk hk => ⟨.str _, H, I.kept hk, ⟨_, rfl⟩, q⟩) hz
end

section
variable {P : Program} {w : World} {K : PySem.W.Frag} {mg : Str → Option Value} {base : Heap}
/-- a def's promise, by its body: whatever its defaults -/
theorem okR {x qual : Str} {params : Arguments} {body : List Stmt} {scope : Scope} {dV kV doc pm cdv ct oc : Value} {an od : Option Addr} {osl : Array (Option Value)} {f : Addr} {N ps : List Str} {k : Nat} {sp : Sp}
    (lk : K.lookup f = some ⟨oc, od, .func (PySem.W.fnOf x qual params body scope dV kV doc pm an cdv ct), osl⟩) (code : PySem.W.codeIn K cdv qual = true) (S : FnScope N ps scope) (len : ∀ vs H Q E, sp vs H Q E → vs.length = ps.length)
    (walk : ∀ (cdv : Value) (A : Around) (outer : List Env) (s : Shared) (H : Hp) (vs : List V) (Q : VK) (E : XK), Room k (A.deeper (envOfC qual scope s.heap.objs.size f cdv)) → Calm (A.deeper (envOfC qual scope s.heap.objs.size f cdv)) → sp vs H Q E →
      ∃ t, PSs (cxOf CX0 P w K mg base N qual scope f cdv A outer s H E).nox body t ∧ t { nx := fun _ H' => Q .non H', rt := Q } (start N vs) H) : FnG P w K mg base CX0 (k + 1) f (PySem.W.fnOf x qual params body scope dV kV doc pm an cdv ct) ps sp := by
  refine ⟨len, ?_⟩
  intro A outer s H args us vs Q E room calm e0 bnd rel want
  have long := len _ _ _ _ want
  have up : ∀ b o, base.get? b = some o → s.heap.get? b = some o := fun b o e => (e0.bs b o e).1
  have kin : K.In s.heap := e0.mod.kin.keeps up
  have lim : s.heap.NoLimit := e0.mod.nolimit.keeps up
  have kinds : ∀ y ∈ ps.zip us, scope.names.lookup y.1 = some .local ∨ (scope.names.lookup y.1 = some .cell ∧ ((cellsFrom (s.heap.objs.size + 1) scope.names []).lookup y.1).isSome = true) := by
    rintro ⟨n, v⟩ hy
    exact (S.par n (List.of_mem_zip hy).1).imp id fun q => ⟨q, PySem.W.cellsFrom_some _ _ _ (.inl q)⟩
  refine codeAny_call_function room.depth (kin _ _ lk) rfl S.co S.gen rfl (PySem.W.codeRec_of kin code) (bnd _ _ _ _ (wpAny_newFunctionEnv_cells S.kind kinds ?_))
  rintro env rfl s1 x
  obtain ⟨t, deriv, reads⟩ := walk cdv A outer s H vs Q E (room.deeper _) (calm.deeper _) want
  have I : Inv (cxOf CX0 P w K mg base N qual scope f cdv A outer s H E) [] (start N vs) H s1 := inv_start S room.hd e0 long rel x
  refine ⟨lim.keeps x.toInCall.keep, codeAny_func (wpAny_mono (deriv.nox.run [] s1 (start N vs) H _ I reads) ?_ fun _ _ z => z)⟩
  intro fl s' hs
  match fl, hs with
  | .ret u, ⟨v, _, H', J, rv, q⟩ => exact ⟨v, H', J.os, J.bare, J.base, J.hok, rv, q⟩
  | .next, ⟨_, H', J, q⟩ => exact ⟨V.non, H', J.os, J.bare, J.base, J.hok, rfl, q⟩
  | .brk, ⟨_, _, _, q⟩ => exact q.elim
  | .cont, ⟨_, _, _, q⟩ => exact q.elim

theorem okG {x qual : Str} {st : Stmt} {f : Addr} {fd : FuncData} {N ps : List Str} {k : Nat} {sp : Sp} (F : Fun K x qual st f fd) (S : FnScope N ps (defScope st)) (len : ∀ vs H Q E, sp vs H Q E → vs.length = ps.length)
    (walk : ∀ (cdv : Value) (A : Around) (outer : List Env) (s : Shared) (H : Hp) (vs : List V) (Q : VK) (E : XK), Room k (A.deeper (envOfC qual (defScope st) s.heap.objs.size f cdv)) → Calm (A.deeper (envOfC qual (defScope st) s.heap.objs.size f cdv)) → sp vs H Q E →
      ∃ t, PSs (cxOf CX0 P w K mg base N qual (defScope st) f cdv A outer s H E).nox (defBody st) t ∧ t { nx := fun _ H' => Q .non H', rt := Q } (start N vs) H) : FnG P w K mg base CX0 (k + 1) f fd ps sp := by
  obtain ⟨oc, od, kV, doc, pm, an, cdv, ct, osl, rfl, lk, code⟩ := F.ex
  exact okR lk code S len walk
theorem okD {x qual : Str} {st : Stmt} {dvs : List V} {kws : List (Str × V)} {f : Addr} {fd : FuncData} {N ps : List Str} {k : Nat} {sp : Sp} (F : FunD K x qual (defArgs st) (defBody st) (defScope st) dvs kws f fd) (S : FnScope N ps (defScope st)) (len : ∀ vs H Q E, sp vs H Q E → vs.length = ps.length)
    (walk : ∀ (cdv : Value) (A : Around) (outer : List Env) (s : Shared) (H : Hp) (vs : List V) (Q : VK) (E : XK), Room k (A.deeper (envOfC qual (defScope st) s.heap.objs.size f cdv)) → Calm (A.deeper (envOfC qual (defScope st) s.heap.objs.size f cdv)) → sp vs H Q E →
      ∃ t, PSs (cxOf CX0 P w K mg base N qual (defScope st) f cdv A outer s H E).nox (defBody st) t ∧ t { nx := fun _ H' => Q .non H', rt := Q } (start N vs) H) : FnG P w K mg base CX0 (k + 1) f fd ps sp := by
  obtain ⟨oc, od, dV, kV, doc, pm, an, cdv, ct, osl, rfl, lk, code, _, _⟩ := F.ex
  exact okR lk code S len walk

/-- the law's call, where the caller guards nothing -/
theorem lawG {mb : Str → Option Value} {k : Nat} {fa a : Addr} {fd : FuncData} {x : Str} {sp : Sp} {s₁ : Shared} {vs : List Value} {ns : List Int}
    (KX : K.In s₁.heap) (hns : s₁.heap.Ns mainGlobals mg) (hb : s₁.heap.Ns builtinsNs mb) (hbb : ∀ x : Str, x ≠ "__name__" → mb x = bootBuiltins x) (hlim : s₁.heap.NoLimit) (hg : s₁.gens = #[])
    (ha : s₁.heap.get? a = some { cls := .type "list", data := .seq vs.toArray }) (hi : IntsAre vs ns) (hl : ns.length ≤ sizeLine) (hr : Room k callerA)
    (F : ∀ base : Heap, K.In base → base.Ns mainGlobals mg → FnG P w K mg base CX0 k fa fd [x] sp) (hbind : ∀ (s : Shared) (u : Value), BindsTo s fd ⟨[u], []⟩ [(x, u)])
    (hsp : ∀ H : Hp, Only H → SqL K H a (ns.map V.int) → sp [.ref a] H (fun v _ => v = .bl true) fun _ _ _ => False) :
    codeAny (model P w) callerA (.call (.ref fa) ⟨[.ref a], []⟩) (fun r s' => r = .ok (.ret (.bool true)) ∧ OldK s₁.heap s'.heap ∧ s'.os = s₁.os ∧ AllBare s'.gens) s₁ := by
  have rel := vals_ints hi
  have core : ∀ H : Hp, Only H → SqL K H a (ns.map V.int) → HOk P w H s₁.heap → (∀ b, H b ≠ none → b = a) → (H a ≠ none → K.lookup a = none) →
      codeAny (model P w) callerA (.call (.ref fa) ⟨[.ref a], []⟩) (fun r s' => r = .ok (.ret (.bool true)) ∧ OldK s₁.heap s'.heap ∧ s'.os = s₁.os ∧ AllBare s'.gens) s₁ := by
    intro H only sq hok alone free
    have off : ∀ {b : Addr}, b ≠ a → H b = none := fun {b} ne => Classical.byContradiction fun z => ne (alone b z)
    have dictOff : ∀ {b : Addr} {o : Obj} {es : Array DictEntry} {ep : Nat}, s₁.heap.get? b = some o → o.data = .dict es ep → H b = none := by
      intro b o es ep e d
      refine off fun eq => ?_
      rw [eq, ha] at e
      cases e
      exact Data.noConfusion d
    have nsK : ∀ {b : Addr} {m : Str → Option Value}, s₁.heap.Ns b m → (hidT s₁.heap H).Ns b m := by
      rintro b m ⟨o, es, ep, e, d, r⟩
      exact ⟨o, es, ep, hidT_get e (dictOff e d), d, r⟩
    have kb : K.In (hidT s₁.heap H) := by
      intro b o e
      refine hidT_get (KX b o e) (Classical.byContradiction fun z => ?_)
      have eq := alone b z
      rw [eq] at z e
      rw [free z] at e
      cases e
    have md : Mod K mg (hidT s₁.heap H) := ⟨kb, nsK hns, ⟨mb, nsK hb, hbb⟩, let ⟨mc, h1, h2⟩ := hlim; ⟨mc, nsK h1, h2⟩⟩
    have e0 : Env0 P w K mg (hidT s₁.heap H) callerA [] s₁ H := ⟨rfl, md, fun b o e => of_hidT e, Nat.le_of_eq (hidT_size _ _), trivial, (fun b z => nomatch z), hok, .of_eq hg⟩
    have go := (F _ kb (nsK hns)).run callerA [] s₁ H ⟨[.ref a], []⟩ [.ref a] [.ref a] _ _ hr rfl e0 (hbind s₁ (.ref a)) (.cons rfl .nil) (hsp H only sq)
    refine codeAny_mono go fun r s' h => ?_
    match r, h with
    | .ok (.ret u), ⟨v, H', os, bare, un, hok', r', q⟩ =>
      have q' : v = .bl true := q
      subst q'
      obtain rfl : u = Value.bool true := r'
      refine ⟨rfl, OldK.of_keep fun b o e => ?_, os, bare⟩
      rcases only b with z | ⟨ob, xs, z⟩
      · exact un.keep b o e z (fun y => nomatch y) (fun y => nomatch y)
      · obtain ⟨e1, _⟩ := hok b _ z
        obtain ⟨e2, _⟩ := hok' b _ (un.frzs b ob _ z)
        exact e.symm.trans e1 ▸ e2
  have lenV := hi.length
  cases hk : K.lookup a with
  | some o =>
    have e := ha.symm.trans (KX a o hk)
    cases e
    exact core (fun _ => none) (fun _ => .inl rfl) (.inr ⟨_, vs.toArray, _, hk, rfl, rfl, rfl, by rw [List.size_toArray, lenV]; exact hl, by simpa using rel⟩) (fun b u z => nomatch z) (fun b z => absurd rfl z) fun z => absurd rfl z
  | none =>
    have at_ : ∀ b, (if b = a then some (HO.frz { cls := .type "list", data := .seq vs.toArray } (.lst (ns.map V.int))) else none) ≠ none → b = a := fun b z => Classical.byContradiction fun y => z (if_neg y)
    refine core (fun b => if b = a then some (.frz { cls := .type "list", data := .seq vs.toArray } (.lst (ns.map V.int))) else none) (fun b => ?_) (.inl (.inr ⟨{ cls := .type "list", data := .seq vs.toArray }, if_pos rfl⟩)) (fun b u z => ?_) at_ fun _ => hk
    · by_cases hb : b = a
      · exact .inr ⟨_, _, if_pos hb⟩
      · exact .inl (if_neg hb)
    · have eb : b = a := at_ b (fun y => nomatch (y.symm.trans z))
      subst eb
      have z' := (if_pos rfl).symm.trans z
      cases z'
      exact ⟨ha, by rw [List.length_map]; exact hl, vs, _, rel, ha⟩
end
theorem walkG {l : PySem.W.OpenLaw} {n k : Nat} {q : Program} {loose : List Str} {XP : (Str → Option Value) → Heap → Prop} {YP : World → Heap → Prop} {d : DefRec} {K : Params → PySem.W.Frag} {sp : PySem.W.Frag → Sp} {x : Str}
    (hn : l.most = some n) (hn2 : n ≤ sizeLine) (hdf : d.params.defaults = []) (hr : Room k callerA)
    (hY : ∀ (w : World) (h : Heap), YP w h → (K w.params).In h)
    (F : ∀ (w : World) (mg : Str → Option Value) (fa : Addr) (h : Heap), (K w.params).In h → h.Ns mainGlobals mg → mg d.name = some (.ref fa) →
      ∃ fd : FuncData, (∀ (s : Shared) (u : Value), BindsTo s fd ⟨[u], []⟩ [(x, u)]) ∧
        ∀ base : Heap, (K w.params).In base → base.Ns mainGlobals mg → FnG l.prog w (K w.params) mg base CX0 k fa fd [x] (sp (K w.params)))
    (hsp : ∀ (K : PySem.W.Frag) (H : Hp) (a : Addr) (ns : List Int), ns.length ≤ n → Only H → SqL K H a (ns.map V.int) → sp K [.ref a] H (fun v _ => v = .bl true) fun _ _ _ => False) :
    PySem.W.WalkO q loose XP YP l.row.toRowW d [] (fun f vs => PySem.call f vs) := by
  refine Att.attach_call hn hdf ?_
  intro w s₀ s₁ mg mb fa o pm cd doc a vs ns G Y ho hd hcd hmg hobj hints hlen hg
  obtain ⟨fd, hb, hF⟩ := F w mg fa _ (hY w _ Y) G.T.g hmg
  exact lawG (hY w _ Y) G.T.g G.T.b G.T.builtins G.T.nolimit hg hobj hints (Nat.le_trans hlen hn2) hr hF hb fun H o s => hsp _ H a ns hlen o s
end GL
namespace GL
open PySem PySem.Spec PyProof.Rows L2
section
variable {K : PySem.W.Frag} {H H' : Hp}
theorem dpa_ints : ∀ ns : List Int, DpAll K H (ns.map V.int) (ns.map PyData.int)
  | [] => .nil
  | n :: r => .cons (.int n) (dpa_ints r)
theorem dpa_strs : ∀ ns : List Str, DpAll K H (ns.map V.str) (ns.map PyData.str)
  | [] => .nil
  | n :: r => .cons (.str n) (dpa_strs r)
theorem dpa_bls : ∀ ns : List Bool, DpAll K H (ns.map V.bl) (ns.map PyData.bool)
  | [] => .nil
  | n :: r => .cons (.bl n) (dpa_bls r)
theorem lay_ints : ∀ ns : List Int, PyData.canLayAll0 (ns.map PyData.int) = true
  | [] => rfl
  | n :: r => by
    show (PyData.canLay0 (.int n) && PyData.canLayAll0 (r.map PyData.int)) = true
    rw [lay_ints r]; rfl
theorem depth_ints : ∀ ns : List Int, PyData.depthAll (ns.map PyData.int) = 0
  | [] => rfl
  | n :: r => by
    show max (PyData.depth (.int n)) (PyData.depthAll (r.map PyData.int)) = 0
    rw [depth_ints r]; rfl
theorem depth_strs : ∀ ns : List Str, PyData.depthAll (ns.map PyData.str) = 0
  | [] => rfl
  | n :: r => by
    show max (PyData.depth (.str n)) (PyData.depthAll (r.map PyData.str)) = 0
    rw [depth_strs r]; rfl
theorem shaped_ints (ns : List Int) : SeqAt.shaped (.list (ns.map PyData.int)) = true := by
  unfold SeqAt.shaped
  rw [show PyData.canLay0 (.list (ns.map PyData.int)) = PyData.canLayAll0 (ns.map PyData.int) from rfl, lay_ints ns]
  rw [show PyData.depth (.list (ns.map PyData.int)) = PyData.depthAll (ns.map PyData.int) + 1 from rfl, depth_ints ns]
  rfl
theorem eqv_ints_nil : ∀ ns : List Int, PyData.eqv (.list (ns.map PyData.int)) (.list []) = decide (ns = [])
  | [] => rfl
  | n :: r => by
    rw [decide_eq_false (show ¬ (n :: r = []) from List.cons_ne_nil n r)]
    rfl

/-! ### what stays -/
theorem Same.new {p : Addr} {o : HO} (h : H p = none) : Same H (upd H p o) := fun b u e => by
  rw [upd_ne (ne_of_none e h)]; exact e
theorem Same.tup {a : Addr} {xs : List V} (e : Same H H') (h : SqT K H a xs) : SqT K H' a xs := by
  rcases h with (h | ⟨o, h⟩) | h
  · exact .inl (.inl (e _ _ h))
  · exact .inl (.inr ⟨o, e _ _ h⟩)
  · exact .inr h
theorem tofT {a : Addr} {xs : List V} (h : H a = some (.tup xs)) : SqT K H a xs := .inl (.inl h)
theorem tofL {a : Addr} {xs : List V} (h : H a = some (.lst xs)) : SqL K H a xs := .inl (.inl h)
theorem small {n : Nat} (h : n ≤ 100000) : n ≤ sizeLine := Nat.le_trans h (by decide)
theorem smallt {n : Nat} (h : n < 100000) : n < sizeLine := Nat.lt_of_lt_of_le h (by decide)

/-! ### the deck of the laws: a dict of a list of ints and an int -/
def deckD (g : Addr) (m : Int) : List (Key × V) := [(Sum.inr "great", .ref g), (Sum.inr "mixed", .int m)]
theorem gm0 : ¬ (("great" : Str) = "mixed") := by decide +kernel
theorem gm : ¬ ((Sum.inr ("great" : Str) : Key) = (Sum.inr ("mixed" : Str) : Key)) := by
  intro e
  injection e with e1
  exact gm0 e1
theorem deck_great (g : Addr) (m : Int) : valV (deckD g m) (Sum.inr "great" : Key) = some (.ref g) := valV_pos rfl
theorem deck_mixed (g : Addr) (m : Int) : valV (deckD g m) (Sum.inr "mixed" : Key) = some (.int m) := by
  unfold deckD
  rw [valV_neg gm, valV_pos rfl]
theorem deck_put (g : Addr) (m m' : Int) : putK (deckD g m) (Sum.inr "mixed" : Key) (.int m') = deckD g m' := by
  unfold putK deckD
  simp only [List.any_cons, List.any_nil, List.map_cons, List.map_nil, decide_eq_false gm, decide_true, Bool.or_true, Bool.false_or, Bool.or_false, if_true]
  rw [if_neg gm]
/-- all but the deck stays -/
structure Mv (d g : Addr) (H H' : Hp) : Prop where
  keep : ∀ b o, H b = some o → b ≠ d → b ≠ g → H' b = some o
structure Deck (H : Hp) (d g : Addr) : Prop where
  ex : ∃ (m : Int) (L : List Int), H d = some (.dK (deckD g m)) ∧ H g = some (.lst (L.map V.int)) ∧ L.length ≤ 63 ∧ 0 ≤ m ∧ m < 2147483587
theorem Deck.ne {d g : Addr} (D : Deck H d g) : d ≠ g := by
  obtain ⟨m, L, h1, h2, _⟩ := D.ex
  exact ne_of h1 h2 (fun z => nomatch z)
theorem Deck.same {d g : Addr} (D : Deck H d g) (s : Same H H') : Deck H' d g := by
  obtain ⟨m, L, h1, h2, r⟩ := D.ex
  exact ⟨⟨m, L, s _ _ h1, s _ _ h2, r⟩⟩
theorem Mv.refl {d g : Addr} : Mv d g H H := ⟨fun _ _ h _ _ => h⟩
theorem Mv.trans {d g : Addr} {H1 H2 H3 : Hp} (a : Mv d g H1 H2) (b : Mv d g H2 H3) : Mv d g H1 H3 := ⟨fun p o h n1 n2 => b.keep p o (a.keep p o h n1 n2) n1 n2⟩
theorem Mv.of {d g : Addr} (s : Same H H') : Mv d g H H' := ⟨fun p o h _ _ => s p o h⟩
theorem Mv.at {d g a : Addr} {o : HO} (m : Mv d g H H') (h : H a = some o) (n : a ≠ d ∧ a ≠ g) : H' a = some o := m.keep _ _ h n.1 n.2
/-- what is new stands apart from the deck -/
theorem Deck.off {d g p : Addr} (D : Deck H d g) (h : H p = none) : p ≠ d ∧ p ≠ g := by
  obtain ⟨m, L, h1, h2, r⟩ := D.ex
  exact ⟨(ne_of_none h1 h).symm, (ne_of_none h2 h).symm⟩
theorem Deck.new {d g p : Addr} {o : HO} (D : Deck H d g) (h : H p = none) : Deck (upd H p o) d g := D.same (Same.new h)
/-- what was new before is new or ours -/
theorem Mv.free {d g p : Addr} (D : Deck H d g) (m : Mv d g H H') (D' : Deck H' d g) (h : H' p = none) : H p = none := by
  have n := D'.off h
  cases e : H p with
  | none => rfl
  | some o => rw [m.keep p o e n.1 n.2] at h; cases h
/-- a change of what was not there -/
theorem Mv.mut {d g p : Addr} {o : HO} (m : Mv d g H H') (h : H p = none) : Mv d g H (upd H' p o) := ⟨fun b u hb n1 n2 => by
  rw [upd_ne (ne_of_none hb h)]
  exact m.keep b u hb n1 n2⟩
theorem Deck.mut {d g p : Addr} {o : HO} (D : Deck H d g) (n : p ≠ d ∧ p ≠ g) : Deck (upd H p o) d g := by
  obtain ⟨m, L, h1, h2, r⟩ := D.ex
  exact ⟨⟨m, L, by rw [upd_ne n.1.symm]; exact h1, by rw [upd_ne n.2.symm]; exact h2, r⟩⟩
def spDraw : Sp := fun vs H Q _ => ∃ (d g : Addr) (n : Int), vs = [.ref d, .int n] ∧ Deck H d g ∧ 0 < n ∧ n < 2 ^ 250 ∧
  ∀ (r : Int) (H' : Hp), 0 ≤ r → r < n → Deck H' d g → Mv d g H H' → Q (.int r) H'
end
def spPickL : Sp := fun vs H Q _ => ∃ (d g a : Addr) (xs : List V), vs = [.ref d, .ref a] ∧ Deck H d g ∧ H a = some (.lst xs) ∧ a ≠ g ∧ xs ≠ [] ∧ xs.length ≤ 1000 ∧
  ∀ (x : V) (H' : Hp), x ∈ xs → Deck H' d g → Mv d g H H' → Q x H'
def spPickS : Sp := fun vs H Q _ => ∃ (d g : Addr) (z : Str), vs = [.ref d, .str z] ∧ Deck H d g ∧ z.cps.toList ≠ [] ∧ z.length ≤ 1000 ∧
  ∀ (c : Nat) (H' : Hp), c ∈ z.cps.toList → Deck H' d g → Mv d g H H' → Q (.str ⟨#[c]⟩) H'
theorem at_in {α : Type} {xs : List α} {r : Int} (h0 : 0 ≤ r) (h1 : r < xs.length) : ∃ x, x ∈ xs ∧ atI xs r = some x := by
  obtain ⟨j, rfl⟩ : ∃ j : Nat, r = (j : Int) := ⟨r.toNat, by omega⟩
  have hj : j < xs.length := by omega
  exact ⟨xs[j], List.getElem_mem hj, atI_nat (List.getElem?_eq_getElem hj)⟩
theorem str_len (z : Str) : z.length = z.cps.toList.length := by
  rw [Array.length_toList]; rfl
theorem pop_at (L : List Int) (c : Int) : ((L ++ [c]).map V.int)[((L ++ [c]).map V.int).length - 1]? = some (.int c) := by
  rw [List.map_append, List.map_singleton, List.length_append, List.length_singleton, Nat.add_sub_cancel, List.getElem?_append_right (Nat.le_refl _), Nat.sub_self]
  rfl
theorem pop_left (L : List Int) (c : Int) : ((L ++ [c]).map V.int).dropLast = L.map V.int := by
  rw [List.map_append, List.map_singleton, List.dropLast_concat]
theorem snoc_of {L : List Int} (h : L ≠ []) : ∃ L0 c, L = L0 ++ [c] := ⟨L.dropLast, L.getLast h, (List.dropLast_concat_getLast h).symm⟩
theorem mul_small {i j : Int} (h0 : 0 ≤ i) (h1 : i < 2 ^ 64) : CMul i j := .inl ⟨by omega, h1⟩
theorem mul_smallR {i j : Int} (h0 : 0 ≤ j) (h1 : j < 2 ^ 64) : CMul i j := .inr ⟨by omega, h1⟩
theorem ty_l {K : PySem.W.Frag} {H : Hp} {a : Addr} {xs : List V} (h : SqL K H a xs) : tyV K "list" (.ref a) H := Or.inl ⟨rfl, xs, h⟩
theorem lt_c {a b : Int} (h : a < b) : a < b := h
theorem def_mk {P : Program} {w : World} {K : PySem.W.Frag} {mg : Str → Option Value} {base : Heap} {k : Nat} {x : Str} {st : Stmt} {f : Addr} {fd : FuncData} {ps : List Str} {sp : Sp} (F : Fun K x x st f fd) (gl : mg x = some (.ref f)) (b : Binds K fd ps []) (h : FnG P w K mg base CX0 k f fd ps sp) : DefG P w K mg base k x ps sp :=
  ⟨⟨f, fd, h, gl, F.kp, b⟩⟩
end GL
namespace GL
open PySem PySem.Spec PyProof.Rows L2 RZ
theorem truth_intsG {prog : Program} {w : World} {A : Around} {ns : List Int} {its : List Value} (r : Vals (ns.map V.int) its) :
    TruthOf prog w A (fun i v => its.toArray[i]? = some v) (fun i => (ns.map fun n => n != 0).getD i false) := by
  intro i v s Q E hv hq
  have hv' : its[i]? = some v := by simpa using hv
  have li : i < ns.length := by
    have := (List.getElem?_eq_some_iff.mp hv').1
    have e := r.length
    rw [List.length_map] at e
    omega
  have e1 : (ns.map V.int)[i]? = some (.int ns[i]) := by rw [List.getElem?_map, List.getElem?_eq_getElem li]; rfl
  obtain ⟨u, hu, ru⟩ := r.get e1
  rw [hv'] at hu
  cases hu
  obtain ⟨t, rfl⟩ := ru
  have hg : (ns.map fun n => n != 0).getD i false = (ns[i] != 0) := by
    rw [List.getD_eq_getElem?_getD, List.getElem?_map, List.getElem?_eq_getElem li]; rfl
  have hq' : Q ((ns.map fun n => n != 0).getD i false) s := hq
  rw [hg] at hq'
  exact PySem.P.truthy_int hq'
section
variable {X : Cx}
theorem walk_zipT {K : PySem.W.Frag} {a b : Addr} {xs ys : List V} {n : Nat} (hn : n = min xs.length ys.length) : Walk (ItzT K a b) n (fun H => SqT K H a xs ∧ SqT K H b ys) (YPair (fun i => xs[i]?) (fun i => ys[i]?)) where
  goes := fun i H hi h => ⟨xs, ys, xs[i]'(by omega), ys[i]'(by omega), h.1, h.2, List.getElem?_eq_getElem _, List.getElem?_eq_getElem _⟩
  stops := fun H h => ⟨xs, ys, h.1, h.2, by omega⟩
  yields := fun i H x H' _ h y => by
    obtain ⟨T, u, v, e1, e2, e3, f1, f2⟩ := y
    exact ⟨T, u, v, e1, e2, e3, f1 _ h.1, f2 _ h.2⟩
theorem op_inK {K : PySem.W.Frag} (h : X.K = K := by rfl) : OpR X (compareOp .In) (rIn K false) := h ▸ op_in_seq
theorem op_notInK {K : PySem.W.Frag} (h : X.K = K := by rfl) : OpR X (compareOp .NotIn) (rIn K true) := h ▸ op_notIn_seq
/-- any of a list of ints -/
def rAnyI (K : PySem.W.Frag) : List V → Hp → VK → Prop := fun vs H Q => ∃ (a : Addr) (ns : List Int), vs = [V.ref a] ∧ SqL K H a (ns.map V.int) ∧ Q (.bl (ns.any fun n => n != 0)) H
theorem cr_anyI (calm : X.calm = true) : CallR X (.builtin "any") (rAnyI X.K) := by
  intro pins s σ H vs us Q I r h
  obtain ⟨a, ns, rfl, hs, q⟩ := h
  obtain ⟨its, rv, hl, _⟩ := I.list hs
  have en : its.length = ns.length := by rw [← rv.length, List.length_map]
  rw [Vals.ref1 r]
  refine call_any_walk (iter_any hl.isList ?_)
  rintro s₂ rfl st hne
  refine ⟨_, _, _, _, _, _, _, rfl, Walks.list (A := X.A.in1) (I.ok.hd calm) _ a hne its.toArray, st, truth_intsG rv, ?_⟩
  intro h' tk hk
  refine ⟨.bl _, H, I.kept (fun b o eo => hk b o (fun hm => ?_) (Heap.get?_push_of_some _ eo)), ?_, q⟩
  · rcases List.mem_cons.mp hm with e1 | hm
    · exact absurd (e1 ▸ Heap.lt_size eo) (Nat.lt_irrefl _)
    · cases hm
  · have ea := any_range (ns.map fun n => n != 0)
    rw [List.length_map] at ea
    show Value.bool _ = Value.bool _
    rw [List.size_toArray, en, ea, List.any_map]
    rfl
end

/-! ### data that may be shown: at most B signs, at most k deep -/
structure Nice (B k : Nat) (d : PyData) : Prop where
  sh : d.showable = true
  nd : d.hasDict = false
  dp : d.depth ≤ k
  sz : d.shown.length ≤ B
theorem Nice.mono {B B' k k' : Nat} {d : PyData} (h : Nice B k d) (hb : B ≤ B') (hk : k ≤ k') : Nice B' k' d := ⟨h.sh, h.nd, Nat.le_trans h.dp hk, Nat.le_trans h.sz hb⟩
theorem shownAll_len : ∀ ds : List PyData, (PyData.shownAll ds).length = ds.length
  | [] => rfl
  | d :: r => by
    show (PyData.shownAll r).length + 1 = r.length + 1
    rw [shownAll_len r]
theorem shownAll_sum {B : Nat} : ∀ ds : List PyData, (∀ d ∈ ds, d.shown.length ≤ B) → ((PyData.shownAll ds).map (·.length)).sum ≤ ds.length * B
  | [], _ => by simp [PyData.shownAll]
  | d :: r, h => by
    have ih := shownAll_sum (B := B) r fun x hx => h x (List.mem_cons_of_mem _ hx)
    have h1 := h d List.mem_cons_self
    show ((d.shown :: PyData.shownAll r).map (·.length)).sum ≤ (r.length + 1) * B
    rw [List.map_cons, List.sum_cons, Nat.succ_mul]
    omega
theorem showableAll_of : ∀ ds : List PyData, (∀ d ∈ ds, d.showable = true) → PyData.showableAll ds = true
  | [], _ => rfl
  | d :: r, h => by
    show (d.showable && PyData.showableAll r) = true
    rw [h d List.mem_cons_self, showableAll_of r fun x hx => h x (List.mem_cons_of_mem _ hx)]; rfl
theorem hasDictAll_of : ∀ ds : List PyData, (∀ d ∈ ds, d.hasDict = false) → PyData.hasDictAll ds = false
  | [], _ => rfl
  | d :: r, h => by
    show (d.hasDict || PyData.hasDictAll r) = false
    rw [h d List.mem_cons_self, hasDictAll_of r fun x hx => h x (List.mem_cons_of_mem _ hx)]; rfl
theorem depthAll_of {k : Nat} : ∀ ds : List PyData, (∀ d ∈ ds, d.depth ≤ k) → PyData.depthAll ds ≤ k
  | [], _ => Nat.zero_le _
  | d :: r, h => by
    show max d.depth (PyData.depthAll r) ≤ k
    have h1 := h d List.mem_cons_self
    have h2 := depthAll_of (k := k) r fun x hx => h x (List.mem_cons_of_mem _ hx)
    omega
theorem Nice.tup {B k n : Nat} {ds : List PyData} (h : ∀ d ∈ ds, Nice B k d) (hn : ds.length ≤ n) : Nice (n * (B + 2) + 3) (k + 1) (.tuple ds) where
  sh := showableAll_of ds fun d hd => (h d hd).sh
  nd := hasDictAll_of ds fun d hd => (h d hd).nd
  dp := by
    show PyData.depthAll ds + 1 ≤ k + 1
    have := depthAll_of ds fun d hd => (h d hd).dp
    omega
  sz := by
    show (tupleText (PyData.shownAll ds)).length ≤ _
    have h1 := tupleText_len_le (PyData.shownAll ds)
    have h2 := shownAll_sum ds fun d hd => (h d hd).sz
    rw [shownAll_len] at h1
    have h3 : ds.length * B + 2 * ds.length ≤ n * (B + 2) := by
      have : ds.length * (B + 2) ≤ n * (B + 2) := Nat.mul_le_mul_right _ hn
      rw [Nat.mul_add] at this
      omega
    omega
theorem Nice.lst {B k n : Nat} {ds : List PyData} (h : ∀ d ∈ ds, Nice B k d) (hn : ds.length ≤ n) : Nice (n * (B + 2) + 3) (k + 1) (.list ds) where
  sh := showableAll_of ds fun d hd => (h d hd).sh
  nd := hasDictAll_of ds fun d hd => (h d hd).nd
  dp := by
    show PyData.depthAll ds + 1 ≤ k + 1
    have := depthAll_of ds fun d hd => (h d hd).dp
    omega
  sz := by
    show (listText (PyData.shownAll ds)).length ≤ _
    have h1 := listText_len_le (PyData.shownAll ds)
    have h2 := shownAll_sum ds fun d hd => (h d hd).sz
    rw [shownAll_len] at h1
    have h3 : ds.length * B + 2 * ds.length ≤ n * (B + 2) := by
      have : ds.length * (B + 2) ≤ n * (B + 2) := Nat.mul_le_mul_right _ hn
      rw [Nat.mul_add] at this
      omega
    omega
theorem Nice.bl (b : Bool) : Nice 5 0 (.bool b) := by
  cases b
  · exact ⟨rfl, rfl, Nat.le_refl _, by decide +kernel⟩
  · exact ⟨rfl, rfl, Nat.le_refl _, by decide +kernel⟩
theorem small_ints : ∀ i : Fin 401, (Str.ofString (toString ((i.val : Int) - 200))).length ≤ 5 ∧ ((i.val : Int) - 200).natAbs.log2 < 1920 := by decide +kernel
theorem Nice.int {i : Int} (h0 : -200 ≤ i) (h1 : i ≤ 200) : Nice 5 0 (.int i) := by
  have h := small_ints ⟨(i + 200).toNat, by omega⟩
  have e : (((i + 200).toNat : Nat) : Int) - 200 = i := by omega
  simp only [e] at h
  exact ⟨decide_eq_true h.2, rfl, Nat.le_refl _, h.1⟩
theorem Nice.str {z : Str} {n : Nat} (hl : z.cps.toList.length ≤ n) (hc : ∀ c ∈ z.cps.toList, c < 128) : Nice (10 * n + 2) 0 (.str z) := by
  refine ⟨rfl, rfl, Nat.le_refl _, ?_⟩
  have h := StrLaws.reprText_len z fun c hm => Nat.lt_trans (hc c hm) (by decide)
  rw [str_len z] at h
  show (reprText z).length ≤ _
  omega
section
variable {X : Cx}
theorem call_reprN (hc : Calm X.A) (hu : X.A.units + 100 < cLine) : CallR X (.builtin "repr") (fun xs H Q => ∃ (a : Addr) (d : PyData) (B k : Nat), xs = [.ref a] ∧ Dp X.K H (.ref a) d ∧ Nice B k d ∧ B ≤ 100000 ∧ k ≤ 60 ∧ Q (.str d.shown) H) := by
  intro pins s σ H xs us Q I r h
  obtain ⟨a, d, B, k, e, hd, hn, hb, hk, q⟩ := h
  exact call_reprD hc hu pins s σ H xs us Q I r ⟨a, d, e, hd, hn.sh, hn.nd, Nat.le_trans hn.dp (by omega), small (Nat.le_trans hn.sz hb), q⟩
end
theorem sq_mv {K : PySem.W.Frag} {H H' : Hp} {d g a : Addr} {xs : List V} (D : Deck H d g) (m : Mv d g H H') (h : SqT K H a xs) : SqT K H' a xs := by
  obtain ⟨k, L, h1, h2, _⟩ := D.ex
  rcases h with (h | ⟨o, h⟩) | h
  · exact .inl (.inl (m.keep _ _ h (ne_of h h1 (fun z => nomatch z)) (ne_of h h2 (fun z => nomatch z))))
  · exact .inl (.inr ⟨o, m.keep _ _ h (ne_of h h1 (fun z => nomatch z)) (ne_of h h2 (fun z => nomatch z))⟩)
  · exact .inr h
/-- t + u, whatever they are -/
theorem catA_of {K : PySem.W.Frag} {H : Hp} {a b : Addr} {xs ys : List V} {Q : VK} (ha : SqT K H a xs) (hb : SqT K H b ys) (hl : xs.length + ys.length ≤ 100000) (q : ∀ p H', Same H H' → SqT K H' p (xs ++ ys) → Q (.ref p) H') : rCatA K (.ref a) (.ref b) H Q := by
  refine ⟨a, b, xs, ys, rfl, rfl, ha, hb, small hl, fun e => ?_, fun _ e => ?_, fun _ _ p np => ?_⟩
  · refine q b H (Same.refl H) ?_
    rw [e, List.nil_append]; exact hb
  · refine q a H (Same.refl H) ?_
    rw [e, List.append_nil]; exact ha
  · exact q p _ (Same.new np) (tofT upd_same)
theorem slA_of {K : PySem.W.Frag} {H : Hp} {a : Addr} {xs : List V} {lo hi : Option Int} {Q : VK} (ha : SqT K H a xs) (q : ∀ p H', Same H H' → SqT K H' p (cutV xs lo hi) → Q (.ref p) H') : rSlA K (.ref a) lo hi H Q := by
  refine ⟨a, xs, rfl, ha, fun e => ?_, fun _ p np => ?_⟩
  · refine q a H (Same.refl H) ?_
    unfold cutV
    rw [e.1, e.2, Nat.sub_zero, List.drop_zero, List.take_length]; exact ha
  · exact q p _ (Same.new np) (tofT upd_same)
end GL
/-! the deck of the later laws: a dict of a list of ints and two ints, the second one counts the draws -/
namespace G3
open PySem PySem.Spec PyProof.Rows L2 GL
structure Keys where
  c : Str
  b : Str
  n : Str
  cb : ¬ c = b
  cn : ¬ c = n
  bn : ¬ b = n
theorem inr_ne {x y : Str} (h : ¬ x = y) : ¬ ((Sum.inr x : Key) = (Sum.inr y : Key)) := fun e => by
  injection e with e1
  exact h e1
def deckD (k : Keys) (g : Addr) (m n : Int) : List (Key × V) := [(Sum.inr k.c, .ref g), (Sum.inr k.b, .int m), (Sum.inr k.n, .int n)]
theorem deck_c (k : Keys) (g : Addr) (m n : Int) : valV (deckD k g m n) (Sum.inr k.c : Key) = some (.ref g) := valV_pos rfl
theorem deck_b (k : Keys) (g : Addr) (m n : Int) : valV (deckD k g m n) (Sum.inr k.b : Key) = some (.int m) := by
  unfold deckD
  rw [valV_neg (inr_ne k.cb), valV_pos rfl]
theorem deck_n (k : Keys) (g : Addr) (m n : Int) : valV (deckD k g m n) (Sum.inr k.n : Key) = some (.int n) := by
  unfold deckD
  rw [valV_neg (inr_ne k.cn), valV_neg (inr_ne k.bn), valV_pos rfl]
theorem deck_put (k : Keys) (g : Addr) (m n n' : Int) : putK (deckD k g m n) (Sum.inr k.n : Key) (.int n') = deckD k g m n' := by
  unfold putK deckD
  simp only [List.any_cons, List.any_nil, List.map_cons, List.map_nil, decide_eq_false (inr_ne k.cn), decide_eq_false (inr_ne k.bn), decide_true, Bool.or_true, Bool.false_or, Bool.or_false, if_true]
  rw [if_neg (inr_ne k.cn), if_neg (inr_ne k.bn)]
theorem get_c {k : Keys} {H : Hp} {d g : Addr} {m n : Int} (h : H d = some (.dK (deckD k g m n))) : DGet H d (.str k.c) (some (.ref g)) := deck_c k g m n ▸ DGet.k (k := Sum.inr k.c) h
theorem get_b {k : Keys} {H : Hp} {d g : Addr} {m n : Int} (h : H d = some (.dK (deckD k g m n))) : DGet H d (.str k.b) (some (.int m)) := deck_b k g m n ▸ DGet.k (k := Sum.inr k.b) h
theorem get_n {k : Keys} {H : Hp} {d g : Addr} {m n : Int} (h : H d = some (.dK (deckD k g m n))) : DGet H d (.str k.n) (some (.int n)) := deck_n k g m n ▸ DGet.k (k := Sum.inr k.n) h
theorem put_n {k : Keys} {H : Hp} {d g : Addr} {m n n' : Int} (h : H d = some (.dK (deckD k g m n))) : DPut H d (.str k.n) (.int n') (upd H d (.dK (deckD k g m n'))) := deck_put k g m n n' ▸ DPut.k (k := Sum.inr k.n) h (show 3 < sizeLine from smallt (by omega))
theorem deck_merge (k : Keys) (g : Addr) (m n : Int) : mergeK [] (deckD k g m n) = deckD k g m n := by
  have e1 : putK ([] : List (Key × V)) (Sum.inr k.c : Key) (V.ref g) = [((Sum.inr k.c : Key), V.ref g)] := rfl
  have e2 : putK [((Sum.inr k.c : Key), V.ref g)] (Sum.inr k.b : Key) (V.int m) = [((Sum.inr k.c : Key), V.ref g), ((Sum.inr k.b : Key), V.int m)] := by
    unfold putK
    simp only [List.any_cons, List.any_nil, decide_eq_false (inr_ne k.cb), Bool.or_false]
    rfl
  have e3 : putK [((Sum.inr k.c : Key), V.ref g), ((Sum.inr k.b : Key), V.int m)] (Sum.inr k.n : Key) (V.int n) = deckD k g m n := by
    unfold putK
    simp only [List.any_cons, List.any_nil, decide_eq_false (inr_ne k.cn), decide_eq_false (inr_ne k.bn), Bool.or_false]
    rfl
  show putK (putK (putK ([] : List (Key × V)) (Sum.inr k.c : Key) (V.ref g)) (Sum.inr k.b : Key) (V.int m)) (Sum.inr k.n : Key) (V.int n) = _
  rw [e1, e2, e3]
section
variable {K : PySem.W.Frag} {H H' : Hp} {k : Keys} {d g : Addr} {b b' : Nat}
/-- the deck, from which b more draws may be made -/
structure Dk (k : Keys) (H : Hp) (d g : Addr) (b : Nat) : Prop where
  ex : ∃ (m n : Int) (L : List Int), H d = some (.dK (deckD k g m n)) ∧ H g = some (.lst (L.map V.int)) ∧ L.length ≤ 63 ∧ 0 ≤ m ∧ m < 2147483587 ∧ 0 ≤ n ∧ n + b ≤ 1000000000000
theorem Dk.ne (D : Dk k H d g b) : d ≠ g := by
  obtain ⟨m, n, L, h1, h2, _⟩ := D.ex
  exact ne_of h1 h2 (fun z => nomatch z)
theorem Dk.same (D : Dk k H d g b) (s : Same H H') : Dk k H' d g b := by
  obtain ⟨m, n, L, h1, h2, r⟩ := D.ex
  exact ⟨⟨m, n, L, s _ _ h1, s _ _ h2, r⟩⟩
theorem Dk.mono (D : Dk k H d g b) (h : b' ≤ b) : Dk k H d g b' := by
  obtain ⟨m, n, L, h1, h2, h3, h4, h5, h6, h7⟩ := D.ex
  exact ⟨⟨m, n, L, h1, h2, h3, h4, h5, h6, by omega⟩⟩
theorem Dk.off {p : Addr} (D : Dk k H d g b) (h : H p = none) : p ≠ d ∧ p ≠ g := by
  obtain ⟨m, n, L, h1, h2, r⟩ := D.ex
  exact ⟨(ne_of_none h1 h).symm, (ne_of_none h2 h).symm⟩
theorem Dk.new {p : Addr} {o : HO} (D : Dk k H d g b) (h : H p = none) : Dk k (upd H p o) d g b := D.same (Same.new h)
theorem Dk.mut {p : Addr} {o : HO} (D : Dk k H d g b) (n : p ≠ d ∧ p ≠ g) : Dk k (upd H p o) d g b := by
  obtain ⟨m, n', L, h1, h2, r⟩ := D.ex
  exact ⟨⟨m, n', L, by rw [upd_ne n.1.symm]; exact h1, by rw [upd_ne n.2.symm]; exact h2, r⟩⟩
theorem Mv.free3 {p : Addr} (m : Mv d g H H') (D' : Dk k H' d g b) (h : H' p = none) : H p = none := by
  have n := D'.off h
  cases e : H p with
  | none => rfl
  | some o => rw [m.keep p o e n.1 n.2] at h; cases h
def spDrw (k : Keys) : Sp := fun vs H Q _ => ∃ (d g : Addr) (n : Int) (b : Nat), vs = [.ref d, .int n] ∧ Dk k H d g (b + 1) ∧ 0 < n ∧ n.natAbs < 2 ^ 8000 ∧
  ∀ (r : Int) (H' : Hp), 0 ≤ r → r < n → Dk k H' d g b → Mv d g H H' → Q (.int r) H'
def spDck (K : PySem.W.Frag) (k : Keys) : Sp := fun vs H Q _ => ∃ (a : Addr) (ns : List Int), vs = [.ref a] ∧ SqL K H a (ns.map V.int) ∧ ns.length ≤ 63 ∧
  ∀ (d g : Addr) (H' : Hp), Same H H' → H d = none → H g = none → Dk k H' d g 1000000000000 → Q (.ref d) H'
def spPck (k : Keys) : Sp := fun vs H Q _ => ∃ (d g a : Addr) (xs : List V) (b : Nat), vs = [.ref d, .ref a] ∧ Dk k H d g (b + 1) ∧ H a = some (.lst xs) ∧ a ≠ g ∧ xs ≠ [] ∧ xs.length ≤ 1000 ∧
  ∀ (x : V) (H' : Hp), x ∈ xs → Dk k H' d g b → Mv d g H H' → Q x H'
theorem cut_map (ns : List Int) (lo hi : Option Int) : cutV (ns.map V.int) lo hi = ((ns.drop (HT.sIx ns.length 0 lo)).take (HT.sIx ns.length ns.length hi - HT.sIx ns.length 0 lo)).map V.int := by
  unfold cutV
  rw [List.length_map, List.map_take, List.map_drop]
theorem cut_ints (ns : List Int) (lo hi : Option Int) : ∃ ms : List Int, cutV (ns.map V.int) lo hi = ms.map V.int ∧ ms.length ≤ ns.length := by
  refine ⟨_, cut_map ns lo hi, ?_⟩
  rw [List.length_take, List.length_drop]
  omega
theorem ints_at {ns : List Int} {i : Nat} {x : V} (h : (ns.map V.int)[i]? = some x) : ∃ n, x = .int n ∧ i < ns.length := by
  rw [List.getElem?_map] at h
  cases e : ns[i]? with
  | none => rw [e] at h; cases h
  | some n =>
    rw [e] at h
    exact ⟨n, (Option.some.inj h).symm, (List.getElem?_eq_some_iff.mp e).1⟩
theorem vals_rev : ∀ {xs : List V} {us : List Value}, Vals xs us → Vals xs.reverse us.reverse
  | _, _, .nil => .nil
  | _, _, .cons r t => by
    rw [List.reverse_cons, List.reverse_cons]
    exact Vals.append (vals_rev t) (.cons r .nil)
def spLaw (K : PySem.W.Frag) : Sp := fun vs H Q _ => ∃ (a : Addr) (ns : List Int), vs = [.ref a] ∧ SqL K H a (ns.map V.int) ∧ ns.length ≤ 63 ∧ ∀ H', Q (.bl true) H'
theorem walk {l : PySem.W.OpenLaw} {k : Nat} {q : Program} {loose : List Str} {XP : (Str → Option Value) → Heap → Prop} {YP : World → Heap → Prop} {d : DefRec} {K : Params → PySem.W.Frag} (hn : l.most = some 63) (hdf : d.params.defaults = []) (hr : Room k callerA)
    (hY : ∀ (w : World) (h : Heap), YP w h → (K w.params).In h)
    (F : ∀ (w : World) (mg : Str → Option Value) (fa : Addr) (h : Heap), (K w.params).In h → h.Ns mainGlobals mg → mg d.name = some (.ref fa) →
      ∃ fd : FuncData, (∀ (s : Shared) (u : Value), BindsTo s fd ⟨[u], []⟩ [("_law_script", u)]) ∧ ∀ base : Heap, (K w.params).In base → base.Ns mainGlobals mg → FnG l.prog w (K w.params) mg base CX0 k fa fd ["_law_script"] (spLaw (K w.params))) :
    PySem.W.WalkO q loose XP YP l.row.toRowW d [] (fun f vs => PySem.call f vs) :=
  walkG (n := 63) (k := k) (x := "_law_script") (sp := spLaw) hn (by decide) hdf hr hY F (fun _ _ a ns hl _ hS => ⟨a, ns, rfl, hS, hl, fun _ => rfl⟩)
end
section
variable {X : Cx} {k n : Nat} {f : Addr} {fd : FuncData} {ps ks : List Str} {sp : Sp} {x : Str} {p pos : Pos} {e : Expr} {es : List Expr} {t tk : TA} {kws : List Keyword} {g : List Value → List Value → List Value} {gV : List V → List V → List V}
/-- what is known of a def that is called with keywords -/
structure DefKG (P : Program) (w : World) (K : PySem.W.Frag) (mg : Str → Option Value) (base : Heap) (k : Nat) (x : Str) (ps : List Str) (n : Nat) (ks : List Str) (gV : List V → List V → List V) (sp : Sp) : Prop where
  ex : ∃ (f : Addr) (fd : FuncData) (g : List Value → List Value → List Value), FnG P w K mg base CX0 k f fd ps sp ∧ mg x = some (.ref f) ∧ PySem.W.keepIn K (.ref f) = true ∧ KBn K fd ps n ks g gV
def tCallKG (sp : Sp) (n m : Nat) (gV : List V → List V → List V) (E : XK) (ta tk : TA) : TE := fun σ H Q => ta σ H fun vs H1 => tk σ H1 fun zs H2 => vs.length = n ∧ zs.length = m ∧ sp (gV vs zs) H2 Q E
/-- f(a=.., b=..) -/
theorem pe_defK0 (D : DefKG X.prog X.w X.K X.mg X.base k x ps 0 ks gV sp) (hr : Room k X.A) (hc : Calm X.A) (hg : Gl X x) (hkw : PK X kws tk)
    (hall : (backToKw pos (keywordEach kws X.env)).all (·.1.isSome) = true := by rfl) (hks : (backToKw pos (keywordEach kws X.env)).filterMap (·.1) = ks := by rfl) (hdb : (x == ("__debug__" : Str)) = false := by decide)
    (hpl : ((backTo pos (starEach [] X.env)).any (·.1) || (backToKw pos (keywordEach kws X.env)).any (·.1.isNone)) = false := by rfl) :
    PE X (.Call (.Name x p) [] kws pos) (tCallKG sp 0 ks.length gV E0 tNil tk) := by
  obtain ⟨f, fd, g, F, hm, hk, hb⟩ := D.ex
  constructor
  intro pins s σ H Q I h
  refine wpAny_Call_Name_kw (ld_glob I hg hm (PySem.W.callWith_KW0 (h₀ := X.base) I.ok.mod.kin hk hall (thn (hkw.run pos pins s σ H _ I h) ?_) hpl) hdb)
  rintro ws s2 ⟨zs, H2, I2, rz, l1, l2, q2⟩
  refine ⟨I2.kIn, ?_⟩
  rw [hks]
  exact runKG (us := []) (vs := []) F hr hc hb pass0 I2 .nil rz rfl l2 q2
end
theorem Nice.intW {i : Int} (h : i.natAbs < 2 ^ 1920) : Nice 1921 0 (.int i) := by
  have l : i.natAbs.log2 < 1920 := PySem.Flt.log2_lt_of (by decide) h
  exact ⟨decide_eq_true l, rfl, Nat.le_refl _, PyProof.Rows.int_text_len_1921 l⟩
theorem Nice.natW {n : Nat} (h : n < 2 ^ 1920) : Nice 1921 0 (.int (n : Int)) := Nice.intW (by rw [Int.natAbs_natCast]; exact h)
theorem defK_mk {P : Program} {w : World} {K : PySem.W.Frag} {mg : Str → Option Value} {base : Heap} {k n : Nat} {x : Str} {st : Stmt} {f : Addr} {fd : FuncData} {ps ks : List Str} {gV : List V → List V → List V} {g : List Value → List Value → List Value} {sp : Sp} (F : Fun K x x st f fd) (gl : mg x = some (.ref f)) (b : KBn K fd ps n ks g gV) (h : FnG P w K mg base CX0 k f fd ps sp) : DefKG P w K mg base k x ps n ks gV sp :=
  ⟨⟨f, fd, g, h, gl, F.kp, b⟩⟩
end G3
namespace GL
open PySem PySem.Spec PyProof.Rows L2 PySem.W PySem.Calls
/-! ### tuples whose own methods are called: it is known that they have no dict -/
def SqZ (K : PySem.W.Frag) (H : Hp) (a : Addr) (xs : List V) : Prop :=
  (∃ o : Obj, H a = some (.frz o (.tup xs)) ∧ o.dict = none) ∨
    ∃ (o : Obj) (its : Array Value) (n : Nat), K.lookup a = some o ∧ o.cls = .type "tuple" ∧ o.dict = none ∧ o.data = .seq its n ∧ its.size ≤ sizeLine ∧ Vals xs its.toList
theorem SqZ.t {K : PySem.W.Frag} {H : Hp} {a : Addr} {xs : List V} (h : SqZ K H a xs) : SqT K H a xs := by
  rcases h with ⟨o, h, _⟩ | ⟨o, its, n, h1, h2, _, h3, h4, h5⟩
  · exact .inl (.inr ⟨o, h⟩)
  · exact .inr ⟨o, its, n, h1, h2, h3, h4, h5⟩
theorem SqZ.to {K : PySem.W.Frag} {H H' : Hp} {a : Addr} {xs : List V} (k : ∀ o, H a = some (.frz o (.tup xs)) → H' a = some (.frz o (.tup xs))) (h : SqZ K H a xs) : SqZ K H' a xs :=
  h.imp (fun ⟨o, h, d⟩ => ⟨o, k o h, d⟩) id
theorem SqZ.same {K : PySem.W.Frag} {H H' : Hp} {a : Addr} {xs : List V} (s : Same H H') (h : SqZ K H a xs) : SqZ K H' a xs := h.to fun _ e => s _ _ e
/-- what is said of a new tuple -/
def NewZ (H : Hp) (xs : List V) (Q : VK) : Prop := ∀ (p : Addr) (o : Obj), H p = none → o.dict = none → Q (.ref p) (upd H p (.frz o (.tup xs)))
section
variable {X : Cx} {pins : List (Addr × Obj)} {σ : L2.St} {H : Hp} {s : Shared}
theorem newZ {xs : List V} {its : List Value} {Q : VK} (I : Inv X pins σ H s) (r : Vals xs its) (hz : xs.length ≤ sizeLine) (q : NewZ H xs Q) : EP X pins σ Q (.ref s.heap.objs.size) { s with heap := s.heap.push { cls := .type "tuple", data := .seq its.toArray } } :=
  ⟨.ref s.heap.objs.size, upd H s.heap.objs.size (.frz ({ cls := .type "tuple", data := .seq its.toArray } : Obj) (.tup xs)),
    I.laid (t' := s.toks) (fun b ob e => Heap.get?_push_of_some _ e) (Nat.le_refl _) (show ObjOk X.prog X.w _ _ _ (.frz _ (.tup xs)) from ⟨Heap.get?_push_size _ rfl, hz, its, r, IsTup.new _ _⟩), rfl, q _ _ (I.hok.fresh (Nat.le_refl _)) rfl⟩
/-- tuple(a list) -/
def kTupZ (K : PySem.W.Frag) : V → Hp → VK → Prop := fun x H Q => ∃ p xs, x = .ref p ∧ SqL K H p xs ∧ NewZ H xs Q
theorem pe_tupleZ {a : Expr} {ta : TE} {p pos : Pos} (hg : Gl X "tuple") (hm : X.mg "tuple" = none) (ha : PE X a ta) (na : starEach [a] X.env = (false, eval a X.env) :: starEach [] X.env := by rfl) :
    PE X (.Call (.Name "tuple" p) [a] [] pos) (tThen ta (kTupZ X.K)) := by
  constructor
  intro pins s σ H Q I h
  refine Call_ (ld_blt I hg hm boot_tuple (PyProof.Rows.callWith_type1 (one_arg ha I h (fun v s2 x H2 I2 r q => ?_) na) na))
  obtain ⟨p, xs, rfl, hs, q⟩ := q
  obtain rfl : v = .ref p := r
  obtain ⟨its, rv, pl, hz⟩ := I2.list hs
  refine call_tuple_list pl.isList (fun h' hk => ?_) (by rw [List.size_toArray, ← rv.length]; exact hz)
  exact newZ (s := { s2 with heap := h' }) (I2.kept (t' := s2.toks) hk) rv hz q
/-- t + u -/
def rCatZ (K : PySem.W.Frag) : R2 := fun x y H Q => ∃ a b xs ys, x = .ref a ∧ y = .ref b ∧ SqT K H a xs ∧ SqT K H b ys ∧ xs.length + ys.length ≤ sizeLine ∧ (xs = [] → Q (.ref b) H) ∧ (xs ≠ [] → ys = [] → Q (.ref a) H) ∧ (xs ≠ [] → ys ≠ [] → NewZ H (xs ++ ys) Q)
theorem op_catZ : OpR X (binaryOp .Add) (rCatZ X.K) := by
  intro pins s σ H x y v u Q I rx ry h
  obtain ⟨a, b, xs, ys, rfl, rfl, ha, hb, hz, q0, q1, q2⟩ := h
  obtain rfl : v = .ref a := rx
  obtain rfl : u = .ref b := ry
  obtain ⟨its, r1, p1, _⟩ := I.tuple ha
  obtain ⟨its2, r2, p2, _⟩ := I.tuple hb
  by_cases hx : xs = []
  · subst hx
    cases r1
    exact cat_tup0 p1 p2 ⟨.ref b, H, I, rfl, q0 rfl⟩
  · refine HT.cat_tup p1 p2 (fun z => hx (r1.nil_iff.mp z)) (fun z => ⟨.ref a, H, I, rfl, q1 hx (r2.nil_iff.mp z)⟩) (fun z => ?_) (by rw [← r1.length, ← r2.length]; exact hz)
    exact newZ I (r1.append r2) (by rw [List.length_append]; exact hz) (q2 hx fun w => z (r2.nil_iff.mpr w))
/-- t[lo:hi] -/
def rSlZ (K : PySem.W.Frag) : V → Option Int → Option Int → Hp → VK → Prop := fun x lo hi H Q => ∃ a xs, x = .ref a ∧ SqT K H a xs ∧
  (HT.sIx xs.length 0 lo = 0 ∧ HT.sIx xs.length xs.length hi = xs.length → Q (.ref a) H) ∧ (¬ (HT.sIx xs.length 0 lo = 0 ∧ HT.sIx xs.length xs.length hi = xs.length) → NewZ H (cutV xs lo hi) Q)
theorem sl_tupZ : SlR X (rSlZ X.K) := by
  intro pins s σ H x v vl vu lo hi sl Q I rx hs pl pu h
  obtain ⟨a, xs, rfl, hx, q1, q2⟩ := h
  obtain rfl : v = .ref a := rx
  obtain ⟨its, r, ht, hz⟩ := I.tuple hx
  have hlen : its.toArray.size = xs.length := by rw [List.size_toArray]; exact r.length.symm
  refine ⟨"tuple", _, PyProof.Rows.slot_tuple_getitem.lookup, ht.typeIs, ?_⟩
  by_cases hw : HT.sIx xs.length 0 lo = 0 ∧ HT.sIx xs.length xs.length hi = xs.length
  · exact getItem_tuple_whole ht hs pl pu (by rw [hlen]; exact hw) ⟨.ref a, H, I, rfl, q1 hw⟩
  · refine HT.getItem_tuple_cut ht hs pl pu (by rw [hlen]; exact hw) ?_ (by rw [hlen]; exact hz)
    rw [hlen]
    exact newZ I ((r.drop (HT.sIx xs.length 0 lo)).take (HT.sIx xs.length xs.length hi - HT.sIx xs.length 0 lo)) (Nat.le_trans (cutV_length xs lo hi) hz) (q2 hw)
variable {o e : Expr} {es : List Expr} {to : TE} {t : TA} {name : Str} {apos cpos : Pos} {id : String} {r : V → List V → Hp → VK → Prop}
/-- t.m(e, ..), m a method of tuples -/
def tBMZ (K : PySem.W.Frag) (r : V → List V → Hp → VK → Prop) (to : TE) (t : TA) : TE := fun σ H Q => to σ H fun x H1 => (∃ a xs, x = .ref a ∧ SqZ K H1 a xs) ∧ t σ H1 fun xs H2 => r x xs H2 Q
theorem pe_bmZ (slot : Slot "tuple" name id) (hty : typeOf (.builtin id) = pure (.type "method_descriptor")) (hm : MtR X id r) (ho : PE X o to) (ha : PA X (e :: es) t)
    (hbase : attributeBase o name X.env (eval o X.env) = eval o X.env := by rfl)
    (hfew : ((backTo cpos (starEach (e :: es) X.env)).all (fun x => !x.1) && (backToKw cpos (keywordEach [] X.env)).all (fun x => x.1.isSome)
      && decide ((e :: es).length + ([] : List Keyword).length + (if ([] : List Keyword).isEmpty then 0 else 1) < 30)) = true := by rfl)
    (hline : (apos.endLine == cpos.line) = true := by rfl) (hs : starEach (e :: es) X.env = (false, eval e X.env) :: starEach es X.env := by rfl) (hplain : (backTo cpos (starEach es X.env)).any (·.1) = false := by rfl) :
    PE X (.Call (.Attribute o name apos) (e :: es) [] cpos) (tBMZ X.K r to t) := by
  constructor
  intro pins s σ H Q I h
  refine wpAny_Call_method_late hbase hfew hline rfl (thn (ho.run pins s σ H _ I h) fun v s1 ⟨x, H1, I1, r1, ty, q1⟩ => ?_)
  obtain ⟨a, xs, rfl, hz⟩ := ty
  obtain rfl : v = .ref a := r1
  have tp : s1.TypeIs (.ref a) "tuple" ∧ ∃ ob, s1.heap.get? a = some ob ∧ ob.dict = none := by
    obtain ⟨its, _, ht, _⟩ := I1.tuple hz.t
    refine ⟨ht.typeIs, ?_⟩
    rcases hz with ⟨ob, e, d⟩ | ⟨ob, _, _, e, _, d, _⟩
    · exact ⟨ob, ((show ObjOk X.prog X.w H1 s1.heap a (.frz ob (.tup xs)) from I1.hok a _ e)).1, d⟩
    · exact ⟨ob, I1.kIn a ob e, d⟩
  refine ⟨"tuple", id, PySem.F.plainAttrs_tuple, slot, hty, tp.1, fun b e => ?_, ?_⟩
  · cases e
    exact tp.2
  have hA := ha.run cpos pins s1 σ H1 _ I1 q1
  rw [hs] at hA ⊢
  refine Calls.callWith_builtin (by show (false || (backTo cpos (starEach es X.env)).any (·.1)) = false; rw [hplain] <;> rfl) (Calls.evalArgs_plain ?_)
  exact thn hA fun us s2 ⟨vs, H2, I2, r2, q2⟩ => hm pins s2 σ H2 (V.ref a) vs _ us Q I2 rfl r2 q2
end

/-! ### t[::-1] -/
section
variable {prog : Program} {w : World} {A : Around} {E : Value → Shared → Prop} {s : Shared}
theorem fm_congr {α β : Type} {f g : α → Option β} : ∀ l : List α, (∀ k ∈ l, f k = g k) → l.filterMap f = l.filterMap g
  | [], _ => rfl
  | a :: r, h => by
    rw [List.filterMap_cons, List.filterMap_cons, h a List.mem_cons_self, fm_congr r fun k hk => h k (List.mem_cons_of_mem _ hk)]
theorem back_list (xs : Array Value) : ((List.range xs.size).filterMap fun (k : Nat) => xs[((xs.size : Int) - 1 + (k : Int) * (-1)).toNat]?).toArray = xs.toList.reverse.toArray := by
  congr 1
  have e : (List.range xs.size).filterMap (fun (k : Nat) => xs[((xs.size : Int) - 1 + (k : Int) * (-1)).toNat]?) = ((List.range xs.size).map fun k => xs.size - 1 - k).filterMap (xs[·]?) := by
    rw [List.filterMap_map]
    refine fm_congr _ fun k hk => ?_
    have := List.mem_range.mp hk
    show xs[((xs.size : Int) - 1 + (k : Int) * (-1)).toNat]? = xs[xs.size - 1 - k]?
    rw [show ((xs.size : Int) - 1 + (k : Int) * (-1)).toNat = xs.size - 1 - k by omega]
  rw [e, krv_range, List.filterMap_reverse, krv_all]
theorem getItem_tuple_back {t sl : Addr} {items : Array Value} {vs : Value} {Q : Value → Shared → Prop} (ht : IsTup s.heap t items) (hs : s.heap.IsSliceOf sl .none .none vs) (ps : IsPart vs (some (-1)))
    (h : Q (.ref s.heap.objs.size) { s with heap := s.heap.push { cls := .type "tuple", data := .seq items.toList.reverse.toArray } })
    (hsz : items.size ≤ sizeLine) : wpAny (model prog w) A (getItem (.ref t) (.ref sl)) Q E s := by
  have fit : sizeOk (.seq items.toList.reverse.toArray) := by
    show items.toList.reverse.toArray.size ≤ sizeLine
    rw [List.size_toArray, List.length_reverse, Array.length_toList]
    exact hsz
  obtain ⟨os, hos, hcs, hds⟩ := id hs
  have hTs : s.TypeIs (.ref sl) "slice" := ⟨os, hos, hcs⟩
  unfold getItem
  try with_reducible refine wpAny_holding ?_
  first | refine wpAny_bind (wpAny_pure ?_) | skip
  refine wpAny_bind (wpAny_sequenceKey ht.typeIs (by decide) ?_)
  refine wpAny_bind (wpAny_callSpecial?_slot (name := Str.ofString "__getitem__") ht.typeIs PyProof.Rows.slot_tuple_getitem
    (wpAny_call_entry PyProof.Rows.slot_tuple_getitem ht.typeIs entry_tuple_getitem ?_ (args_tuple_getitem _ _)))
  show wpAny _ _ (Builtin.Tuple.tupleItemsOf (.ref t) >>= _) _ _ s
  refine wpAny_bind (tupleItemsOf_ ht (wpAny_bind (wpAny_typeOf hTs ?_)))
  rw [if_pos (by decide)]
  have places : Builtin.Slice.slicePlaces ((items.size : Int) - 1) (-1) (-1) = items.size := by
    unfold Builtin.Slice.slicePlaces
    rw [if_neg (by decide)]
    by_cases z : items.size = 0
    · rw [z]; decide
    · rw [if_pos (by omega), show (-(-1 : Int)) = 1 by decide, Int.ediv_one]
      omega
  have app : wpAny (model prog w) A.in1 (Builtin.Slice.sliceApplied (.ref sl) (pure (items.size : Int))) (fun r s' => r = (((items.size : Int) - 1), -1, items.size) ∧ s' = s) (fun _ _ => False) s := by
    unfold Builtin.Slice.sliceApplied Builtin.Slice.sliceFields
    refine wpAny_bind (wpAny_bind (wpAny_field hos hds (x := .none) rfl (wpAny_bind (wpAny_field hos hds (x := .none) rfl (wpAny_bind (wpAny_field hos hds (x := vs) rfl (wpAny_pure ?_)))))))
    refine wpAny_bind (HT.slicePart_ ps ?_)
    show wpAny _ _ (if ((-1 : Int) == 0) = true then _ else _) _ _ s
    rw [if_neg (by decide)]
    refine wpAny_bind (slicePart_none (wpAny_bind (slicePart_none (wpAny_bind (wpAny_pure ?_)))))
    show wpAny _ _ (pure (((items.size : Int) - 1), (-1 : Int), Builtin.Slice.slicePlaces ((items.size : Int) - 1) (-1) (-1))) _ _ s
    rw [places]
    exact wpAny_pure ⟨rfl, rfl⟩
  refine wpAny_bind (wpAny_mono app (fun r s' hr => ?_) fun _ _ z => z.elim)
  obtain ⟨rfl, rfl⟩ := hr
  have no : ¬ ((((items.size : Int) - 1) == 0 && (-1 : Int) == 1 && items.size == items.size) = true) := by
    intro q
    rw [Bool.and_eq_true, Bool.and_eq_true] at q
    exact absurd q.1.2 (by decide)
  show wpAny _ _ (if (((items.size : Int) - 1) == 0 && (-1 : Int) == 1 && items.size == items.size) = true then _ else _) _ _ s'
  rw [if_neg no, back_list]
  first
    | exact wpAny_bind (m := Builtin.Tuple.tupleExact _) (wpAny_newObj_type (wpAny_pure ⟨_, rfl, wpAny_pure h⟩) fit)
    | exact wpAny_bind (m := Builtin.Tuple.tupleExact _) (wpAny_newObj_type (wpAny_bind (wpAny_pure (wpAny_pure ⟨_, rfl, wpAny_pure h⟩))) fit)
    | exact wpAny_bind (wpAny_bind (m := Builtin.Tuple.tupleExact _) (wpAny_newObj_type (wpAny_pure (wpAny_pure ⟨_, rfl, wpAny_pure h⟩)) fit))
    | exact wpAny_bind (wpAny_bind (m := Builtin.Tuple.tupleExact _) (wpAny_newObj_type (wpAny_pure ⟨_, rfl, wpAny_pure h⟩) fit))
end
section
variable {X : Cx}
def tRevZ (K : PySem.W.Frag) (te : TE) : TE := fun σ H Q => te σ H fun x H1 => ∃ a xs, x = .ref a ∧ SqT K H1 a xs ∧ NewZ H1 xs.reverse Q
theorem pe_revZ {e : Expr} {te : TE} {k : Nat} {p1 p2 p3 pos : Pos} (he : PE X e te) : PE X (.Subscript e (.Slice none none (some (.UnaryOp .USub (.Constant (.int 1) k p1) p2)) p3) pos) (tRevZ X.K te) := by
  constructor
  intro pins s σ H Q I h
  refine Subscript_ (thn (he.run pins s σ H _ I h) fun v s1 hv => ?_)
  obtain ⟨x, H1, I1, r1, a, xs, rfl, hx, q⟩ := hv
  obtain rfl : v = .ref a := r1
  have part : PO X (some (.UnaryOp .USub (.Constant (.int 1) k p1) p2)) (tPart (tUn (rU fun i => .int (-i)) (tC (.int 1)))) := po_some (pe_un un_neg pe_int)
  refine wpAny_Slice (thn (po_none.run pins s1 σ H1 (fun o H2 => o = none ∧ H2 = H1) I1 ⟨rfl, rfl⟩) fun vl s2 hl => ?_)
  obtain ⟨l, H2, I2, pl, rfl, rfl⟩ := hl
  refine thn (po_none.run pins s2 σ H2 (fun o H3 => o = none ∧ H3 = H2) I2 ⟨rfl, rfl⟩) fun vu s3 hu => ?_
  obtain ⟨u, H3, I3, pu, rfl, rfl⟩ := hu
  refine thn (part.run pins s3 σ H3 (fun o H4 => o = some (-1) ∧ H4 = H3) I3 ⟨1, rfl, -1, rfl, rfl, rfl⟩) fun vs s4 hp => ?_
  obtain ⟨o, H4, I4, ps, rfl, rfl⟩ := hp
  cases pl
  cases pu
  have I5 : Inv X pins σ H4 { s4 with heap := s4.heap.push { cls := .type "slice", data := .fields #[.none, .none, vs] } } := I4.kept (t' := s4.toks) fun b ob q => Heap.get?_push_of_some _ q
  obtain ⟨its, r, ht, hz⟩ := I5.tuple hx
  show wpAny (model X.prog X.w) X.A (subscriptTail e (.Slice none none (some (.UnaryOp .USub (.Constant (.int 1) k p1) p2)) p3) (.ref a) (.ref s4.heap.objs.size)) (EP X pins σ Q) X.xe { s4 with heap := s4.heap.push { cls := .type "slice", data := .fields #[.none, .none, vs] } }
  refine tail_any (ops := [.ref a, .ref s4.heap.objs.size]) ht.typeIs (PyProof.Rows.slot_tuple_getitem.lookup) ?_ (by with_unfolding_all rfl)
  refine getItem_tuple_back ht (Heap.IsSliceOf.new _ .none .none vs) ps ?_ (by rw [List.size_toArray, ← r.length]; exact hz)
  have e1 : its.toArray.toList.reverse.toArray = its.reverse.toArray := by simp
  rw [e1]
  exact newZ I5 r.reverse (by rw [List.length_reverse]; exact hz) q
end
/-! ### t * 0, t * 1 -/
section
theorem tuple_mul1 (l : Addr) (items : Array Value) (n : Nat) (dd : Option Addr) (sl : Array (Option Value)) (u : Tok) :
    Meets (Builtin.«tuple.__mul__» ⟨[.ref l, .int 1 u], []⟩) (fun _ R s => s.heap.get? l = some { cls := .type "tuple", dict := dd, data := .seq items n, slots := sl } ∧ R (.ok (.ret (Value.ref l))) s) :=
  .of_wp fun prog w A R s h => by
    obtain ⟨hp, g, d, tk, os⟩ := s
    obtain ⟨hl, h⟩ := h
    have f1 := AutoSeq1.idx_int
    have c1 : (items.isEmpty || (1 : Int) == 1) = true := by rw [Bool.or_eq_true]; exact Or.inr (by decide)
    wp_walk using wpAny_loadPart' hl
    repeat (first
      | (refine wpAny_ite_true (decide_eq_true c1) ?_; wp_walk using wpAny_loadPart' hl)
      | (refine wpAny_ite_false (by decide) ?_; wp_walk using wpAny_loadPart' hl))
    exact ⟨_, rfl, h⟩
theorem tuple_mul0 (l : Addr) (items : Array Value) (n : Nat) (dd : Option Addr) (sl : Array (Option Value)) (u : Tok) (ne : items.isEmpty = false) :
    Meets (Builtin.«tuple.__mul__» ⟨[.ref l, .int 0 u], []⟩) (fun _ R s => s.heap.get? l = some { cls := .type "tuple", dict := dd, data := .seq items n, slots := sl } ∧
      R (.ok (.ret (Value.ref s.heap.objs.size))) { s with heap := s.heap.push { cls := Value.type "tuple", data := Data.seq #[] }, toks := s.toks }) :=
  .of_wp fun prog w A R s h => by
    obtain ⟨hp, g, d, tk, os⟩ := s
    obtain ⟨hl, h⟩ := h
    have f1 := AutoSeq1.idx_int
    have c1 : (items.isEmpty || (0 : Int) == 1) = false := by rw [ne, Bool.false_or]; decide
    have c2 : (decide ((0 : Int) ≤ 0) || items.isEmpty) = true := by rw [Bool.or_eq_true]; exact Or.inl (by decide)
    wp_walk using wpAny_loadPart' hl
    repeat (first
      | (refine wpAny_ite_false (decide_eq_false (by rw [c1]; exact Bool.false_ne_true)) ?_; wp_walk using wpAny_loadPart' hl)
      | (refine wpAny_ite_true (decide_eq_true c2) ?_; wp_walk using wpAny_loadPart' hl)
      | (refine wpAny_ite_false (by decide) ?_; wp_walk using wpAny_loadPart' hl))
    exact ⟨_, rfl, h⟩
end
section
variable {X : Cx}
def rRep01 (K : PySem.W.Frag) : R2 := fun x y H Q => ∃ l k xs, x = .ref l ∧ y = .int k ∧ SqT K H l xs ∧ xs ≠ [] ∧ (k = 0 ∨ k = 1) ∧ (k = 0 → NewZ H [] Q) ∧ (k = 1 → Q (.ref l) H)
theorem op_rep01 : OpR X (binaryOp .Mult) (rRep01 X.K) := by
  intro pins s σ H x y v u Q I rx ry h
  obtain ⟨l, k, xs, rfl, rfl, hT, ne, hk, q0, q1⟩ := h
  obtain rfl : v = .ref l := rx
  obtain ⟨t, rfl⟩ := ry
  obtain ⟨its, r, ⟨⟨cls, dd, data, sl⟩, ho, hc, n, hd⟩, hs⟩ := I.tuple hT
  simp only at hc hd
  subst hc hd
  have em : its.toArray.isEmpty = false := by
    cases its with
    | nil => cases r; exact absurd rfl ne
    | cons a b => rfl
  refine wpAny_binaryOp_repeat_ref (T := "tuple") (U := "int") (by decide) ⟨_, ho, rfl⟩ (fun s' => typeIs_int s' k t) noFill_tuple_mul F.fills_int_mul F.slot_int_rmul repeat_tuple F.slot_int_index.lookup
    (call_meets F.slot_int_rmul (typeIs_int s k t) F.entry_int_rmul (F.args_int_rmul_2 _ _) (int_rmul_tuple k t l its.toArray n dd sl) ⟨ho, rfl, ⟨_, ho, rfl⟩, ?_⟩)
  rcases hk with rfl | rfl
  · exact call_meets F.slot_tuple_mul ⟨_, ho, rfl⟩ F.entry_tuple_mul (F.args_tuple_mul_2 _ _) (tuple_mul0 l its.toArray n dd sl t em) ⟨ho, newZ I (its := []) .nil (Nat.zero_le _) (q0 rfl)⟩
  · exact call_meets F.slot_tuple_mul ⟨_, ho, rfl⟩ F.entry_tuple_mul (F.args_tuple_mul_2 _ _) (tuple_mul1 l its.toArray n dd sl t) ⟨ho, ⟨.ref l, H, I, rfl, q1 rfl⟩⟩
end
end GL
/-! an instance that is called: own __call__, where nothing that guards itself is under way -/
namespace G3
open PySem PySem.Spec PyProof.Rows L2 GL StX PySem.W PySem.Calls
theorem callO_ofK {M : Model} {A : Around} {E : Value → Shared → Prop} {s : Shared} {a : Addr} {pos : Pos} {Q : Value → Shared → Prop} {args : List (Bool × Sem Value)} {kws : List (Option Str × Sem Value)} (hplain : (args.any (·.1) || kws.any (·.1.isNone)) = false)
    (h : wpAny M A (evalArgs (.ref a) true args kws) (fun z s₁ => (∃ C ox od, PySem.W.InstAt s₁.heap a ox C od ∧ ox.data = .plain) ∧ wpAny M A (call (.ref a) ([] ++ z.pos) z.kw) Q E s₁) E s) : wpAny M A (callWith pos (.ref a) [] args kws) Q E s := by
  unfold callWith
  refine wpAny_bind (wpAny_holding (wpAny_mono h (fun z s₁ h₁ => wpAny_bind (wpAny_standAt ?_)) fun _ _ y => y))
  obtain ⟨⟨C, ox, od, J, hd⟩, h₁⟩ := h₁
  have L := PySem.W.kco_keeper (M := M) J hd
  simp only [hplain]
  refine wpAny_bind (L.here ?_)
  have tail : ∀ {t : Sem Value}, wpAny M A t Q E s₁ → wpAny M A (t >>= fun r => holding [r] point >>= fun _ => pure r) Q E s₁ :=
    fun ht => wpAny_bind (wpAny_mono ht (fun r s₂ hr => wpAny_bind (wpAny_holding (wpAny_point (wpAny_pure hr)))) fun _ _ y => y)
  exact tail (wpAny_operateT h₁)
section
variable {X : Cx} {CX : CXT} {k n : Nat} {f C : Addr} {fd : FuncData} {ps ks : List Str} {sp : Sp} {E : XK} {e fe : Expr} {es : List Expr} {tf : TE} {t tk : TA} {p pos : Pos} {ds : List Value} {dvs : List V} {kws : List Keyword} {g : List Value → List Value → List Value} {gV : List V → List V → List V}
def tCallOG (C : Addr) (sp : Sp) (E : XK) (tf : TE) (t : TA) : TE := fun σ H Q => tf σ H fun y H1 => ∃ a, y = V.ref a ∧ t σ H1 fun vs H2 => (∃ dx fs, H2 a = some (.ins C dx fs)) ∧ sp (V.ref a :: vs) H2 Q E
/-- f(e, ..), f an expression that gives an instance -/
theorem pe_callOG (hf : PE X fe tf) (c : CallO X.K C f) (F : FnG X.prog X.w X.K X.mg X.base CX k f fd ps sp) (hb : Binds X.K fd ps []) (hr : Room k X.A) (hc : Calm X.A) (hx : Passes CX X E) (ha : PA X (e :: es) t)
    (ht : eval (.Call fe (e :: es) [] pos) X.env = (do callWith pos (← eval fe X.env) [] (backTo pos (starEach (e :: es) X.env)) (backToKw pos (keywordEach [] X.env))) := by rfl)
    (he : starEach (e :: es) X.env = (false, eval e X.env) :: starEach es X.env := by rfl) (hpl : (backTo pos (starEach es X.env)).any (·.1) = false := by rfl) : PE X (.Call fe (e :: es) [] pos) (tCallOG C sp E tf t) := by
  refine ⟨fun pins s σ H Q I h => ?_⟩
  refine Call_ (thn (hf.run pins s σ H _ I h) fun u s1 ⟨y, H1, I1, ry, a, ey, q⟩ => ?_) ht
  subst ey
  obtain rfl : u = Value.ref a := ry
  refine callO_with (thn (ha.run pos pins s1 σ H1 _ I1 q) fun us s2 ⟨vs, H2, I2, r, hi, q2⟩ => ?_) he hpl
  obtain ⟨ox, od, J, hd⟩ := insC_at I2 (.inr hi)
  refine ⟨⟨C, ox, od, J, hd⟩, ?_⟩
  have both : Vals (V.ref a :: vs) (Value.ref a :: us) := .cons rfl r
  have long : (Value.ref a :: us).length = ps.length := both.length.symm.trans (F.len _ _ _ _ q2)
  have go := F.run X.A X.stack s2 H2 ⟨Value.ref a :: us, []⟩ (Value.ref a :: us) (V.ref a :: vs) Q E hr hc I2.env0 (by simpa using hb s2 (Value.ref a :: us) I2.kIn (by simpa using long)) both q2
  refine wpAny_call (PySem.W.kco_code (a := ⟨us, []⟩) I2.kIn J hd c.at_ c.fn c.fi (codeAny_mono go fun r' s' q => ?_))
  have z := out_of hx I2 r' s' q
  match r', z with
  | .error _, z => exact z
  | .ok (.ret _), z => exact z
def tCallOKG (C : Addr) (sp : Sp) (n : Nat) (gV : List V → List V → List V) (E : XK) (tf : TE) (tk : TA) : TE := fun σ H Q => tf σ H fun y H1 => ∃ a, y = V.ref a ∧ tk σ H1 fun zs H2 => zs.length = n ∧ (∃ dx fs, H2 a = some (.ins C dx fs)) ∧ sp (gV [V.ref a] zs) H2 Q E
/-- f(k=e, ..) -/
theorem pe_callOKG (hf : PE X fe tf) (c : CallO X.K C f) (F : FnG X.prog X.w X.K X.mg X.base CX k f fd ps sp) (hb : KBn X.K fd ps 1 ks g gV) (hr : Room k X.A) (hc : Calm X.A) (hx : Passes CX X E) (hkw : PK X kws tk)
    (hall : (backToKw pos (keywordEach kws X.env)).all (·.1.isSome) = true := by rfl) (hks : (backToKw pos (keywordEach kws X.env)).filterMap (·.1) = ks := by rfl)
    (hpl : ((backTo pos (starEach [] X.env)).any (·.1) || (backToKw pos (keywordEach kws X.env)).any (·.1.isNone)) = false := by rfl)
    (ht : eval (.Call fe [] kws pos) X.env = (do callWith pos (← eval fe X.env) [] (backTo pos (starEach [] X.env)) (backToKw pos (keywordEach kws X.env))) := by rfl) : PE X (.Call fe [] kws pos) (tCallOKG C sp ks.length gV E tf tk) := by
  refine ⟨fun pins s σ H Q I h => ?_⟩
  rw [ht]
  refine wpAny_bind (thn (hf.run pins s σ H _ I h) fun u s1 ⟨y, H1, I1, ry, a, ey, q⟩ => ?_)
  subst ey
  obtain rfl : u = Value.ref a := ry
  refine callO_ofK hpl (evalArgs_kw2_nil hall (thn (hkw.run pos pins s1 σ H1 _ I1 q) fun ws s2 ⟨zs, H2, I2, rz, l2, hi, q2⟩ => ?_))
  obtain ⟨ox, od, J, hd⟩ := insC_at I2 (.inr hi)
  refine ⟨⟨C, ox, od, J, hd⟩, ?_⟩
  rw [hks]
  have go := F.run X.A X.stack s2 H2 ⟨[Value.ref a], ks.zip ws⟩ (g [Value.ref a] ws) (gV [V.ref a] zs) Q E hr hc I2.env0 (hb.to s2 [Value.ref a] ws I2.kIn rfl (rz.length.symm.trans l2)) (hb.rel (.cons rfl .nil) rz) q2
  refine wpAny_call (PySem.W.kco_code (a := ⟨[], ks.zip ws⟩) I2.kIn J hd c.at_ c.fn c.fi (codeAny_mono go fun r' s' q => ?_))
  have z := out_of hx I2 r' s' q
  match r', z with
  | .error _, z => exact z
  | .ok (.ret _), z => exact z
end
/-! ### C.m(..), m a static method of the class at C -/
structure StatM (K : PySem.W.Frag) (C : Addr) (m : Str) (f : Addr) : Prop where
  ga : PySem.W.specialIn K (.ref C) "__getattribute__" = some (some (.builtin "type.__getattribute__"))
  rd : PySem.W.readsIn K C (.type "type") = true
  fc : ∃ (p : Addr) (rest : List Value), PySem.W.findCls K (.ref C) (.type "type") m = some (.get (.builtin "staticmethod.__get__") (.ref p) .none (.ref C)) ∧ PySem.W.recIn K p "staticmethod" = some (.ref f :: rest)
  kp : PySem.W.keepIn K (.ref f) = true
theorem getstat {X : Cx} {pins : List (Addr × Obj)} {σ : L2.St} {H : Hp} {s : Shared} {A : Around} {E : Value → Shared → Prop} {C f : Addr} {m : Str} {pl : Sem Bool} {Q : Value × List Value → Shared → Prop} (I : Inv X pins σ H s) (S : StatM X.K C m f)
    (h : ∀ s', Inv X pins σ H s' → Q (.ref f, []) s') : wpAny (model X.prog X.w) A (getMethod (.ref C) m pl) Q E s := by
  obtain ⟨p, rest, e1, e2⟩ := S.fc
  refine PySem.W.method_cls I.kIn S.ga (PySem.W.cls_bind (mc := .type "type") I.kIn S.rd e1 (wpAny_call (PySem.W.sm_get (s := { s with toks := s.toks + 1 }) I.kIn e2 (PySem.W.handed_on rfl ?_))))
  exact h _ (I.tok _)
section
variable {X : Cx} {CX : CXT} {k n : Nat} {f C : Addr} {fd : FuncData} {ps ks : List Str} {sp : Sp} {x m : Str} {e : Expr} {es : List Expr} {t tk : TA} {p pos apos : Pos} {ds : List Value} {dvs : List V} {kws : List Keyword} {g : List Value → List Value → List Value} {gV : List V → List V → List V}
theorem pe_statG {pl : Sem Bool} (S : StatM X.K C m f) (F : FnG X.prog X.w X.K X.mg X.base CX0 k f fd ps sp) (hb : Binds X.K fd ps ds) (hd : Vals dvs ds) (hr : Room k X.A) (hc : Calm X.A) (hg : Gl X x) (hm : X.mg x = some (.ref C)) (ha : PA X (e :: es) t) (hdb : (x == ("__debug__" : Str)) = false := by decide)
    (hst : starEach (e :: es) X.env = (false, eval e X.env) :: starEach es X.env := by rfl) (hpl : (backTo pos (starEach es X.env)).any (·.1) = false := by rfl)
    (ht : eval (.Call (.Attribute (.Name x p) m apos) (e :: es) [] pos) X.env = (eval (.Name x p) X.env >>= fun ov => standAt apos.atName >>= fun _ => holding [ov] (getMethod ov m pl) >>= fun fx =>
      callWith pos fx.1 fx.2 (backTo pos (starEach (e :: es) X.env)) (backToKw pos (keywordEach [] X.env))) := by rfl) :
    PE X (.Call (.Attribute (.Name x p) m apos) (e :: es) [] pos) (tCall sp dvs E0 t) := by
  constructor
  intro pins s σ H Q I h
  refine PySem.W.methodCall_KW (pl := pl) (ld_glob I hg hm ?_ hdb) ht
  refine getstat I S fun s1 I1 => ?_
  refine PySem.W.callWith_K (first := []) (h₀ := X.base) I1.ok.mod.kin S.kp (thn (ha.run pos pins s1 σ H _ I1 h) ?_) hst hpl
  rintro us s2 ⟨vs, H2, I2, r, q2⟩
  exact ⟨I2.kIn, runG F hr hc hb hd pass0 I2 r q2⟩
theorem pe_statKG0 {pl : Sem Bool} (S : StatM X.K C m f) (F : FnG X.prog X.w X.K X.mg X.base CX0 k f fd ps sp) (hb : KBn X.K fd ps 0 ks g gV) (hr : Room k X.A) (hc : Calm X.A) (hg : Gl X x) (hm : X.mg x = some (.ref C)) (hkw : PK X kws tk) (hdb : (x == ("__debug__" : Str)) = false := by decide)
    (hall : (backToKw pos (keywordEach kws X.env)).all (·.1.isSome) = true := by rfl) (hks : (backToKw pos (keywordEach kws X.env)).filterMap (·.1) = ks := by rfl)
    (hpl : ((backTo pos (starEach [] X.env)).any (·.1) || (backToKw pos (keywordEach kws X.env)).any (·.1.isNone)) = false := by rfl)
    (ht : eval (.Call (.Attribute (.Name x p) m apos) [] kws pos) X.env = (eval (.Name x p) X.env >>= fun ov => standAt apos.atName >>= fun _ => holding [ov] (getMethod ov m pl) >>= fun fx =>
      callWith pos fx.1 fx.2 (backTo pos (starEach [] X.env)) (backToKw pos (keywordEach kws X.env))) := by rfl) :
    PE X (.Call (.Attribute (.Name x p) m apos) [] kws pos) (tCallKG sp 0 ks.length gV E0 tNil tk) := by
  constructor
  intro pins s σ H Q I h
  refine PySem.W.methodCall_KW (pl := pl) (ld_glob I hg hm ?_ hdb) ht
  refine getstat I S fun s1 I1 => ?_
  refine PySem.W.callWith_KW0 (first := []) (h₀ := X.base) I1.ok.mod.kin S.kp hall (thn (hkw.run pos pins s1 σ H _ I1 h) ?_) hpl
  rintro ws s2 ⟨zs, H2, I2, rz, l1, l2, q2⟩
  refine ⟨I2.kIn, ?_⟩
  rw [hks]
  exact runKG (us := []) (vs := []) F hr hc hb pass0 I2 .nil rz rfl l2 q2
theorem pe_statKG1 {pl : Sem Bool} (S : StatM X.K C m f) (F : FnG X.prog X.w X.K X.mg X.base CX0 k f fd ps sp) (hb : KBn X.K fd ps n ks g gV) (hr : Room k X.A) (hc : Calm X.A) (hg : Gl X x) (hm : X.mg x = some (.ref C)) (ha : PA X (e :: es) t) (hkw : PK X kws tk) (hdb : (x == ("__debug__" : Str)) = false := by decide)
    (hall : (backToKw pos (keywordEach kws X.env)).all (·.1.isSome) = true := by rfl) (hks : (backToKw pos (keywordEach kws X.env)).filterMap (·.1) = ks := by rfl)
    (hpl : ((backTo pos (starEach (e :: es) X.env)).any (·.1) || (backToKw pos (keywordEach kws X.env)).any (·.1.isNone)) = false := by rfl)
    (hst : starEach (e :: es) X.env = (false, eval e X.env) :: starEach es X.env := by rfl)
    (ht : eval (.Call (.Attribute (.Name x p) m apos) (e :: es) kws pos) X.env = (eval (.Name x p) X.env >>= fun ov => standAt apos.atName >>= fun _ => holding [ov] (getMethod ov m pl) >>= fun fx =>
      callWith pos fx.1 fx.2 (backTo pos (starEach (e :: es) X.env)) (backToKw pos (keywordEach kws X.env))) := by rfl) :
    PE X (.Call (.Attribute (.Name x p) m apos) (e :: es) kws pos) (tCallKG sp n ks.length gV E0 t tk) := by
  constructor
  intro pins s σ H Q I h
  refine PySem.W.methodCall_KW (pl := pl) (ld_glob I hg hm ?_ hdb) ht
  refine getstat I S fun s1 I1 => ?_
  refine PySem.W.callWith_KW (first := []) (h₀ := X.base) I1.ok.mod.kin S.kp hall (thn (ha.run pos pins s1 σ H _ I1 h) ?_) hpl hst
  rintro us s2 ⟨vs, H2, I2, r, q2⟩
  refine thn (hkw.run pos pins s2 σ H2 _ I2 q2) ?_
  rintro ws s3 ⟨zs, H3, I3, rz, l1, l2, q3⟩
  refine ⟨I3.kIn, ?_⟩
  rw [hks]
  exact runKG (us := us) (vs := vs) F hr hc hb pass0 I3 r rz l1 l2 q3
end
/-! ### rules told with the written part itself: a comprehension's element may then use them -/
section
variable {X : Cx} {K : PySem.W.Frag} {a e o : Expr} {ta : TE} {p pos : Pos} {f : Str}
theorem ix_tupK (h : X.K = K := by rfl) : IxR X (rIxT K) := h ▸ ix_tup
theorem ix_listK (h : X.K = K := by rfl) : IxR X (rIxL K) := h ▸ ix_list
theorem pe_fldK (he : PE X e ta) (hb : attributeBase e f X.env (eval e X.env) = eval e X.env) (h : X.K = K := by rfl) : PE X (.Attribute e f pos) (tFld K ta f) := h ▸ pe_fld he hb
theorem pe_tupleOfK (hg : Gl X "tuple") (hm : X.mg "tuple" = none) (ha : PE X a ta) (h : X.K = K := by rfl) (na : starEach [a] X.env = (false, eval a X.env) :: starEach [] X.env := by rfl) :
    PE X (.Call (.Name "tuple" p) [a] [] pos) (tThen ta (kTup K)) := h ▸ pe_tupleOf hg hm ha na
theorem op_catAK (h : X.K = K := by rfl) : OpR X (binaryOp .Add) (rCatA K) := h ▸ op_catA
/-- t * k, k from 1 on -/
def rRepP (K : PySem.W.Frag) : R2 := fun x y H Q => ∃ l k xs, x = .ref l ∧ y = .int k ∧ SqT K H l xs ∧ xs ≠ [] ∧ 1 ≤ k ∧ k ≤ 1000 ∧ xs.length ≤ 1000 ∧ (k = 1 → Q (.ref l) H) ∧ (2 ≤ k → ∀ p, H p = none → Q (.ref p) (upd H p (.tup (List.replicate k.toNat xs).flatten)))
theorem op_repPK (h : X.K = K := by rfl) : OpR X (binaryOp .Mult) (rRepP K) := by
  subst h
  intro pins s σ H x y v u Q I rx ry hh
  obtain ⟨l, k, xs, rfl, rfl, hT, ne, h1, h2, hl, q1, q2⟩ := hh
  by_cases e : k = 1
  · exact op_rep01 pins s σ H _ _ v u Q I rx ry ⟨l, k, xs, rfl, rfl, hT, ne, .inr e, fun z => absurd z (by omega), q1⟩
  · exact op_repT pins s σ H _ _ v u Q I rx ry ⟨l, k, xs, rfl, rfl, hT, ne, by omega, h2, hl, q2 (by omega)⟩
def rLenSeq (K : PySem.W.Frag) : List V → Hp → VK → Prop := fun xs H Q => ∃ p ys, xs = [.ref p] ∧ (SqL K H p ys ∨ SqT K H p ys) ∧ Q (.int (ys.length : Nat)) H
theorem call_len_seqK (h : X.K = K := by rfl) : CallR X (.builtin "len") (rLenSeq K) := h ▸ call_len_seq
end
end G3
/-! tables of steps, what they reach, what they read; how they lie -/
namespace MA
open PySem PySem.Spec PyProof.Rows L2 GL G3
abbrev Tab := List (List Nat)
def vI (x : Nat) : V := V.int (x : Int)
def row (S : Tab) (s : Nat) : List Nat := (S[s]?).getD []
def stp (S : Tab) (s d : Nat) : Nat := ((row S s)[d]?).getD 0
structure Wf (S : Tab) (n b : Nat) : Prop where
  len : S.length = n
  wid : ∀ r ∈ S, r.length = b
  ent : ∀ r ∈ S, ∀ x ∈ r, x < n
inductive Rch (S : Tab) : Nat → Prop
  | zero : Rch S 0
  | step {s x : Nat} : Rch S s → x ∈ row S s → Rch S x
theorem row_mem {S : Tab} {s : Nat} (h : s < S.length) : row S s ∈ S := by
  unfold row
  rw [List.getElem?_eq_getElem h]
  exact List.getElem_mem h
theorem row_at {S : Tab} {s : Nat} (h : s < S.length) : S[s]? = some (row S s) := by
  unfold row
  rw [List.getElem?_eq_getElem h]; rfl
section
variable {S : Tab} {n b : Nat}
theorem Wf.rlen (W : Wf S n b) {s : Nat} (h : s < n) : (row S s).length = b := W.wid _ (row_mem (by rw [W.len]; exact h))
theorem Wf.rlt (W : Wf S n b) {s x : Nat} (h : x ∈ row S s) : x < n := by
  by_cases hs : s < S.length
  · exact W.ent _ (row_mem hs) x h
  · unfold row at h
    rw [List.getElem?_eq_none (by omega)] at h
    cases h
theorem stp_at (W : Wf S n b) {s d : Nat} (h : s < n) (hd : d < b) : (row S s)[d]? = some (stp S s d) := by
  unfold stp
  have := W.rlen h
  rw [List.getElem?_eq_getElem (show d < (row S s).length by omega)]; rfl
theorem stp_mem (W : Wf S n b) {s d : Nat} (h : s < n) (hd : d < b) : stp S s d ∈ row S s := List.mem_of_getElem? (stp_at W h hd)
theorem stp_lt (W : Wf S n b) {s d : Nat} (h : s < n) (hd : d < b) : stp S s d < n := W.rlt (stp_mem W h hd)
theorem Rch.lt (W : Wf S n b) (h0 : 0 < n) {s : Nat} (h : Rch S s) : s < n := by
  cases h with
  | zero => exact h0
  | step _ h => exact W.rlt h
/-- the state to which the digits lead -/
def runs (S : Tab) (b s m : Nat) : Nat := if h : 2 ≤ b ∧ 0 < m then runs S b (stp S s (m % b)) (m / b) else s
termination_by m
decreasing_by exact Nat.div_lt_self h.2 h.1
theorem runs_go {s m : Nat} (hb : 2 ≤ b) (hm : 0 < m) : runs S b s m = runs S b (stp S s (m % b)) (m / b) := by rw [runs, dif_pos ⟨hb, hm⟩]
theorem runs_end {s : Nat} : runs S b s 0 = s := by rw [runs, dif_neg (fun z => absurd z.2 (by decide))]
theorem runs_lt (W : Wf S n b) (hb : 2 ≤ b) : ∀ (m s : Nat), s < n → runs S b s m < n := by
  intro m
  induction m using Nat.strongRecOn with
  | ind m ih =>
    intro s hs
    rcases Nat.eq_zero_or_pos m with rfl | hm
    · rw [runs_end]; exact hs
    · rw [runs_go hb hm]
      exact ih _ (Nat.div_lt_self hm hb) _ (stp_lt W hs (Nat.mod_lt _ (by omega)))
/-! ### rounds -/
def it (S : Tab) : Nat → Nat → Nat
  | 0, s => s
  | k + 1, s => it S k (stp S s 0)
theorem it_succ : ∀ (k s : Nat), it S (k + 1) s = stp S (it S k s) 0
  | 0, _ => rfl
  | k + 1, s => it_succ k (stp S s 0)
theorem it_add : ∀ (j k s : Nat), it S (j + k) s = it S j (it S k s)
  | j, 0, s => rfl
  | j, k + 1, s => by
    show it S (j + k) (stp S s 0) = it S j (it S k (stp S s 0))
    exact it_add j k _
theorem it_lt (W : Wf S n b) (hb : 0 < b) : ∀ (k s : Nat), s < n → it S k s < n
  | 0, _, h => h
  | k + 1, s, h => it_lt W hb k _ (stp_lt W h hb)
/-- the least one of s and of the k next ones -/
def low (S : Tab) : Nat → Nat → Nat
  | 0, s => s
  | k + 1, s => min (low S k s) (it S (k + 1) s)
theorem low_le : ∀ (k s j : Nat), j ≤ k → low S k s ≤ it S j s
  | 0, s, j, h => by rw [show j = 0 by omega]; exact Nat.le_refl _
  | k + 1, s, j, h => by
    rcases Nat.lt_or_ge j (k + 1) with l | l
    · exact Nat.le_trans (Nat.min_le_left _ _) (low_le k s j (by omega))
    · rw [show j = k + 1 by omega]; exact Nat.min_le_right _ _
theorem low_is : ∀ (k s : Nat), ∃ j, j ≤ k ∧ low S k s = it S j s
  | 0, s => ⟨0, Nat.le_refl _, rfl⟩
  | k + 1, s => by
    obtain ⟨j, hj, e⟩ := low_is k s
    rcases Nat.le_total (low S k s) (it S (k + 1) s) with l | l
    · exact ⟨j, by omega, by show min _ _ = _; rw [Nat.min_eq_left l, e]⟩
    · exact ⟨k + 1, Nat.le_refl _, Nat.min_eq_right l⟩
def rnd (S : Tab) (n s : Nat) : Nat := low S n (it S n s)
/-- two alike among more than there are -/
theorem pigeon : ∀ (n : Nat) (f : Nat → Nat), (∀ i, i ≤ n → f i < n) → ∃ i j, i < j ∧ j ≤ n ∧ f i = f j
  | 0, f, h => absurd (h 0 (Nat.le_refl _)) (Nat.not_lt_zero _)
  | n + 1, f, h => by
    by_cases e : ∃ i, i < n + 1 ∧ f i = f (n + 1)
    · obtain ⟨i, hi, e⟩ := e
      exact ⟨i, n + 1, hi, Nat.le_refl _, e⟩
    · have ne : ∀ i, i ≤ n → f i ≠ f (n + 1) := fun i hi z => e ⟨i, by omega, z⟩
      let g : Nat → Nat := fun i => if f i < f (n + 1) then f i else f i - 1
      have hg : ∀ i, i ≤ n → g i < n := by
        intro i hi
        have h1 := h i (by omega)
        have h2 := h (n + 1) (Nat.le_refl _)
        have h3 := ne i hi
        show (if f i < f (n + 1) then f i else f i - 1) < n
        split <;> omega
      obtain ⟨i, j, hij, hj, eg⟩ := pigeon n g hg
      refine ⟨i, j, hij, by omega, ?_⟩
      have h3 := ne i (by omega)
      have h4 := ne j hj
      have eg' : (if f i < f (n + 1) then f i else f i - 1) = (if f j < f (n + 1) then f j else f j - 1) := eg
      split at eg' <;> split at eg' <;> omega
theorem back (W : Wf S n b) (hb : 0 < b) {s : Nat} (h : s < n) : ∃ p, 1 ≤ p ∧ p ≤ n ∧ it S p (it S n s) = it S n s := by
  obtain ⟨i, j, hij, hj, e⟩ := pigeon n (fun k => it S k s) (fun k _ => it_lt W hb k s h)
  refine ⟨j - i, by omega, by omega, ?_⟩
  have e1 : it S n s = it S (n - i) (it S i s) := by rw [← it_add]; congr 1; omega
  have e2 : it S n s = it S (n - i) (it S i s) := e1
  rw [← it_add, show j - i + n = (n - i) + j by omega, it_add, ← e, ← it_add]
  congr 1
  omega
/-- a round is the same from the next one -/
theorem rnd_step (W : Wf S n b) (hb : 0 < b) {s : Nat} (h : s < n) : rnd S n (stp S s 0) = rnd S n s := by
  obtain ⟨p, p1, pn, ep⟩ := back W hb h
  have e0 : it S n (stp S s 0) = it S 1 (it S n s) := by rw [← it_add, Nat.add_comm]; rfl
  unfold rnd
  rw [e0]
  generalize it S n s = t at *
  refine Nat.le_antisymm ?_ ?_
  · obtain ⟨j, hj, e⟩ := low_is (S := S) n t
    rw [e]
    rcases Nat.eq_zero_or_pos j with rfl | j0
    · have := low_le (S := S) n (it S 1 t) (p - 1) (by omega)
      rw [← it_add, show p - 1 + 1 = p by omega, ep] at this
      exact this
    · have := low_le (S := S) n (it S 1 t) (j - 1) (by omega)
      rw [← it_add, show j - 1 + 1 = j by omega] at this
      exact this
  · obtain ⟨j, hj, e⟩ := low_is (S := S) n (it S 1 t)
    rw [e, ← it_add]
    rcases Nat.lt_or_ge j n with l | l
    · exact low_le n t (j + 1) (by omega)
    · have := low_le (S := S) n t (j + 1 - p) (by omega)
      have e2 : it S (j + 1) t = it S (j + 1 - p) t := by
        rw [show j + 1 = (j + 1 - p) + p by omega, it_add, ep]
        congr 1
        omega
      rw [e2]
      exact this
theorem rnd_lt (W : Wf S n b) (hb : 0 < b) {s : Nat} (h : s < n) : rnd S n s < n := by
  unfold rnd
  obtain ⟨j, _, e⟩ := low_is (S := S) n (it S n s)
  rw [e]
  exact it_lt W hb _ _ (it_lt W hb _ _ h)
end
/-! ### how tables lie -/
section
variable {K : PySem.W.Frag} {H H' : Hp} {a d g : Addr} {S : Tab} {b c : Nat} {k : Keys}
structure Grid (K : PySem.W.Frag) (H : Hp) (a : Addr) (S : Tab) : Prop where
  ex : ∃ rs : List Addr, SqT K H a (rs.map V.ref) ∧ rs.length = S.length ∧ ∀ (i : Nat) (r : Addr) (w : List Nat), rs[i]? = some r → S[i]? = some w → SqT K H r (w.map vI)
theorem Grid.to (h : Grid K H a S) (t : ∀ {p : Addr} {xs : List V}, SqT K H p xs → SqT K H' p xs) : Grid K H' a S := by
  obtain ⟨rs, h1, h2, h3⟩ := h.ex
  exact ⟨rs, t h1, h2, fun i r w e1 e2 => t (h3 i r w e1 e2)⟩
theorem Grid.same (h : Grid K H a S) (s : Same H H') : Grid K H' a S := h.to fun q => Same.tup s q
theorem SqT.mv3 {p : Addr} {xs : List V} (D : Dk k H d g b) (m : Mv d g H H') (h : SqT K H p xs) : SqT K H' p xs := by
  obtain ⟨x, y, L, h1, h2, _⟩ := D.ex
  rcases h with (h | ⟨o, h⟩) | h
  · exact .inl (.inl (m.keep _ _ h (ne_of h h1 (fun z => nomatch z)) (ne_of h h2 (fun z => nomatch z))))
  · exact .inl (.inr ⟨o, m.keep _ _ h (ne_of h h1 (fun z => nomatch z)) (ne_of h h2 (fun z => nomatch z))⟩)
  · exact .inr h
theorem Dk.tup {r : Addr} {xs : List V} (D : Dk k H d g b) (h : H r = some (.tup xs)) : r ≠ d ∧ r ≠ g := by
  obtain ⟨x, y, L, h1, h2, _⟩ := D.ex
  exact ⟨ne_of h h1 (fun z => nomatch z), ne_of h h2 (fun z => nomatch z)⟩
theorem Dk.ins {r C dx : Addr} {fs : List (Str × V)} (D : Dk k H d g b) (h : H r = some (.ins C dx fs)) : r ≠ d ∧ r ≠ g := by
  obtain ⟨x, y, L, h1, h2, _⟩ := D.ex
  exact ⟨ne_of h h1 (fun z => nomatch z), ne_of h h2 (fun z => nomatch z)⟩
theorem Grid.mv3 (h : Grid K H a S) (D : Dk k H d g b) (m : Mv d g H H') : Grid K H' a S := h.to fun q => SqT.mv3 D m q
theorem SqT.upd {p q : Addr} {xs ys : List V} (hq : H q = some (.lst ys)) {o : HO} (h : SqT K H p xs) : SqT K (upd H q o) p xs := by
  rcases h with (h | ⟨o', h⟩) | h
  · exact .inl (.inl (by rw [upd_ne (ne_of h hq (fun z => nomatch z))]; exact h))
  · exact .inl (.inr ⟨o', by rw [upd_ne (ne_of h hq (fun z => nomatch z))]; exact h⟩)
  · exact .inr h
theorem Grid.len {n w : Nat} (W : Wf S n w) (h : Grid K H a S) : ∃ xs, SqT K H a xs ∧ xs.length = n := by
  obtain ⟨rs, h1, h2, _⟩ := h.ex
  exact ⟨_, h1, by rw [List.length_map, h2, W.len]⟩
theorem Grid.row {n w : Nat} (W : Wf S n w) (h : Grid K H a S) {s : Nat} (hs : s < n) : ∃ (xs : List V) (r : Addr), SqT K H a xs ∧ atI xs (s : Int) = some (.ref r) ∧ SqT K H r ((MA.row S s).map vI) := by
  obtain ⟨rs, h1, h2, h3⟩ := h.ex
  have l : s < rs.length := by rw [h2, W.len]; exact hs
  refine ⟨_, rs[s], h1, atI_nat (by rw [List.getElem?_map, List.getElem?_eq_getElem l]; rfl), h3 s _ _ (List.getElem?_eq_getElem l) (row_at (by rw [W.len]; exact hs))⟩
theorem at_vI {L : List Nat} {i x : Nat} (h : L[i]? = some x) : atI (L.map vI) (i : Int) = some (vI x) := atI_nat (by rw [List.getElem?_map, h]; rfl)
end
/-! ### what is reached -/
def kvT (L : List Nat) : List (Key × V) := L.map fun (x : Nat) => ((Sum.inl (x : Int) : Key), V.bl true)
theorem kvT_has (L : List Nat) (x : Nat) : (valV (kvT L) (Sum.inl (x : Int) : Key)).isSome = decide (x ∈ L) := by
  induction L with
  | nil => simp [kvT, valV]
  | cons y r ih =>
    by_cases e : y = x
    · subst e
      rw [show valV (kvT (y :: r)) (Sum.inl (y : Int) : Key) = some (.bl true) from valV_pos rfl, decide_eq_true (List.mem_cons_self)]; rfl
    · have ne : ¬ ((Sum.inl (y : Int) : Key) = Sum.inl (x : Int)) := fun z => e (by injection z with z; omega)
      rw [show valV (kvT (y :: r)) (Sum.inl (x : Int) : Key) = valV (kvT r) (Sum.inl (x : Int) : Key) from valV_neg ne, ih]
      refine decide_eq_decide.mpr ?_
      rw [List.mem_cons]
      exact ⟨fun h => .inr h, fun h => h.resolve_left fun z => e z.symm⟩
theorem kvT_put {L : List Nat} {x : Nat} (h : x ∉ L) : putK (kvT L) (Sum.inl (x : Int) : Key) (.bl true) = kvT (L ++ [x]) := by
  unfold putK
  have : ((kvT L).any fun kv => decide (kv.1 = (Sum.inl (x : Int) : Key))) = false := by
    rw [List.any_eq_false]
    intro p hp
    obtain ⟨y, hy, rfl⟩ := List.mem_map.mp hp
    refine fun z => h ?_
    have z' := of_decide_eq_true z
    injection z' with z'
    rw [show x = y by omega]; exact hy
  rw [this, if_neg (by decide)]
  unfold kvT
  rw [List.map_append]; rfl
theorem nodup_len : ∀ (n : Nat) (L : List Nat), L.Nodup → (∀ x ∈ L, x < n) → L.length ≤ n
  | 0, [], _, _ => Nat.le_refl _
  | 0, x :: r, _, h => absurd (h x List.mem_cons_self) (Nat.not_lt_zero _)
  | n + 1, L, hn, h => by
    have h1 : (L.filter fun x => x != n).length ≤ n := nodup_len n _ (hn.filter _) fun x hx => by
      obtain ⟨a, b⟩ := List.mem_filter.mp hx
      have := h x a
      have : x ≠ n := by simpa using b
      omega
    have h2 : L.length ≤ (L.filter fun x => x != n).length + 1 := by
      clear h1 h
      induction L with
      | nil => exact Nat.zero_le _
      | cons y r ih =>
        obtain ⟨n1, n2⟩ := List.nodup_cons.mp hn
        by_cases e : y = n
        · subst e
          rw [List.filter_cons_of_neg (by simp)]
          have : r.filter (fun x => x != y) = r := List.filter_eq_self.mpr fun x hx => by
            have : x ≠ y := fun z => n1 (z ▸ hx)
            simpa using this
          rw [this]; exact Nat.le_refl _
        · rw [List.filter_cons_of_pos (by simpa using e)]
          have := ih n2
          rw [List.length_cons, List.length_cons]; omega
    omega
/-- states found so far, each of them reached -/
structure Fnd (S : Tab) (L : List Nat) : Prop where
  nd : L.Nodup
  zr : 0 ∈ L
  rc : ∀ x ∈ L, Rch S x
theorem Fnd.add {S : Tab} {L : List Nat} {s x : Nat} (f : Fnd S L) (hs : s ∈ L) (hx : x ∈ row S s) (h : x ∉ L) : Fnd S (L ++ [x]) where
  nd := List.nodup_append.mpr ⟨f.nd, List.pairwise_singleton _ _, fun a ha b hb z => by
    rw [List.mem_singleton.mp hb] at z
    exact h (z ▸ ha)⟩
  zr := List.mem_append_left _ f.zr
  rc := fun y hy => by
    rcases List.mem_append.mp hy with hy | hy
    · exact f.rc y hy
    · rw [List.mem_singleton.mp hy]; exact .step (f.rc s hs) hx
theorem Fnd.all {S : Tab} {L : List Nat} (f : Fnd S L) (h : ∀ s ∈ L, ∀ x ∈ row S s, x ∈ L) (s : Nat) : s ∈ L ↔ Rch S s := by
  refine ⟨f.rc s, fun r => ?_⟩
  induction r with
  | zero => exact f.zr
  | step _ hx ih => exact h _ ih _ hx
theorem Fnd.len {S : Tab} {L : List Nat} {n b : Nat} (f : Fnd S L) (W : Wf S n b) (h0 : 0 < n) : L.length ≤ n := nodup_len n L f.nd fun x hx => (f.rc x hx).lt W h0
theorem perm_nat {ms : List Int} {L : List Nat} (h : ms.Perm (L.map fun x : Nat => (x : Int))) : ∃ M : List Nat, ms = M.map (fun x : Nat => (x : Int)) ∧ M.Perm L := by
  refine ⟨ms.map Int.toNat, ?_, ?_⟩
  · rw [List.map_map]
    have : ∀ x ∈ ms, ((fun x : Nat => (x : Int)) ∘ Int.toNat) x = x := fun x hx => by
      obtain ⟨y, _, rfl⟩ := List.mem_map.mp (h.mem_iff.mp hx)
      rfl
    rw [List.map_congr_left this, List.map_id']
  · have := h.map Int.toNat
    rw [List.map_map] at this
    have e : L.map (Int.toNat ∘ fun x : Nat => (x : Int)) = L := by
      have : ∀ x ∈ L, (Int.toNat ∘ fun x : Nat => (x : Int)) x = x := fun x _ => rfl
      rw [List.map_congr_left this, List.map_id']
    rw [e] at this
    exact this
theorem map_vI (L : List Nat) : (L.map fun x : Nat => (x : Int)).map V.int = L.map vI := by rw [List.map_map]; rfl
theorem dpa_nats {K : PySem.W.Frag} {H : Hp} : ∀ L : List Nat, DpAll K H (L.map vI) (L.map fun x : Nat => PyData.int (x : Int))
  | [] => .nil
  | x :: r => .cons (.int _) (dpa_nats r)
theorem map_dI (L : List Nat) : (L.map fun x : Nat => PyData.int (x : Int)) = (L.map fun x : Nat => (x : Int)).map PyData.int := by rw [List.map_map]; rfl
theorem shaped_nats (L : List Nat) : SeqAt.shaped (.list (L.map fun x : Nat => PyData.int (x : Int))) = true := by rw [map_dI]; exact shaped_ints _
theorem eqv_nats_nil (L : List Nat) : PyData.eqv (.list (L.map fun x : Nat => PyData.int (x : Int))) (.list []) = decide (L = []) := by
  rw [map_dI, eqv_ints_nil]
  exact decide_eq_decide.mpr List.map_eq_nil_iff
theorem pop_nat (L : List Nat) (c : Nat) : ((L ++ [c]).map vI)[((L ++ [c]).map vI).length - 1]? = some (vI c) := by
  rw [List.map_append, List.map_singleton, List.length_append, List.length_singleton, Nat.add_sub_cancel, List.getElem?_append_right (Nat.le_refl _), Nat.sub_self]
  rfl
theorem pop_natL (L : List Nat) (c : Nat) : ((L ++ [c]).map vI).dropLast = L.map vI := by
  rw [List.map_append, List.map_singleton, List.dropLast_concat]
theorem snoc_at {α : Type} {xs : List α} {x y : α} {i : Nat} (h : (xs ++ [x])[i]? = some y) : (i < xs.length ∧ xs[i]? = some y) ∨ (i = xs.length ∧ y = x) := by
  rcases Nat.lt_or_ge i xs.length with l | l
  · rw [List.getElem?_append_left l] at h
    exact .inl ⟨l, h⟩
  · rw [List.getElem?_append_right l] at h
    rcases Nat.eq_zero_or_pos (i - xs.length) with z | z
    · rw [z] at h
      exact .inr ⟨by omega, (Option.some.inj h).symm⟩
    · rw [List.getElem?_eq_none (by show 1 ≤ _; omega)] at h
      cases h
def rowD (r : List Nat) : PyData := .tuple (r.map fun x : Nat => PyData.int (x : Int))
theorem dpa_grid {K : PySem.W.Frag} {H : Hp} : ∀ (rs : List Addr) (S : Tab), rs.length = S.length → (∀ (i : Nat) (r : Addr) (w : List Nat), rs[i]? = some r → S[i]? = some w → SqT K H r (w.map vI)) → DpAll K H (rs.map V.ref) (S.map rowD)
  | [], [], _, _ => .nil
  | r :: rs, w :: S, l, h => .cons (.tup (h 0 r w rfl rfl) (dpa_nats w)) (dpa_grid rs S (by simpa using l) fun i r w e1 e2 => h (i + 1) r w e1 e2)
theorem Grid.dp {K : PySem.W.Frag} {H : Hp} {a : Addr} {S : Tab} (h : Grid K H a S) : Dp K H (.ref a) (.tuple (S.map rowD)) := by
  obtain ⟨rs, h1, h2, h3⟩ := h.ex
  exact .tup h1 (dpa_grid rs S h2 h3)
theorem nice_row {r : List Nat} {n w : Nat} (hl : r.length = w) (hw : w ≤ 10) (h : ∀ x ∈ r, x < n) (hn : n ≤ 200) : Nice 73 1 (rowD r) := by
  have h1 : ∀ d ∈ r.map (fun x : Nat => PyData.int (x : Int)), Nice 5 0 d := fun d hd => by
    obtain ⟨x, hx, rfl⟩ := List.mem_map.mp hd
    have := h x hx
    exact Nice.int (by omega) (by omega)
  exact (Nice.tup (n := 10) h1 (by rw [List.length_map]; omega)).mono (by decide) (by decide)
theorem nice_grid {S : Tab} {n w : Nat} (W : Wf S n w) (hw : w ≤ 10) (hn : n ≤ 100) : Nice 8000 2 (.tuple (S.map rowD)) := by
  have h1 : ∀ d ∈ S.map rowD, Nice 73 1 d := fun d hd => by
    obtain ⟨r, hr, rfl⟩ := List.mem_map.mp hd
    exact nice_row (W.wid r hr) hw (W.ent r hr) (by omega)
  exact (Nice.tup (n := 100) h1 (by rw [List.length_map, W.len]; exact hn)).mono (by decide) (by decide)
theorem nice_nats {B : List Nat} {n : Nat} (hl : B.length = n) (hn : n ≤ 100) (h : ∀ x ∈ B, x ≤ 200) : Nice 800 1 (.tuple (B.map fun x : Nat => PyData.int (x : Int))) := by
  have h1 : ∀ d ∈ B.map (fun x : Nat => PyData.int (x : Int)), Nice 5 0 d := fun d hd => by
    obtain ⟨x, hx, rfl⟩ := List.mem_map.mp hd
    have := h x hx
    exact Nice.int (by omega) (by omega)
  exact (Nice.tup (n := 100) h1 (by rw [List.length_map]; omega)).mono (by decide) (by decide)
end MA
/-! digits of a number, the units first; its last digit -/
namespace DG
/-! ### last digits -/
def lastN (b n : Nat) : Nat := if h : 2 ≤ b ∧ 0 < n ∧ n % b = 0 then lastN b (n / b) else n % b
termination_by n
decreasing_by exact Nat.div_lt_self h.2.1 h.1
theorem lastN_go {b n : Nat} (hb : 2 ≤ b) (hn : 0 < n) (h : n % b = 0) : lastN b n = lastN b (n / b) := by rw [lastN, dif_pos ⟨hb, hn, h⟩]
theorem lastN_end {b n : Nat} (h : n % b ≠ 0) : lastN b n = n % b := by rw [lastN, dif_neg (fun z => h z.2.2)]
theorem div_pos_of {b n : Nat} (hb : 2 ≤ b) (hn : 0 < n) (h : n % b = 0) : 0 < n / b := by
  refine Nat.div_pos ?_ (by omega)
  refine Nat.le_of_not_lt fun l => ?_
  rw [Nat.mod_eq_of_lt l] at h
  omega
theorem lastN_mul {b n : Nat} (hb : 2 ≤ b) (hn : 0 < n) : lastN b (n * b) = lastN b n := by
  rw [lastN_go hb (Nat.mul_pos hn (by omega)) (Nat.mul_mod_left _ _), Nat.mul_div_cancel _ (by omega)]
theorem lastN_lt {b : Nat} (hb : 2 ≤ b) (n : Nat) : lastN b n < b := by
  induction n using Nat.strongRecOn with
  | ind n ih =>
    rw [lastN]
    split
    · rename_i h
      exact ih _ (Nat.div_lt_self h.2.1 h.1)
    · exact Nat.mod_lt _ (by omega)
/-- the digits, the units first -/
def digsN (b n : Nat) : List Nat := if h : 2 ≤ b ∧ 0 < n then n % b :: digsN b (n / b) else []
termination_by n
decreasing_by exact Nat.div_lt_self h.2 h.1
theorem digs_go {b n : Nat} (hb : 2 ≤ b) (hn : 0 < n) : digsN b n = n % b :: digsN b (n / b) := by rw [digsN, dif_pos ⟨hb, hn⟩]
theorem digs_end {b : Nat} : digsN b 0 = [] := by rw [digsN, dif_neg (fun z => absurd z.2 (by decide))]
theorem digs_first {b : Nat} (hb : 2 ≤ b) (n : Nat) (hn : 0 < n) : ∃ r, (digsN b n).filter (fun x => x != 0) = lastN b n :: r := by
  induction n using Nat.strongRecOn with
  | ind n ih =>
    rw [digs_go hb hn]
    by_cases h : n % b = 0
    · rw [List.filter_cons_of_neg (by rw [h]; decide), lastN_go hb hn h]
      exact ih _ (Nat.div_lt_self hn hb) (div_pos_of hb hn h)
    · rw [List.filter_cons_of_pos (by simpa using h), lastN_end h]
      exact ⟨_, rfl⟩
theorem digs_len {b : Nat} (hb : 2 ≤ b) : ∀ (k n : Nat), n < 2 ^ k → (digsN b n).length ≤ k
  | 0, n, h => by
    rw [show n = 0 by omega, digs_end]; exact Nat.le_refl _
  | k + 1, n, h => by
    rcases Nat.eq_zero_or_pos n with rfl | hn
    · rw [digs_end]; exact Nat.zero_le _
    · rw [digs_go hb hn, List.length_cons]
      refine Nat.succ_le_succ (digs_len hb k _ ?_)
      refine Nat.lt_of_le_of_lt (Nat.div_le_div_left hb (by decide)) ?_
      rw [Nat.pow_succ] at h
      omega
theorem digs_small {b : Nat} (hb : 2 ≤ b) (n : Nat) : ∀ x ∈ digsN b n, x < b := by
  induction n using Nat.strongRecOn with
  | ind n ih =>
    intro x hx
    rcases Nat.eq_zero_or_pos n with rfl | hn
    · rw [digs_end] at hx; cases hx
    · rw [digs_go hb hn] at hx
      rcases List.mem_cons.mp hx with rfl | hx
      · exact Nat.mod_lt _ (by omega)
      · exact ih _ (Nat.div_lt_self hn hb) x hx
theorem digs_ne {b : Nat} (hb : 2 ≤ b) {n : Nat} (hn : 0 < n) : digsN b n ≠ [] := by rw [digs_go hb hn]; exact List.cons_ne_nil _ _
end DG
/-! boxes of states; the four kinds of machines, by their tables -/
namespace MA
open PySem PySem.Spec PyProof.Rows L2 GL G3 DG
def bx (B : List Nat) (s : Nat) : Nat := (B[s]?).getD 0
theorem bx_at {B : List Nat} {s : Nat} (h : s < B.length) : B[s]? = some (bx B s) := by
  unfold bx
  rw [List.getElem?_eq_getElem h]; rfl
theorem bx_of {B : List Nat} {s x : Nat} (h : B[s]? = some x) : bx B s = x := by unfold bx; rw [h]; rfl
structure Many (S : Tab) (B : List Nat) (m : Nat) : Prop where
  ex : ∃ s, Rch S s ∧ m = 1 + bx B s
  le : ∀ s, Rch S s → 1 + bx B s ≤ m
theorem Many.one {S : Tab} {B : List Nat} {m m' : Nat} (h : Many S B m) (h' : Many S B m') : m = m' := by
  obtain ⟨s, r, e⟩ := h.ex
  obtain ⟨s', r', e'⟩ := h'.ex
  have := h.le s' r'
  have := h'.le s r
  omega
theorem many_of {S : Tab} {B M : List Nat} {k : Int} (hM : ∀ s, s ∈ M ↔ Rch S s) (hk : k ∈ M.map fun s => ((bx B s : Nat) : Int)) (hl : ∀ y ∈ M.map fun s => ((bx B s : Nat) : Int), y ≤ k) : ∃ m : Nat, 1 + k = (m : Int) ∧ Many S B m := by
  obtain ⟨s, hs, rfl⟩ := List.mem_map.mp hk
  refine ⟨1 + bx B s, by omega, ⟨s, (hM s).mp hs, rfl⟩, fun t ht => ?_⟩
  have := hl _ (List.mem_map_of_mem (f := fun s => ((bx B s : Nat) : Int)) ((hM t).mpr ht))
  omega
/-- a machine whose box of k is f k -/
structure Kind (S : Tab) (B : List Nat) (b n m : Nat) (f : Nat → Nat) : Prop where
  wf : Wf S n b
  n0 : 0 < n
  nB : n ≤ 1000
  bl : B.length = n
  sm : ∀ x ∈ B, x < 12
  stay : ∀ s, s < n → bx B s = bx B (stp S s 0)
  val : ∀ k, 0 < k → bx B (runs S b 0 k) = f k
  many : Many S B m
theorem rch_runs {S : Tab} {n b : Nat} (W : Wf S n b) (hb : 2 ≤ b) : ∀ (k s : Nat), s < n → Rch S s → Rch S (runs S b s k) := by
  intro k
  induction k using Nat.strongRecOn with
  | ind k ih =>
    intro s hs hr
    rcases Nat.eq_zero_or_pos k with rfl | hk
    · rw [runs_end]; exact hr
    · rw [runs_go hb hk]
      have hd := Nat.mod_lt k (show 0 < b by omega)
      exact ih _ (Nat.div_lt_self hk hb) _ (stp_lt W hs hd) (.step hr (stp_mem W hs hd))
theorem stp_of {S : Tab} {s d x : Nat} {r : List Nat} (h : S[s]? = some r) (h2 : r[d]? = some x) : stp S s d = x := by
  unfold stp row
  rw [h]
  show (r[d]?).getD 0 = x
  rw [h2]; rfl
/-! ### last digits -/
def lastS (b : Nat) : Tab := List.range b :: (List.range (b - 1)).map fun i => List.replicate b (i + 1)
def digB (b : Nat) : List Nat := 0 :: List.range (b - 1)
theorem lastS_len {b : Nat} (hb : 2 ≤ b) : (lastS b).length = b := by unfold lastS; rw [List.length_cons, List.length_map, List.length_range]; omega
theorem digB_len {b : Nat} (hb : 2 ≤ b) : (digB b).length = b := by unfold digB; rw [List.length_cons, List.length_range]; omega
theorem digB_bx {b s : Nat} (h : s < b) : bx (digB b) s = s - 1 := by
  cases s with
  | zero => rfl
  | succ s =>
    refine bx_of ?_
    show (List.range (b - 1))[s]? = _
    rw [List.getElem?_range (by omega)]; rfl
theorem lastS_stp {b s d : Nat} (hs : s < b) (hd : d < b) : stp (lastS b) s d = if s = 0 then d else s := by
  cases s with
  | zero => exact stp_of (r := List.range b) rfl (by rw [List.getElem?_range hd]; rfl)
  | succ s =>
    refine stp_of (r := List.replicate b (s + 1)) ?_ (by rw [List.getElem?_replicate, if_pos hd]; rfl)
    show ((List.range (b - 1)).map _)[s]? = _
    rw [List.getElem?_map, List.getElem?_range (by omega)]; rfl
theorem lastS_wf {b : Nat} (hb : 2 ≤ b) : Wf (lastS b) b b where
  len := lastS_len hb
  wid := fun r hr => by
    rcases List.mem_cons.mp hr with rfl | hr
    · exact List.length_range
    · obtain ⟨i, _, rfl⟩ := List.mem_map.mp hr
      exact List.length_replicate
  ent := fun r hr x hx => by
    rcases List.mem_cons.mp hr with rfl | hr
    · exact List.mem_range.mp hx
    · obtain ⟨i, hi, rfl⟩ := List.mem_map.mp hr
      have := List.mem_range.mp hi
      rw [(List.mem_replicate.mp hx).2]; omega
theorem digB_lt {b : Nat} (hB : b ≤ 10) : ∀ x ∈ digB b, x < 12 := fun x hx => by
  rcases List.mem_cons.mp hx with rfl | hx
  · decide
  · have := List.mem_range.mp hx; omega
theorem many_dig {S : Tab} {b : Nat} (hb : 2 ≤ b) (W : Wf S b b) (h : Rch S (b - 1)) : Many S (digB b) (b - 1) where
  ex := ⟨b - 1, h, by rw [digB_bx (by omega)]; omega⟩
  le := fun s hs => by
    have := hs.lt W (by omega)
    rw [digB_bx this]; omega
theorem last_runs {b : Nat} (hb : 2 ≤ b) : ∀ (k : Nat), 0 < k → runs (lastS b) b 0 k = lastN b k := by
  have stays : ∀ (k s : Nat), s < b → 0 < s → runs (lastS b) b s k = s := by
    intro k
    induction k using Nat.strongRecOn with
    | ind k ih =>
      intro s hs s0
      rcases Nat.eq_zero_or_pos k with rfl | hk
      · rw [runs_end]
      · rw [runs_go hb hk, lastS_stp hs (Nat.mod_lt _ (by omega)), if_neg (by omega)]
        exact ih _ (Nat.div_lt_self hk hb) s hs s0
  intro k
  induction k using Nat.strongRecOn with
  | ind k ih =>
    intro hk
    have hd := Nat.mod_lt k (show 0 < b by omega)
    rw [runs_go hb hk, lastS_stp (by omega) hd, if_pos rfl]
    by_cases h : k % b = 0
    · rw [h, lastN_go hb hk h]
      exact ih _ (Nat.div_lt_self hk hb) (div_pos_of hb hk h)
    · rw [stays _ _ hd (by omega), lastN_end h]
theorem kind_last {b : Nat} (hb : 2 ≤ b) (hB : b ≤ 10) : Kind (lastS b) (digB b) b b (b - 1) fun k => lastN b k - 1 where
  wf := lastS_wf hb
  n0 := by omega
  nB := by omega
  bl := digB_len hb
  sm := digB_lt hB
  stay := fun s hs => by
    rw [lastS_stp hs (by omega)]
    split
    · rename_i h; rw [h]
    · rfl
  val := fun k hk => by rw [last_runs hb k hk, digB_bx (lastN_lt hb k)]
  many := many_dig hb (lastS_wf hb) (by
    have := stp_mem (lastS_wf hb) (s := 0) (d := b - 1) (by omega) (by omega)
    rw [lastS_stp (by omega) (by omega), if_pos rfl] at this
    exact .step .zero this)
/-! ### first digits -/
def firstS (b : Nat) : Tab := (List.range b).map fun s => s :: (List.range (b - 1)).map fun i => i + 1
theorem firstS_stp {b s d : Nat} (hs : s < b) (hd : d < b) : stp (firstS b) s d = if d = 0 then s else d := by
  refine stp_of (r := s :: (List.range (b - 1)).map fun i => i + 1) ?_ ?_
  · unfold firstS
    rw [List.getElem?_map, List.getElem?_range hs]; rfl
  · cases d with
    | zero => rfl
    | succ d =>
      show ((List.range (b - 1)).map _)[d]? = _
      rw [List.getElem?_map, List.getElem?_range (by omega)]; rfl
theorem firstS_wf {b : Nat} (hb : 2 ≤ b) : Wf (firstS b) b b where
  len := by unfold firstS; rw [List.length_map, List.length_range]
  wid := fun r hr => by
    obtain ⟨s, _, rfl⟩ := List.mem_map.mp hr
    rw [List.length_cons, List.length_map, List.length_range]; omega
  ent := fun r hr x hx => by
    obtain ⟨s, hs, rfl⟩ := List.mem_map.mp hr
    rcases List.mem_cons.mp hx with rfl | hx
    · exact List.mem_range.mp hs
    · obtain ⟨i, hi, rfl⟩ := List.mem_map.mp hx
      have := List.mem_range.mp hi
      omega
def topN (b k : Nat) : Nat := ((digsN b k).getLast?).getD 0
theorem top_go {b k : Nat} (hb : 2 ≤ b) (hk : 0 < k) : topN b k = if k / b = 0 then k % b else topN b (k / b) := by
  unfold topN
  rw [digs_go hb hk]
  by_cases h : k / b = 0
  · rw [if_pos h, h, digs_end]; rfl
  · rw [if_neg h, List.getLast?_cons]
    have := digs_ne hb (n := k / b) (Nat.pos_of_ne_zero h)
    rw [List.getLast?_eq_some_getLast this]; rfl
theorem first_runs {b : Nat} (hb : 2 ≤ b) : ∀ (k s : Nat), s < b → 0 < k → runs (firstS b) b s k = topN b k ∧ topN b k < b := by
  intro k
  induction k using Nat.strongRecOn with
  | ind k ih =>
    intro s hs hk
    have hd := Nat.mod_lt k (show 0 < b by omega)
    rw [runs_go hb hk, firstS_stp hs hd, top_go hb hk]
    by_cases h : k / b = 0
    · rw [if_pos h, h, runs_end]
      have : k % b ≠ 0 := by
        have := Nat.div_add_mod k b
        rw [h] at this
        omega
      rw [if_neg this]
      exact ⟨rfl, hd⟩
    · rw [if_neg h]
      refine ih _ (Nat.div_lt_self hk hb) _ ?_ (Nat.pos_of_ne_zero h)
      split <;> omega
theorem kind_first {b : Nat} (hb : 2 ≤ b) (hB : b ≤ 10) : Kind (firstS b) (digB b) b b (b - 1) fun k => topN b k - 1 where
  wf := firstS_wf hb
  n0 := by omega
  nB := by omega
  bl := digB_len hb
  sm := digB_lt hB
  stay := fun s hs => by rw [firstS_stp hs (by omega), if_pos rfl]
  val := fun k hk => by
    obtain ⟨e, l⟩ := first_runs hb k 0 (by omega) hk
    rw [e, digB_bx l]
  many := many_dig hb (firstS_wf hb) (by
    have := stp_mem (firstS_wf hb) (s := 0) (d := b - 1) (by omega) (by omega)
    rw [firstS_stp (by omega) (by omega), if_neg (by omega)] at this
    exact .step .zero this)
/-! ### sums of digits -/
def sumS (b M : Nat) : Tab := (List.range M).map fun s => (List.range b).map fun d => (s + d) % M
theorem sumS_stp {b M s d : Nat} (hs : s < M) (hd : d < b) : stp (sumS b M) s d = (s + d) % M := by
  refine stp_of (r := (List.range b).map fun d => (s + d) % M) ?_ ?_
  · unfold sumS
    rw [List.getElem?_map, List.getElem?_range hs]; rfl
  · rw [List.getElem?_map, List.getElem?_range hd]; rfl
theorem sumS_wf {b M : Nat} (hM : 0 < M) : Wf (sumS b M) M b where
  len := by unfold sumS; rw [List.length_map, List.length_range]
  wid := fun r hr => by
    obtain ⟨s, _, rfl⟩ := List.mem_map.mp hr
    rw [List.length_map, List.length_range]
  ent := fun r hr x hx => by
    obtain ⟨s, hs, rfl⟩ := List.mem_map.mp hr
    obtain ⟨d, _, rfl⟩ := List.mem_map.mp hx
    exact Nat.mod_lt _ hM
theorem range_bx {M s : Nat} (h : s < M) : bx (List.range M) s = s := bx_of (List.getElem?_range h)
theorem sum_runs {b M : Nat} (hb : 2 ≤ b) (hM : 0 < M) : ∀ (k s : Nat), s < M → runs (sumS b M) b s k = (s + (digsN b k).sum) % M := by
  intro k
  induction k using Nat.strongRecOn with
  | ind k ih =>
    intro s hs
    rcases Nat.eq_zero_or_pos k with rfl | hk
    · rw [runs_end, digs_end]
      exact (Nat.mod_eq_of_lt hs).symm
    · rw [runs_go hb hk, sumS_stp hs (Nat.mod_lt _ (by omega)), ih _ (Nat.div_lt_self hk hb) _ (Nat.mod_lt _ hM), digs_go hb hk, List.sum_cons, Nat.mod_add_mod, Nat.add_assoc]
theorem kind_sum {b M : Nat} (hb : 2 ≤ b) (hM : 0 < M) (hB : M ≤ 12) : Kind (sumS b M) (List.range M) b M M fun k => (digsN b k).sum % M where
  wf := sumS_wf hM
  n0 := hM
  nB := by omega
  bl := List.length_range
  sm := fun x hx => by have := List.mem_range.mp hx; omega
  stay := fun s hs => by rw [sumS_stp hs (by omega), Nat.add_zero, Nat.mod_eq_of_lt hs]
  val := fun k hk => by
    rw [sum_runs hb hM k 0 hM, Nat.zero_add, range_bx (Nat.mod_lt _ hM)]
  many := by
    have W : Wf (sumS b M) M b := sumS_wf hM
    have go : ∀ j, j < M → Rch (sumS b M) j := by
      intro j
      induction j with
      | zero => exact fun _ => .zero
      | succ j ih =>
        intro hj
        have := stp_mem W (s := j) (d := 1) (by omega) (by omega)
        rw [sumS_stp (by omega) (by omega), Nat.mod_eq_of_lt hj] at this
        exact .step (ih (by omega)) this
    exact ⟨⟨M - 1, go _ (by omega), by rw [range_bx (by omega)]; omega⟩, fun s hs => by
      have := hs.lt W hM
      rw [range_bx this]; omega⟩
/-! ### remainders -/
def pos : List Nat → Nat → Nat
  | [], _ => 0
  | y :: r, x => if y = x then 0 else pos r x + 1
theorem pos_at : ∀ {ws : List Nat} {x : Nat}, x ∈ ws → ws[pos ws x]? = some x
  | y :: r, x, h => by
    unfold pos
    by_cases e : y = x
    · rw [if_pos e, e]; rfl
    · rw [if_neg e]
      exact pos_at ((List.mem_cons.mp h).resolve_left fun z => e z.symm)
theorem pos_none : ∀ {ws : List Nat} {x m : Nat}, m < pos ws x → ws[m]? ≠ some x
  | [], x, m, h => absurd h (Nat.not_lt_zero _)
  | y :: r, x, m, h => by
    unfold pos at h
    by_cases e : y = x
    · rw [if_pos e] at h; exact absurd h (Nat.not_lt_zero _)
    · rw [if_neg e] at h
      cases m with
      | zero => exact fun z => e (Option.some.inj z)
      | succ m => exact pos_none (ws := r) (by omega)
theorem pos_lt {ws : List Nat} {x : Nat} (h : x ∈ ws) : pos ws x < ws.length := (List.getElem?_eq_some_iff.mp (pos_at h)).1
/-- rows in blocks of M -/
theorem block_at {α β : Type} (g : α → List β) (M : Nat) : ∀ (ws : List α) (j r : Nat), (∀ w ∈ ws, (g w).length = M) → r < M → (ws.flatMap g)[j * M + r]? = (ws[j]?).bind fun w => (g w)[r]?
  | [], j, r, _, _ => rfl
  | w :: ws, 0, r, h, hr => by
    rw [List.flatMap_cons, Nat.zero_mul, Nat.zero_add, List.getElem?_append_left (by rw [h w List.mem_cons_self]; exact hr)]; rfl
  | w :: ws, j + 1, r, h, hr => by
    have l := h w List.mem_cons_self
    have e : (j + 1) * M + r - M = j * M + r := by rw [Nat.succ_mul]; omega
    rw [List.flatMap_cons, List.getElem?_append_right (by rw [l, Nat.succ_mul]; omega), l, e, block_at g M ws j r (fun w hw => h w (List.mem_cons_of_mem _ hw)) hr]; rfl
theorem block_len {α β : Type} (g : α → List β) (M : Nat) : ∀ (ws : List α), (∀ w ∈ ws, (g w).length = M) → (ws.flatMap g).length = ws.length * M
  | [], _ => by rw [List.length_nil, Nat.zero_mul]; rfl
  | w :: ws, h => by rw [List.flatMap_cons, List.length_append, h w List.mem_cons_self, block_len g M ws fun w hw => h w (List.mem_cons_of_mem _ hw), List.length_cons, Nat.succ_mul, Nat.add_comm]
def modRow (ws : List Nat) (b M w r : Nat) : List Nat := (List.range b).map fun d => pos ws (w * b % M) * M + (r + d * w) % M
def modRows (ws : List Nat) (b M w : Nat) : Tab := (List.range M).map fun r => modRow ws b M w r
def modS (ws : List Nat) (b M : Nat) : Tab := ws.flatMap (modRows ws b M)
def modB (ws : List Nat) (M : Nat) : List Nat := ws.flatMap fun _ => List.range M
/-- the weights of the digits -/
structure Wts (ws : List Nat) (b M : Nat) : Prop where
  hd : ws[0]? = some (1 % M)
  cl : ∀ w ∈ ws, w * b % M ∈ ws
  lt : ∀ w ∈ ws, w < M
  nd : ws.Nodup
section
variable {ws : List Nat} {b M : Nat}
theorem modRows_len (w : Nat) : (modRows ws b M w).length = M := by unfold modRows; rw [List.length_map, List.length_range]
theorem mod_at {j r w : Nat} (hj : ws[j]? = some w) (hr : r < M) : (modS ws b M)[j * M + r]? = some (modRow ws b M w r) := by
  unfold modS
  rw [block_at _ M ws j r (fun w _ => modRows_len w) hr, hj]
  show (modRows ws b M w)[r]? = _
  unfold modRows
  rw [List.getElem?_map, List.getElem?_range hr]; rfl
theorem mod_stp {j r w d : Nat} (hj : ws[j]? = some w) (hr : r < M) (hd : d < b) : stp (modS ws b M) (j * M + r) d = pos ws (w * b % M) * M + (r + d * w) % M :=
  stp_of (mod_at hj hr) (by unfold modRow; rw [List.getElem?_map, List.getElem?_range hd]; rfl)
theorem mod_bx {j r : Nat} (hj : j < ws.length) (hr : r < M) : bx (modB ws M) (j * M + r) = r := by
  refine bx_of ?_
  unfold modB
  rw [block_at _ M ws j r (fun w _ => List.length_range) hr, List.getElem?_eq_getElem hj]
  exact List.getElem?_range hr
theorem mul_lt_of {j r n : Nat} (hj : j < n) (hr : r < M) : j * M + r < n * M := by
  have : (j + 1) * M ≤ n * M := Nat.mul_le_mul_right _ hj
  rw [Nat.succ_mul] at this
  omega
theorem mod_wf (W : Wts ws b M) (hM : 0 < M) : Wf (modS ws b M) (ws.length * M) b where
  len := block_len _ M ws fun w _ => modRows_len w
  wid := fun r hr => by
    obtain ⟨w, _, hr⟩ := List.mem_flatMap.mp hr
    obtain ⟨x, _, rfl⟩ := List.mem_map.mp hr
    unfold modRow
    rw [List.length_map, List.length_range]
  ent := fun r hr x hx => by
    obtain ⟨w, hw, hr⟩ := List.mem_flatMap.mp hr
    obtain ⟨y, _, rfl⟩ := List.mem_map.mp hr
    obtain ⟨d, _, rfl⟩ := List.mem_map.mp hx
    exact mul_lt_of (pos_lt (W.cl w hw)) (Nat.mod_lt _ hM)
theorem mod_runs (W : Wts ws b M) (hb : 2 ≤ b) (hM : 0 < M) : ∀ (k j r w : Nat), ws[j]? = some w → r < M → ∃ j', j' < ws.length ∧ runs (modS ws b M) b (j * M + r) k = j' * M + (r + w * k) % M := by
  intro k
  induction k using Nat.strongRecOn with
  | ind k ih =>
    intro j r w hj hr
    rcases Nat.eq_zero_or_pos k with rfl | hk
    · exact ⟨j, (List.getElem?_eq_some_iff.mp hj).1, by rw [runs_end, Nat.mul_zero, Nat.add_zero, Nat.mod_eq_of_lt hr]⟩
    · have hw := W.cl w (List.mem_of_getElem? hj)
      obtain ⟨j', hj', e⟩ := ih (k / b) (Nat.div_lt_self hk hb) (pos ws (w * b % M)) ((r + k % b * w) % M) (w * b % M) (pos_at hw) (Nat.mod_lt _ hM)
      refine ⟨j', hj', ?_⟩
      rw [runs_go hb hk, mod_stp hj hr (Nat.mod_lt _ (by omega)), e]
      congr 1
      have h1 : w * k = k % b * w + w * b * (k / b) := by
        have := Nat.div_add_mod k b
        calc w * k = w * (b * (k / b) + k % b) := by rw [this]
          _ = k % b * w + w * b * (k / b) := by rw [Nat.mul_add, Nat.mul_assoc, Nat.mul_comm w (k % b), Nat.add_comm]
      rw [h1, ← Nat.add_assoc, Nat.add_mod, Nat.mod_mod, Nat.mod_mul_mod, ← Nat.add_mod]
theorem kind_mod (W : Wts ws b M) (hb : 2 ≤ b) (hM : 0 < M) (hB : M ≤ 12) (hl : ws.length ≤ 12) : Kind (modS ws b M) (modB ws M) b (ws.length * M) M fun k => k % M := by
  have Wf' := mod_wf W hM
  have l0 : 0 < ws.length := (List.getElem?_eq_some_iff.mp W.hd).1
  have nn : ws.length * M ≤ 12 * 12 := Nat.mul_le_mul hl hB
  have n0 : 0 < ws.length * M := Nat.mul_pos l0 hM
  have val : ∀ k, bx (modB ws M) (runs (modS ws b M) b 0 k) = k % M := by
    intro k
    obtain ⟨j', hj', e⟩ := mod_runs W hb hM k 0 0 _ W.hd hM
    rw [Nat.zero_mul, Nat.zero_add, Nat.zero_add] at e
    rw [e, mod_bx hj' (Nat.mod_lt _ hM), Nat.mod_mul_mod, Nat.one_mul]
  have bl : (modB ws M).length = ws.length * M := block_len _ M ws fun w _ => List.length_range
  have lt : ∀ x ∈ modB ws M, x < M := fun x hx => by
    obtain ⟨w, _, hx⟩ := List.mem_flatMap.mp hx
    exact List.mem_range.mp hx
  refine ⟨Wf', n0, by omega, bl, fun x hx => by have := lt x hx; omega, fun s hs => ?_, fun k _ => val k, ⟨runs (modS ws b M) b 0 (M - 1), rch_runs Wf' hb _ _ n0 .zero, ?_⟩, fun s hs => ?_⟩
  · have hj : s / M < ws.length := Nat.div_lt_of_lt_mul (by rw [Nat.mul_comm]; exact hs)
    have hr := Nat.mod_lt s hM
    have es : s = s / M * M + s % M := by rw [Nat.mul_comm]; exact (Nat.div_add_mod s M).symm
    have hw := List.getElem?_eq_getElem hj
    have := W.cl _ (List.mem_of_getElem? hw)
    rw [es, mod_stp hw hr (by omega), mod_bx hj hr, mod_bx (pos_lt this) (Nat.mod_lt _ hM), Nat.zero_mul, Nat.add_zero, Nat.mod_mod]
  · rw [val, Nat.mod_eq_of_lt (by omega)]; omega
  · have := lt _ (List.mem_of_getElem? (bx_at (B := modB ws M) (by rw [bl]; exact hs.lt Wf' n0)))
    omega
end
end MA
/-! a list of rows that grows -/
namespace MA
open PySem PySem.Spec PyProof.Rows L2 GL G3
structure Lie (H : Hp) (l : Addr) (rs : List Addr) (S : Tab) : Prop where
  at_ : H l = some (.lst (rs.map V.ref))
  len : rs.length = S.length
  row : ∀ (i : Nat) (r : Addr) (w : List Nat), rs[i]? = some r → S[i]? = some w → H r = some (.tup (w.map vI))
theorem Lie.nil {H : Hp} {l : Addr} (h : H l = some (.lst [])) : Lie H l [] [] := ⟨h, rfl, fun i r w e => (by cases e)⟩
theorem Lie.same {H H' : Hp} {l : Addr} {rs : List Addr} {S : Tab} (h : Lie H l rs S) (s : Same H H') : Lie H' l rs S := ⟨s _ _ h.at_, h.len, fun i r w e1 e2 => s _ _ (h.row i r w e1 e2)⟩
theorem Lie.snoc {H : Hp} {l t : Addr} {rs : List Addr} {S : Tab} {w : List Nat} (h : Lie H l rs S) (ht : H t = some (.tup (w.map vI))) : Lie (upd H l (.lst (rs.map V.ref ++ [V.ref t]))) l (rs ++ [t]) (S ++ [w]) where
  at_ := by rw [upd_same, List.map_append]; rfl
  len := by rw [List.length_append, List.length_append, h.len]; rfl
  row := fun j r u e1 e2 => by
    have lt : ∀ {q : Addr} {xs : List V}, H q = some (.tup xs) → upd H l (.lst (rs.map V.ref ++ [V.ref t])) q = some (.tup xs) := fun hq => by
      rw [upd_ne (ne_of hq h.at_ (fun z => nomatch z))]; exact hq
    rcases snoc_at e1 with ⟨l1, e1⟩ | ⟨z1, rfl⟩
    · rcases snoc_at e2 with ⟨_, e2⟩ | ⟨z2, rfl⟩
      · exact lt (h.row j r u e1 e2)
      · have := h.len; omega
    · rcases snoc_at e2 with ⟨l2, e2⟩ | ⟨_, rfl⟩
      · have := h.len; omega
      · exact lt ht
theorem Lie.grid {K : PySem.W.Frag} {H : Hp} {l t : Addr} {rs : List Addr} {S : Tab} (h : Lie H l rs S) (nt : H t = none) : Grid K (upd H t (.tup (rs.map V.ref))) t S :=
  ⟨⟨rs, tofT upd_same, h.len, fun i r w e1 e2 => tofT (by
    have := h.row i r w e1 e2
    rw [upd_ne (ne_of_none this nt)]; exact this)⟩⟩
theorem Lie.cons {H : Hp} {l D t : Addr} {rs : List Addr} {S : Tab} {w : List Nat} (h : Lie H D rs S) (ht : H t = some (.tup (w.map vI))) (nl : H l = none) : Lie (upd H l (.lst ([V.ref t] ++ rs.map V.ref))) l (t :: rs) (w :: S) where
  at_ := upd_same
  len := by rw [List.length_cons, List.length_cons, h.len]
  row := fun j r u e1 e2 => by
    cases j with
    | zero =>
      cases e1
      cases e2
      rw [upd_ne (ne_of_none ht nl)]; exact ht
    | succ j =>
      have := h.row j r u e1 e2
      rw [upd_ne (ne_of_none this nl)]; exact this
theorem rep1 {α : Type} (v : α) : ∀ b : Nat, (List.replicate b [v]).flatten = List.replicate b v
  | 0 => rfl
  | b + 1 => by rw [List.replicate_succ, List.flatten_cons, rep1 v b, List.replicate_succ]; rfl
theorem inV_nats (L : List Nat) (x : Nat) : inV (.int (x : Int)) (L.map vI) = decide (x ∈ L) := by
  induction L with
  | nil => simp [inV]
  | cons y r ih =>
    show (eqV (vI y) (.int (x : Int)) || inV (.int (x : Int)) (r.map vI)) = _
    rw [ih]
    have : eqV (vI y) (.int (x : Int)) = decide (y = x) := by
      show ((y : Int) == (x : Int)) = _
      by_cases e : y = x
      · subst e; simp
      · rw [decide_eq_false e]
        exact beq_eq_false_iff_ne.mpr fun z => e (by omega)
    rw [this, ← Bool.decide_or]
    refine decide_eq_decide.mpr ?_
    rw [List.mem_cons]
    exact ⟨fun h => h.imp Eq.symm id, fun h => h.imp Eq.symm id⟩
theorem flat_nats (L : List Nat) : (L.map vI).all flatV = true := by
  rw [List.all_eq_true]
  intro v hv
  obtain ⟨x, _, rfl⟩ := List.mem_map.mp hv
  rfl
theorem rg0 (M : Nat) : rgV 0 (M : Int) = (List.range M).map vI := by
  unfold rgV
  rw [show ((M : Int) - 0).toNat = M by omega]
  refine List.map_congr_left fun i _ => ?_
  show V.int (0 + (i : Int)) = V.int (i : Int)
  rw [Int.zero_add]
theorem rg1 (b : Nat) : rgV 1 (b : Int) = ((List.range (b - 1)).map fun i => i + 1).map vI := by
  unfold rgV
  rw [show ((b : Int) - 1).toNat = b - 1 by omega, List.map_map]
  refine List.map_congr_left fun i _ => ?_
  show V.int (1 + (i : Int)) = V.int ((i + 1 : Nat) : Int)
  congr 1
  omega
theorem rep_flat {α β : Type} (ws : List α) (xs : List Nat) : (List.replicate ws.length (xs.map vI)).flatten = (ws.flatMap fun _ => xs).map vI := by
  induction ws with
  | nil => rfl
  | cons w ws ih => rw [List.length_cons, List.replicate_succ, List.flatten_cons, ih, List.flatMap_cons, List.map_append]
theorem last_vI (L : List Nat) (x : Nat) : atI ((L ++ [x]).map vI) (-1) = some (vI x) := by
  rw [List.map_append]
  exact atI_last _ _
end MA
namespace NK39
open PySem PySem.Spec PyProof.Rows L2 GL G3
def topS (i : Nat) : Stmt := PySem.Challenge.pw_whateverboxes_k39_four_kinds_of_machines.main.body.getD i (.Pass ⟨0, 0, 0, 0⟩)
def ks : Keys := ⟨"cells", "blend", "draws", by decide +kernel, by decide +kernel, by decide +kernel⟩
/-! the built-ins that the text uses are still the built-ins -/
structure Bl (mg : Str → Option Value) : Prop where
  int : mg "int" = none
  len : mg "len" = none
  range : mg "range" = none
  list : mg "list" = none
  repr : mg "repr" = none
  max : mg "max" = none
  sorted : mg "sorted" = none
  tuple : mg "tuple" = none
  divmod : mg "divmod" = none
  sum : mg "sum" = none
section
variable {P : Program} {w : World} {K : PySem.W.Frag} {mg : Str → Option Value} {base : Heap}
abbrev s_draw : Stmt := topS 11
theorem sc_draw : FnScope ["_law_deck_here", "_law_many", "_law_turn", "_law_cell", "_law_held"] ["_law_deck_here", "_law_many"] (defScope s_draw) := ⟨rfl, rfl, rfl, by decide +kernel, rfl, by decide +kernel, by decide +kernel⟩
theorem ok_draw {f : Addr} {fd : FuncData} (F : Fun K "_law_draw" "_law_draw" s_draw f fd) (gl : mg "_law_draw" = some (.ref f)) (T : Bl mg) : DefG P w K mg base 1 "_law_draw" ["_law_deck_here", "_law_many"] (spDrw ks) := by
  refine def_mk F gl (F.binds fun _ _ _ _ _ _ us hl => match us, hl with | [_, _], _ => rfl) (okG F sc_draw (fun vs H Q E h => ?_) fun cdv A outer s H vs Q E hr hc h => ?_)
  · obtain ⟨d, g, n, b, rfl, _⟩ := h
    rfl
  · obtain ⟨d, g, many, b, rfl, D, n0, nB, q⟩ := h
    have nd := sc_draw.nd
    have hu := hu_of hr
    have hu64 := hr.units
    obtain ⟨m, n, L, hd, hg, hL, m0, mB, tn0, tnB⟩ := id D.ex
    have dg := D.ne
    refine ⟨_, (pss_cons (ps_dput hu (pv 0) pe_str (pe_op op_add (pe_dget hu (pv 0) pe_str (fun _ _ => rfl)) pe_int) rfl)
      (pss_cons (ps_par (i := 2) (j := 3) rfl nd rfl rfl (by decide) rfl rfl (pa_cons (pe_dget hu (pv 0) pe_str (fun _ _ => rfl)) (pa_cons (pe_dget hu (pv 0) pe_str (fun _ _ => rfl)) pa_nil)) rfl)
      (C8.pss_cut (ps_if (pt_cmpR (op_neD hu64) (pe_dget hu (pv 0) pe_str (fun _ _ => rfl)) (pe_lst pa_nil) (nomark _))
        (pss_cons (ps_set (i := 3) nd rfl (by first | exact Or.inl rfl | exact Or.inr rfl) (pe_bm0 PySem.F.plainAttrs_list PySem.F.slot_list_pop PySem.F.type_list_pop mt_pop (pe_dget hu (pv 0) pe_str (fun _ _ => rfl))))
        (pss_cons (ps_if (pt_cmpR op_ge (pv 3) (pe_op op_pow pe_int pe_int) (nomark _))
          (pss_cons (ps_expr (pe_bm PySem.F.plainAttrs_list PySem.F.slot_list_append PySem.F.type_list_append mt_append (pe_dget hu (pv 0) pe_str (fun _ _ => rfl)) (pa_cons (pe_op op_fdivW (pv 3) (pv 1)) pa_nil)))
          (pss_one (ps_ret (pe_op op_mod (pe_callTy call_int1 rfl T.int boot_int (pa_cons (pv 3) pa_nil)) (pv 1)))))
          pss_nil)
        (pss_one (ps_set (i := 3) nd rfl (by first | exact Or.inl rfl | exact Or.inr rfl) (pe_op op_add (pv 3) (pe_dget hu (pv 0) pe_str (fun _ _ => rfl)))))))
        pss_nil)
      (pss_cons (ps_set (i := 4) nd rfl (by first | exact Or.inl rfl | exact Or.inr rfl) (pe_op op_mul (pe_callTy call_int1 rfl T.int boot_int (pa_cons (pe_op op_add (pe_op op_add (pe_op op_mod (pe_callTy call_int1 rfl T.int boot_int (pa_cons (pv 3) pa_nil)) pe_int) (pe_op op_mul (pe_op op_mul pe_int (pv 2)) (pv 2))) pe_int) pa_nil)) pe_int))
      (pss_cons (ps_set (i := 4) nd rfl (by first | exact Or.inl rfl | exact Or.inr rfl) (pe_op op_mod (pe_callTy call_int1 rfl T.int boot_int (pa_cons (pv 4) pa_nil)) pe_int))
      (pss_cons (ps_set (i := 4) nd rfl (by first | exact Or.inl rfl | exact Or.inr rfl) (pe_op op_mod (pe_callTy call_int1 rfl T.int boot_int (pa_cons (pe_op op_add (pe_op op_add (pe_op op_mul (pv 4) (pv 4)) (pe_op op_mul pe_int (pv 2))) pe_int) pa_nil)) pe_int))
      (pss_one (ps_ret (pe_op op_mod (pe_op op_fdivW (pe_op op_mod (pe_callTy call_int1 rfl T.int boot_int (pa_cons (pe_op op_mul (pv 4) pe_int) pa_nil)) pe_int) pe_int) (pv 1)))))))))), ?_⟩
    refine ⟨_, rfl, d, _, rfl, get_n hd, n, 1, rfl, rfl, _, rfl, d, _, rfl, put_n hd, ?_⟩
    have xd : upd H d (.dK (deckD ks g m (n + 1))) d = _ := upd_same
    have xg : upd H d (.dK (deckD ks g m (n + 1))) g = some (.lst (L.map V.int)) := by rw [upd_ne dg.symm]; exact hg
    have mv0 : Mv d g H (upd H d (.dK (deckD ks g m (n + 1)))) := ⟨fun p o hp n1 _ => by rw [upd_ne n1]; exact hp⟩
    generalize upd H d (.dK (deckD ks g m (n + 1))) = Hz at *
    refine ⟨_, rfl, d, _, rfl, get_n xd, _, rfl, d, _, rfl, get_b xd, _, _, rfl, ?_⟩
    refine ⟨fun σ Hx => ∃ (c t m' n' : Int) (L' : List Int), σ = [some (.ref d), some (.int many), some (.int t), some (.int c), none] ∧ 0 ≤ t ∧ t ≤ 1000000000001 ∧ Hx d = some (.dK (deckD ks g m' n')) ∧ Hx g = some (.lst (L'.map V.int)) ∧ L'.length ≤ 63 ∧ 0 ≤ m' ∧ m' < 2147483587 ∧ 0 ≤ n' ∧ n' + b ≤ 1000000000000 ∧ Mv d g H Hx, ?_, ?_⟩
    · refine ⟨_, rfl, d, _, rfl, get_c xd, Nat.zero_le _, fun o no => ?_⟩
      have sm : Same Hz (upd Hz o (.lst [])) := Same.new no
      have mv1 : Mv d g H (upd Hz o (.lst [])) := mv0.trans (Mv.of sm)
      refine ⟨_, _, .lst (tofL (sm _ _ xg)) (dpa_ints L), .lst (tofL upd_same) .nil, shaped_ints L, shaped_ints [], _, rfl, ?_⟩
      rw [eqv_ints_nil]
      have yd := sm _ _ xd
      have yg := sm _ _ xg
      generalize upd Hz o (.lst []) = Hy at *
      refine ite2 (fun e => ?_) (fun e => ?_)
      · have hne : L ≠ [] := fun z => by rw [z] at e; exact absurd e (by decide)
        obtain ⟨L0, c, rfl⟩ := snoc_of hne
        rw [List.length_append, List.length_singleton] at hL
        refine ⟨_, rfl, d, _, rfl, get_c yd, ty_l (tofL yg), g, _, _, rfl, rfl, yg, pop_at L0 c, ?_⟩
        rw [pop_left]
        have zd : upd Hy g (.lst (L0.map V.int)) d = some (.dK (deckD ks g m (n + 1))) := by rw [upd_ne dg]; exact yd
        have mv2 : ∀ u : HO, Mv d g H (upd Hy g u) := fun u => ⟨fun p o hp n1 n2 => by rw [upd_ne n2]; exact mv1.keep p o hp n1 n2⟩
        refine ⟨_, rfl, 10, 18, rfl, rfl, ⟨by decide, by decide, by decide⟩, _, _, rfl, rfl, _, rfl, ?_⟩
        refine ite2 (fun _ => ?_) (fun _ => ?_)
        · refine ⟨_, rfl, d, _, rfl, get_c zd, ty_l (tofL upd_same), _, rfl, _, rfl, c, many, rfl, rfl, wide_div (b := 8000) n0 nB (by decide) (by decide), g, _, _, rfl, rfl, upd_same, ?_, ?_⟩
          · rw [List.length_map]; exact smallt (by omega)
          · rw [upd_upd]
            refine ⟨_, rfl, .inl ⟨c, rfl, _, rfl, c, many, rfl, rfl, n0, ?_⟩⟩
            refine q _ _ (Int.emod_nonneg _ (by omega)) (Int.emod_lt_of_pos _ n0) ⟨m, n + 1, L0 ++ [c / many], by rw [upd_ne dg]; exact yd, ?_, ?_, m0, mB, by omega, by omega⟩ (mv2 _)
            · rw [upd_same, List.map_append, List.map_singleton]
            · rw [List.length_append, List.length_singleton]; exact hL
        · exact ⟨_, rfl, _, rfl, d, _, rfl, get_b zd, c, m, rfl, rfl, _, _, _, _, _, rfl, by omega, by omega, zd, upd_same, by omega, m0, mB, by omega, by omega, mv2 _⟩
      · exact ⟨_, _, _, _, _, rfl, by omega, by omega, yd, yg, hL, m0, mB, by omega, by omega, mv1⟩
    · rintro σ Hx ⟨c, t, m', n', L', rfl, t0, tB, xd, xg, xL, xm0, xmB, xn0, xnB, mv⟩
      have a0 := Int.emod_nonneg c (show ((2147483629 : Int)) ≠ 0 by decide)
      have a1 := Int.emod_lt_of_pos c (show (0 : Int) < 2147483629 by decide)
      have p1 : CMul (60161 : Int) t := mul_small (by decide) (by decide)
      have p2 : CMul (60161 * t) t := mul_smallR t0 (by omega)
      have p3 : CMul (c % 2147483629 + 60161 * t * t + 37) 40692 := mul_smallR (by decide) (by decide)
      refine ⟨_, rfl, .inl ⟨c, rfl, c, 2147483629, rfl, rfl, (show (0 : Int) < 2147483629 by decide), _, rfl, 60161, t, rfl, rfl, p1, _, rfl, _, t, rfl, rfl, p2, _, _, rfl, rfl, _, 37, rfl, rfl, .inl ⟨_, rfl, _, 40692, rfl, rfl, p3, ?_⟩⟩⟩
      refine ⟨_, rfl, .inl ⟨_, rfl, _, 2147483647, rfl, rfl, (show (0 : Int) < 2147483647 by decide), ?_⟩⟩
      have h0 := Int.emod_nonneg ((c % 2147483629 + 60161 * t * t + 37) * 40692) (show ((2147483647 : Int)) ≠ 0 by decide)
      have h1 := Int.emod_lt_of_pos ((c % 2147483629 + 60161 * t * t + 37) * 40692) (show (0 : Int) < 2147483647 by decide)
      have i0 := fun h : Int => Int.emod_nonneg (h * h + 69621 * t + 227) (show ((2147483587 : Int)) ≠ 0 by decide)
      have i1 := fun h : Int => Int.emod_lt_of_pos (h * h + 69621 * t + 227) (show (0 : Int) < 2147483587 by decide)
      refine ⟨_, rfl, _, rfl, _, _, rfl, rfl, mul_small h0 (Int.lt_trans h1 (by decide)), _, rfl, 69621, t, rfl, rfl, mul_small (by decide) (by decide), _, _, rfl, rfl, _, 227, rfl, rfl, .inl ⟨_, rfl, _, 2147483587, rfl, rfl, (show (0 : Int) < 2147483587 by decide), ?_⟩⟩
      refine ⟨_, rfl, _, 39373, rfl, rfl, mul_small (i0 _) (Int.lt_trans (i1 _) (by decide)), .inl ⟨_, rfl, _, 2147483563, rfl, rfl, (show (0 : Int) < 2147483563 by decide), _, 64, rfl, rfl, wide_div (b := 8) (by decide) (by decide) (by decide) (by decide), _, rfl, _, many, rfl, rfl, n0, ?_⟩⟩
      exact q _ _ (Int.emod_nonneg _ (by omega)) (Int.emod_lt_of_pos _ n0) ⟨m', n', L', xd, xg, xL, xm0, xmB, xn0, by omega⟩ mv

abbrev s_deck : Stmt := topS 10
theorem sc_deck : FnScope ["_law_script", "_law_cells", "_law_blend", "_law_cell"] ["_law_script"] (defScope s_deck) := ⟨rfl, rfl, rfl, by decide +kernel, rfl, by decide +kernel, by decide +kernel⟩
theorem ok_deck {f : Addr} {fd : FuncData} (F : Fun K "_law_deck" "_law_deck" s_deck f fd) (gl : mg "_law_deck" = some (.ref f)) (T : Bl mg) : DefG P w K mg base 1 "_law_deck" ["_law_script"] (spDck K ks) := by
  refine def_mk F gl (F.binds fun _ _ _ _ _ _ us hl => match us, hl with | [_], _ => rfl) (okG F sc_deck (fun vs H Q E h => ?_) fun cdv A outer s H vs Q E hr hc h => ?_)
  · obtain ⟨a, ns, rfl, _⟩ := h
    rfl
  · obtain ⟨a, ns, rfl, hS, hl, q⟩ := h
    have nd := sc_deck.nd
    refine ⟨_, (pss_cons (ps_par (i := 1) (j := 2) rfl nd rfl rfl (by decide) rfl rfl (pa_cons (pe_callTy call_list_of (by rfl) T.list boot_list (pa_cons (pe_slice sl_list (pv 0) po_none (po_some pe_int)) pa_nil)) (pa_cons pe_int pa_nil)) rfl)
      (pss_cons (ps_for PassesOwn.never rfl (pi_list (pv 1)) (pg_name (i := 3) nd rfl (by first | exact Or.inl rfl | exact Or.inr rfl))
        (pss_one (ps_set (i := 2) nd rfl (by first | exact Or.inl rfl | exact Or.inr rfl) (pe_op op_mod (pe_callTy call_int1 (by rfl) T.int boot_int (pa_cons (pe_op op_add (pe_op op_add (pe_op op_mul (pv 2) pe_int) (pe_op op_mod (pe_callTy call_int1 (by rfl) T.int boot_int (pa_cons (pv 3) pa_nil)) pe_int)) pe_int) pa_nil)) pe_int))))
      (pss_one (ps_ret (pe_disp (pps_cons pe_str (pe_revL (pv 1)) (pps_cons pe_str (pv 2) (pps_cons pe_str pe_int pps_nil))) rfl rfl (by decide) (by decide)))))), ?_⟩
    refine ⟨_, rfl, 63, rfl, a, _, rfl, hS, fun c nc => ?_⟩
    obtain ⟨ms, em, lm⟩ := cut_ints ns none (some 63)
    rw [em]
    have s1 : Same H (upd H c (.lst (ms.map V.int))) := Same.new nc
    refine ⟨c, _, rfl, .inl (tofL upd_same), fun l nl => ?_⟩
    have s2 : Same H (upd (upd H c (.lst (ms.map V.int))) l (.lst (ms.map V.int))) := s1.trans (Same.new nl)
    have xl : upd (upd H c (.lst (ms.map V.int))) l (.lst (ms.map V.int)) l = _ := upd_same
    have fl : H l = none := s1.free nl
    revert s2 xl
    generalize upd (upd H c (.lst (ms.map V.int))) l (.lst (ms.map V.int)) = Hy
    intro s2 xl
    refine ⟨_, _, rfl, _, rfl, l, rfl, ⟨_, tofL xl⟩, for_list (K := K) (a := l) (xs := ms.map V.int) (fun i σ H2 => ∃ (m : Int) (v : Option V), σ = [some (.ref a), some (.ref l), some (.int m), v] ∧ H2 = Hy ∧ 0 ≤ m ∧ m < 2147483587)
      ⟨_, none, rfl, rfl, by decide, by decide⟩ (fun i σ H2 _ ⟨_, _, _, e, _⟩ => by rw [e]; exact tofL xl) ?_ ?_⟩
    · rintro i y σ H2 hi ⟨m, v, rfl, rfl, m0, m1⟩
      obtain ⟨x, rfl, _⟩ := ints_at hi
      refine ⟨_, rfl, m, 48271, rfl, rfl, mul_small m0 (by omega), _, rfl, .inl ⟨x, rfl, x, 2147483629, rfl, rfl, (show (0 : Int) < 2147483629 by decide), _, _, rfl, rfl, _, _, rfl, rfl, .inl ⟨_, rfl, _, 2147483587, rfl, rfl, (show (0 : Int) < 2147483587 by decide), _, _, rfl, rfl, Int.emod_nonneg _ (by decide), Int.emod_lt_of_pos _ (by decide)⟩⟩⟩
    · rintro σ H2 ⟨m, v, rfl, rfl, m0, m1⟩
      intro p np
      have s3 : Same H (upd H2 p (.dK [])) := s2.trans (Same.new np)
      have npl : l ≠ p := ne_of_none xl np
      refine ⟨_, rfl, l, _, rfl, tofL (by rw [upd_ne npl]; exact xl), fun g ng => ⟨_, rfl, ?_, deckD ks g m 0, rfl, (show 3 ≤ 15 by decide), ?_⟩⟩
      · rw [upd_ne (ne_of_none upd_same ng)]; exact upd_same
      · rw [deck_merge]
        have npg : p ≠ g := ne_of_none upd_same ng
        refine q p g _ (fun b u hb => ?_) (s2.free np) (s3.free ng) ⟨m, 0, ms.reverse, upd_same, ?_, ?_, m0, m1, by decide, by decide⟩
        · rw [upd_ne (ne_of_none hb (s2.free np)), upd_ne (ne_of_none hb (s3.free ng))]
          exact s3 _ _ hb
        · rw [upd_ne npg.symm, upd_same, List.map_reverse]
        · rw [List.length_reverse]
          omega

abbrev s_pick : Stmt := topS 12
theorem sc_pick : FnScope ["_law_deck_here", "_law_some"] ["_law_deck_here", "_law_some"] (defScope s_pick) := ⟨rfl, rfl, rfl, by decide +kernel, rfl, by decide +kernel, by decide +kernel⟩
theorem ok_pick {f : Addr} {fd : FuncData} (F : Fun K "_law_pick" "_law_pick" s_pick f fd) (gl : mg "_law_pick" = some (.ref f)) (T : Bl mg) (D_draw : DefG P w K mg base 1 "_law_draw" ["_law_deck_here", "_law_many"] (spDrw ks)) :
    DefG P w K mg base 2 "_law_pick" ["_law_deck_here", "_law_some"] (spPck ks) := by
  refine def_mk F gl (F.binds fun _ _ _ _ _ _ us hl => match us, hl with | [_, _], _ => rfl) (okG F sc_pick (fun vs H Q E h => ?_) fun cdv A outer s H vs Q E hr hc h => ?_)
  · obtain ⟨d, g, a, xs, b, rfl, _⟩ := h
    rfl
  · obtain ⟨d, g, a, xs, b, rfl, D, ha, nag, hne, hl, q⟩ := h
    have nd := sc_pick.nd
    refine ⟨_, (pss_one (ps_ret (pe_ix ix_list (pv 1) (pe_def D_draw (hr.mono (by decide)) hc (by rfl) (pa_cons (pv 0) (pa_cons (pe_callB call_len_seq (by rfl) T.len boot_len (pa_cons (pv 1) pa_nil)) pa_nil))) (fun _ _ => rfl)))), ?_⟩
    have nad : a ≠ d ∧ a ≠ g := ⟨by obtain ⟨m, n, L, h1, _⟩ := D.ex; exact (ne_of h1 ha (fun z => nomatch z)).symm, nag⟩
    have h0 : 0 < xs.length := List.length_pos_iff.mpr hne
    refine ⟨_, rfl, _, rfl, _, rfl, a, xs, rfl, .inl (tofL ha), d, g, _, b, rfl, D, by omega, by omega, fun r H' r0 r1 D' M => ?_⟩
    obtain ⟨x, hx, e⟩ := at_in (xs := xs) r0 r1
    exact ⟨a, xs, r, x, rfl, rfl, tofL (M.at ha nad), e, q x H' hx D' M⟩
end
end NK39
namespace NK39
open PySem PySem.Spec PyProof.Rows L2 GL G3 MA
def spReached (K : PySem.W.Frag) : Sp := fun vs H Q _ => ∃ (a : Addr) (S : Tab) (n b : Nat), vs = [.ref a] ∧ Grid K H a S ∧ Wf S n b ∧ 0 < n ∧ n ≤ 1000 ∧
  ∀ (p : Addr) (H' : Hp) (M : List Nat), Same H H' → H' p = some (.lst (M.map vI)) → H p = none → (∀ s, s ∈ M ↔ Rch S s) → M.Pairwise (· ≤ ·) → M.Nodup → Q (.ref p) H'
/-- between two turns: found so far, all looked at ahead of i -/
def WR (H : Hp) (a pf d : Addr) (S : Tab) (n m : Nat) (σ : L2.St) (Hx : Hp) : Prop := ∃ (L : List Nat) (i : Nat) (v4 : Option V), σ = [some (.ref a), some (.ref pf), some (.ref d), some (.int i), v4] ∧ Same H Hx ∧ Hx pf = some (.lst (L.map vI)) ∧ Hx d = some (.dK (kvT L)) ∧ Fnd S L ∧
  i ≤ L.length ∧ (∀ j s, j < i → L[j]? = some s → ∀ x ∈ row S s, x ∈ L) ∧ m + i = n
def WQ (H : Hp) (a pf d : Addr) (S : Tab) (n m : Nat) (σ : L2.St) (Hx : Hp) : Prop := ∃ (L Z : List Nat) (v3 v4 : Option V), σ = [some (.ref a), some (.ref d), some (.ref pf), v3, v4] ∧ Same H Hx ∧ Hx pf = some (.lst (Z.map vI)) ∧ Hx d = some (.dK (kvT L)) ∧ Fnd S L ∧
  (∀ x ∈ Z, x ∈ L) ∧ (∀ s ∈ L, s ∈ Z ∨ ∀ x ∈ row S s, x ∈ L) ∧ m + 2 * L.length = 2 * n + Z.length ∧ Z.length ≤ L.length
section
variable {P : Program} {w : World} {K : PySem.W.Frag} {mg : Str → Option Value} {base : Heap}
abbrev s_reached_states : Stmt := topS 7
theorem sc_reached_states : FnScope ["steps", "found", "seen", "at", "state"] ["steps"] (defScope s_reached_states) := ⟨rfl, rfl, rfl, by decide +kernel, rfl, by decide +kernel, by decide +kernel⟩
theorem ok_reached_states {f : Addr} {fd : FuncData} (F : Fun K "_reached_states" "_reached_states" s_reached_states f fd) (gl : mg "_reached_states" = some (.ref f)) (T : Bl mg) : DefG P w K mg base 1 "_reached_states" ["steps"] (spReached K) := by
  refine def_mk F gl (F.binds fun _ _ _ _ _ _ us hl => match us, hl with | [_], _ => rfl) (okG F sc_reached_states (fun vs H Q E h => ?_) fun cdv A outer s H vs Q E hr hc h => ?_)
  · obtain ⟨a, S, n, b, rfl, _⟩ := h
    rfl
  · obtain ⟨a, S, n, b, rfl, hG, W, n0, nB, q⟩ := h
    have nd := sc_reached_states.nd
    have hu := hu_of hr
    refine ⟨_, (pss_cons (ps_set (i := 1) nd rfl (by first | exact Or.inl rfl | exact Or.inr rfl) (pe_lst (pa_cons pe_int pa_nil)))
      (pss_cons (ps_set (i := 2) nd rfl (by first | exact Or.inl rfl | exact Or.inr rfl) (pe_disp (pps_cons pe_int pe_bl pps_nil) rfl rfl (by decide) (by decide)))
      (pss_cons (ps_set (i := 3) nd rfl (by first | exact Or.inl rfl | exact Or.inr rfl) pe_int)
      (pss_cons (ps_while PassesOwn.never (pt_cmpR op_lt (pv 3) (pe_callB call_len_seq (by rfl) T.len boot_len (pa_cons (pv 1) pa_nil)) (nomark _))
        (pss_cons (ps_for PassesOwn.never rfl (pi_tup (pe_ix ix_tup (pv 0) (pe_ix ix_list (pv 1) (pv 3) (fun _ _ => rfl)) (fun _ _ => rfl))) (pg_name (i := 4) nd rfl (by first | exact Or.inl rfl | exact Or.inr rfl))
          (pss_one (ps_if (pt_cmp (pc_dnotin hu (pv 4) (pv 2)))
            (pss_cons (ps_dput hu (pv 2) (pv 4) pe_bl rfl)
            (pss_one (ps_expr (pe_bm PySem.F.plainAttrs_list PySem.F.slot_list_append PySem.F.type_list_append mt_append (pv 1) (pa_cons (pv 4) pa_nil)))))
            pss_nil)))
        (pss_one (ps_aug (i := 3) nd rfl (by first | exact Or.inl rfl | exact Or.inr rfl) pe_int ip_add))))
      (pss_one (ps_ret (pe_callB cr_sortedI (by rfl) T.sorted (by decide +kernel) (pa_cons (pv 1) pa_nil)))))))), ?_⟩
    refine ⟨(show 1 ≤ sizeLine from small (by decide)), fun pf nf => ?_⟩
    have sf : Same H (upd H pf (.lst [.int 0])) := Same.new nf
    refine fun d nd' => ⟨upd_same, [((Sum.inl 0 : Key), .bl true)], rfl, (show 1 ≤ 15 by decide), ?_⟩
    rw [upd_upd]
    have nfd : pf ≠ d := ne_of_none upd_same nd'
    have s0 : Same H (upd (upd H pf (.lst [.int 0])) d (.dK (kvT [0]))) := sf.trans (Same.new nd')
    have hF0 : upd (upd H pf (.lst [.int 0])) d (.dK (kvT [0])) pf = some (.lst ([0].map vI)) := by rw [upd_ne nfd, upd_same]; rfl
    have hD0 : upd (upd H pf (.lst [.int 0])) d (.dK (kvT [0])) d = some (.dK (kvT [0])) := upd_same
    refine ⟨WR H a pf d S n, ⟨n, [0], 0, none, rfl, s0, hF0, hD0, ⟨List.pairwise_singleton _ _, List.mem_singleton_self _, fun x hx => by rw [List.mem_singleton.mp hx]; exact .zero⟩, Nat.zero_le _, fun j s h => absurd h (Nat.not_lt_zero _), rfl⟩, ?_⟩
    rintro m σ Hx ⟨L, i, v4, rfl, sx, hF, hD, fd, il, cl, em⟩
    have ln := fd.len W n0
    refine ⟨_, rfl, _, rfl, pf, _, rfl, .inl (tofL hF), _, _, rfl, rfl, _, rfl, ?_⟩
    rw [List.length_map]
    refine ite2 (fun e => ?_) (fun e => ?_)
    · have hi : i < L.length := by have := of_decide_eq_true e; omega
      have hs : L[i]? = some L[i] := List.getElem?_eq_getElem hi
      generalize hse : L[i] = s at hs
      have smem : s ∈ L := List.mem_of_getElem? hs
      have sn := (fd.rc s smem).lt W n0
      obtain ⟨xs, r, hA, hat, hR⟩ := hG.row W sn
      refine ⟨fun σ' H' => ∃ m', m' < m ∧ WR H a pf d S n m' σ' H', fun _ _ h => h, ?_⟩
      refine ⟨_, rfl, _, rfl, _, rfl, pf, _, i, vI s, rfl, rfl, tofL hF, at_vI hs, a, xs, (s : Int), .ref r, rfl, rfl, Same.tup sx hA, hat, r, rfl, ⟨_, Same.tup sx hR⟩, ?_⟩
      refine for_tup (K := K) (a := r) (xs := (row S s).map vI) (fun t σ Hy => ∃ (L' : List Nat) (v4 : Option V), σ = [some (.ref a), some (.ref pf), some (.ref d), some (.int i), v4] ∧ Same H Hy ∧ Hy pf = some (.lst (L'.map vI)) ∧ Hy d = some (.dK (kvT L')) ∧ Fnd S L' ∧ i < L'.length ∧ L'[i]? = some s ∧ (∀ x ∈ L, x ∈ L') ∧ (∀ j s, j < i → L'[j]? = some s → L[j]? = some s) ∧ (∀ x ∈ (row S s).take t, x ∈ L'))
        ⟨L, v4, rfl, sx, hF, hD, fd, hi, hs, fun x hx => hx, fun j s _ h => h, fun x hx => by cases hx⟩ (fun t σ Hy _ ⟨_, _, _, sy, _⟩ => Same.tup sy hR) ?_ ?_
      · rintro t y σ Hy ht ⟨L', v4', rfl, sy, hF', hD', fd', hi', hs', sub, old, got⟩
        rw [List.getElem?_map] at ht
        obtain ⟨x, hx, rfl⟩ := Option.map_eq_some_iff.mp ht
        have xr : x ∈ row S s := List.mem_of_getElem? hx
        have et : (row S s).take (t + 1) = (row S s).take t ++ [x] := by rw [List.take_add_one, hx]; rfl
        have ln' := fd'.len W n0
        refine ⟨_, rfl, _, rfl, d, _, rfl, DGet.k (k := Sum.inl (x : Int)) hD', _, rfl, ?_⟩
        rw [kvT_has]
        by_cases hin : x ∈ L'
        · rw [decide_eq_true hin]
          refine iteF ⟨L', _, rfl, sy, hF', hD', fd', hi', hs', sub, old, fun z hz => ?_⟩
          rw [et] at hz
          rcases List.mem_append.mp hz with hz | hz
          · exact got z hz
          · rw [List.mem_singleton.mp hz]; exact hin
        · rw [decide_eq_false hin]
          refine iteT ⟨_, rfl, _, rfl, d, _, rfl, DPut.k (k := Sum.inl (x : Int)) hD' (by unfold kvT; rw [List.length_map]; exact smallt (by omega)), ?_⟩
          rw [kvT_put hin]
          have npd : pf ≠ d := ne_of hF' hD' (fun z => nomatch z)
          have hF2 : upd Hy d (.dK (kvT (L' ++ [x]))) pf = some (.lst (L'.map vI)) := by rw [upd_ne npd]; exact hF'
          refine ⟨_, rfl, ty_l (tofL hF2), _, rfl, pf, _, _, rfl, rfl, hF2, by rw [List.length_map]; exact smallt (by omega), L' ++ [x], _, rfl, fun p o hp => ?_, ?_, ?_, fd'.add (List.mem_of_getElem? hs') xr hin, by rw [List.length_append]; omega, ?_, fun z hz => List.mem_append_left _ (sub z hz), fun j z hj hz => ?_, fun z hz => ?_⟩
          · rw [upd_ne (ne_of_none hp nf), upd_ne (ne_of_none hp (sf.free nd'))]
            exact sy _ _ hp
          · rw [upd_same, List.map_append]; rfl
          · rw [upd_ne npd.symm, upd_same]
          · rw [List.getElem?_append_left hi']; exact hs'
          · rw [List.getElem?_append_left (by omega)] at hz
            exact old j z hj hz
          · rw [et] at hz
            rcases List.mem_append.mp hz with hz | hz
            · exact List.mem_append_left _ (got z hz)
            · exact List.mem_append_right _ hz
      · rintro σ Hy ⟨L', v4', rfl, sy, hF', hD', fd', hi', hs', sub, old, got⟩
        rw [List.length_map, List.take_length] at got
        refine ⟨_, rfl, _, _, rfl, rfl, m - 1, by omega, L', i + 1, _, rfl, sy, hF', hD', fd', hi', fun j z hj hz => ?_, by omega⟩
        rcases Nat.lt_or_ge j i with l | l
        · exact fun x hx => sub x (cl j z l (old j z l hz) x hx)
        · rw [show j = i by omega, hs'] at hz
          cases hz
          exact got
    · have hi : i = L.length := by
        have : ¬ ((i : Int) < (L.length : Int)) := fun z => e (decide_eq_true z)
        omega
      subst hi
      have full : ∀ s ∈ L, ∀ x ∈ row S s, x ∈ L := fun s hs x hx => by
        obtain ⟨j, hj⟩ := List.getElem?_of_mem hs
        exact cl j s (List.getElem?_eq_some_iff.mp hj).1 hj x hx
      refine ⟨_, rfl, pf, L.map (fun x : Nat => (x : Int)), rfl, by rw [map_vI]; exact tofL hF, fun ns' p pm rise np => ?_⟩
      obtain ⟨M, rfl, pM⟩ := perm_nat pm
      refine q p _ M (sx.trans (Same.new np)) (by rw [upd_same, map_vI]) (sx.free np) (fun s => pM.mem_iff.trans (fd.all full s)) ?_ (pM.nodup_iff.mpr fd.nd)
      exact (List.pairwise_map.mp rise).imp fun h => by omega
abbrev s_reached : Stmt := topS 17
theorem sc_reached : FnScope ["_law_leads", "_law_seen", "_law_waiting", "_law_at", "_law_spot"] ["_law_leads"] (defScope s_reached) := ⟨rfl, rfl, rfl, by decide +kernel, rfl, by decide +kernel, by decide +kernel⟩
theorem ok_reached {f : Addr} {fd : FuncData} (F : Fun K "_law_reached" "_law_reached" s_reached f fd) (gl : mg "_law_reached" = some (.ref f)) (T : Bl mg) : DefG P w K mg base 1 "_law_reached" ["_law_leads"] (spReached K) := by
  refine def_mk F gl (F.binds fun _ _ _ _ _ _ us hl => match us, hl with | [_], _ => rfl) (okG F sc_reached (fun vs H Q E h => ?_) fun cdv A outer s H vs Q E hr hc h => ?_)
  · obtain ⟨a, S, n, b, rfl, _⟩ := h
    rfl
  · obtain ⟨a, S, n, b, rfl, hG, W, n0, nB, q⟩ := h
    have nd := sc_reached.nd
    have hu := hu_of hr
    have hu64 := hr.units
    refine ⟨_, (pss_cons (ps_par (i := 1) (j := 2) rfl nd rfl rfl (by decide) rfl rfl (pa_cons (pe_disp (pps_cons pe_int pe_bl pps_nil) rfl rfl (by decide) (by decide)) (pa_cons (pe_lst (pa_cons pe_int pa_nil)) pa_nil)) rfl)
      (pss_cons (ps_while PassesOwn.never (pt_cmpR (op_neD hu64) (pv 2) (pe_lst pa_nil) (nomark _))
        (pss_cons (ps_set (i := 3) nd rfl (by first | exact Or.inl rfl | exact Or.inr rfl) (pe_bm0 PySem.F.plainAttrs_list PySem.F.slot_list_pop PySem.F.type_list_pop mt_pop (pv 2)))
        (pss_one (ps_for PassesOwn.never rfl (pi_tup (pe_ix ix_tup (pv 0) (pv 3) (fun _ _ => rfl))) (pg_name (i := 4) nd rfl (by first | exact Or.inl rfl | exact Or.inr rfl))
          (pss_one (ps_if (pt_cmp (pc_dnotin hu (pv 4) (pv 1)))
            (pss_cons (ps_dput hu (pv 1) (pv 4) pe_bl rfl)
            (pss_one (ps_expr (pe_bm PySem.F.plainAttrs_list PySem.F.slot_list_append PySem.F.type_list_append mt_append (pv 2) (pa_cons (pv 4) pa_nil)))))
            pss_nil))))))
      (pss_one (ps_ret (pe_callB cr_sortedI (by rfl) T.sorted (by decide +kernel) (pa_cons (pe_callTy (call_list_dK rfl) (by rfl) T.list boot_list (pa_cons (pv 1) pa_nil)) pa_nil)))))), ?_⟩
    refine fun d nd' => ⟨upd_same, [((Sum.inl 0 : Key), .bl true)], rfl, (show 1 ≤ 15 by decide), (show 1 ≤ sizeLine from small (by decide)), fun pf nf => ⟨_, _, rfl, ?_⟩⟩
    rw [upd_upd]
    rw [upd_upd] at nf
    have nfd : d ≠ pf := ne_of_none upd_same nf
    have sd : Same H (upd H d (.dK (kvT [0]))) := Same.new nd'
    have s0 : Same H (upd (upd H d (.dK (kvT [0]))) pf (.lst ([0].map vI))) := sd.trans (Same.new nf)
    have hD0 : upd (upd H d (.dK (kvT [0]))) pf (.lst ([0].map vI)) d = some (.dK (kvT [0])) := by rw [upd_ne nfd, upd_same]
    refine ⟨WQ H a pf d S n, ⟨2 * n - 1, [0], [0], none, none, rfl, s0, upd_same, hD0, ⟨List.pairwise_singleton _ _, List.mem_singleton_self _, fun x hx => by rw [List.mem_singleton.mp hx]; exact .zero⟩, fun x hx => hx, fun s hs => .inl hs, by simp; omega, Nat.le_refl _⟩, ?_⟩
    rintro m σ Hx ⟨L, Z, v3, v4, rfl, sx, hF, hD, fd, zs, cl, em, zl⟩
    have ln := fd.len W n0
    refine ⟨_, rfl, Nat.zero_le _, fun o no => ?_⟩
    have so : Same Hx (upd Hx o (.lst [])) := Same.new no
    refine ⟨_, _, .lst (tofL (so _ _ hF)) (dpa_nats Z), .lst (tofL upd_same) .nil, shaped_nats Z, shaped_ints [], _, rfl, ?_⟩
    rw [eqv_nats_nil]
    have hF := so _ _ hF
    have hD := so _ _ hD
    have sx := sx.trans so
    revert hF hD sx
    generalize upd Hx o (.lst []) = Hx
    intro hF hD sx
    refine ite2 (fun e => ?_) (fun e => ?_)
    · have hne : Z ≠ [] := fun z => by rw [z] at e; exact absurd e (by decide)
      obtain ⟨Z0, s, rfl⟩ : ∃ Z0 s, Z = Z0 ++ [s] := ⟨Z.dropLast, Z.getLast hne, (List.dropLast_concat_getLast hne).symm⟩
      have smem : s ∈ L := zs s (List.mem_append_right _ (List.mem_singleton_self _))
      have sn := (fd.rc s smem).lt W n0
      obtain ⟨xs, r, hA, hat, hR⟩ := hG.row W sn
      refine ⟨fun σ' H' => ∃ m', m' < m ∧ WQ H a pf d S n m' σ' H', fun _ _ h => h, ?_⟩
      refine ⟨_, rfl, ty_l (tofL hF), pf, _, _, rfl, rfl, hF, pop_nat Z0 s, ?_⟩
      rw [pop_natL]
      have hD2 : upd Hx pf (.lst (Z0.map vI)) d = some (.dK (kvT L)) := by rw [upd_ne (ne_of hD hF (fun z => nomatch z))]; exact hD
      have sx2 : Same H (upd Hx pf (.lst (Z0.map vI))) := fun p o hp => by
        rw [upd_ne (ne_of_none hp (sd.free nf))]
        exact sx _ _ hp
      refine ⟨_, rfl, _, rfl, a, xs, (s : Int), .ref r, rfl, rfl, Same.tup sx2 hA, hat, r, rfl, ⟨_, Same.tup sx2 hR⟩, ?_⟩
      refine for_tup (K := K) (a := r) (xs := (row S s).map vI) (fun t σ Hy => ∃ (L' Z' : List Nat) (v4 : Option V), σ = [some (.ref a), some (.ref d), some (.ref pf), some (.int s), v4] ∧ Same H Hy ∧ Hy pf = some (.lst (Z'.map vI)) ∧ Hy d = some (.dK (kvT L')) ∧ Fnd S L' ∧ s ∈ L' ∧ (∀ x ∈ L, x ∈ L') ∧ (∀ x ∈ Z', x ∈ L') ∧ (∀ z ∈ L', z = s ∨ z ∈ Z' ∨ ∀ x ∈ row S z, x ∈ L') ∧ (∀ x ∈ (row S s).take t, x ∈ L') ∧ L'.length + Z0.length = L.length + Z'.length ∧ L.length ≤ L'.length)
        ⟨L, Z0, v4, rfl, sx2, upd_same, hD2, fd, smem, fun x hx => hx, fun x hx => zs x (List.mem_append_left _ hx), fun z hz => ?_, fun x hx => (by cases hx), rfl, Nat.le_refl _⟩ (fun t σ Hy _ ⟨_, _, _, _, sy, _⟩ => Same.tup sy hR) ?_ ?_
      · rcases cl z hz with q1 | q1
        · rcases List.mem_append.mp q1 with q1 | q1
          · exact .inr (.inl q1)
          · exact .inl (List.mem_singleton.mp q1)
        · exact .inr (.inr q1)
      · rintro t y σ Hy ht ⟨L', Z', v4', rfl, sy, hF', hD', fd', hs', sub, zs', cl', got, len', lel⟩
        rw [List.getElem?_map] at ht
        obtain ⟨x, hx, rfl⟩ := Option.map_eq_some_iff.mp ht
        have xr : x ∈ row S s := List.mem_of_getElem? hx
        have et : (row S s).take (t + 1) = (row S s).take t ++ [x] := by rw [List.take_add_one, hx]; rfl
        have ln' := fd'.len W n0
        rw [List.length_append, List.length_singleton] at zl
        refine ⟨_, rfl, _, rfl, d, _, rfl, DGet.k (k := Sum.inl (x : Int)) hD', _, rfl, ?_⟩
        rw [kvT_has]
        by_cases hin : x ∈ L'
        · rw [decide_eq_true hin]
          refine iteF ⟨L', Z', _, rfl, sy, hF', hD', fd', hs', sub, zs', cl', fun z hz => ?_, len', lel⟩
          rw [et] at hz
          rcases List.mem_append.mp hz with hz | hz
          · exact got z hz
          · rw [List.mem_singleton.mp hz]; exact hin
        · rw [decide_eq_false hin]
          refine iteT ⟨_, rfl, _, rfl, d, _, rfl, DPut.k (k := Sum.inl (x : Int)) hD' (by unfold kvT; rw [List.length_map]; exact smallt (by omega)), ?_⟩
          rw [kvT_put hin]
          have npd : pf ≠ d := ne_of hF' hD' (fun z => nomatch z)
          have hF2 : upd Hy d (.dK (kvT (L' ++ [x]))) pf = some (.lst (Z'.map vI)) := by rw [upd_ne npd]; exact hF'
          refine ⟨_, rfl, ty_l (tofL hF2), _, rfl, pf, _, _, rfl, rfl, hF2, by rw [List.length_map]; exact smallt (by omega), L' ++ [x], Z' ++ [x], _, rfl, fun p o hp => ?_, ?_, ?_, fd'.add hs' xr hin, List.mem_append_left _ hs', fun z hz => List.mem_append_left _ (sub z hz), fun z hz => ?_, fun z hz => ?_, fun z hz => ?_, by rw [List.length_append, List.length_append]; omega, by rw [List.length_append]; omega⟩
          · rw [upd_ne (ne_of_none hp (sd.free nf)), upd_ne (ne_of_none hp nd')]
            exact sy _ _ hp
          · rw [upd_same, List.map_append]; rfl
          · rw [upd_ne npd.symm, upd_same]
          · rcases List.mem_append.mp hz with hz | hz
            · exact List.mem_append_left _ (zs' z hz)
            · exact List.mem_append_right _ hz
          · rcases List.mem_append.mp hz with hz | hz
            · rcases cl' z hz with q1 | q1 | q1
              · exact .inl q1
              · exact .inr (.inl (List.mem_append_left _ q1))
              · exact .inr (.inr fun u hu => List.mem_append_left _ (q1 u hu))
            · exact .inr (.inl (List.mem_append_right _ hz))
          · rw [et] at hz
            rcases List.mem_append.mp hz with hz | hz
            · exact List.mem_append_left _ (got z hz)
            · exact List.mem_append_right _ hz
      · rintro σ Hy ⟨L', Z', v4', rfl, sy, hF', hD', fd', hs', sub, zs', cl', got, len', lel⟩
        rw [List.length_map, List.take_length] at got
        have ln' := fd'.len W n0
        rw [List.length_append, List.length_singleton] at em zl
        refine ⟨2 * n - 2 * L'.length + Z'.length, by omega, L', Z', _, _, rfl, sy, hF', hD', fd', zs', fun z hz => ?_, by omega, by omega⟩
        rcases cl' z hz with rfl | q1 | q1
        · exact .inr got
        · exact .inl q1
        · exact .inr q1
    · have hZ : Z = [] := Classical.byContradiction fun z => e (by rw [decide_eq_false z]; rfl)
      subst hZ
      have full : ∀ s ∈ L, ∀ x ∈ row S s, x ∈ L := fun s hs => (cl s hs).resolve_left (fun z => nomatch z)
      refine ⟨_, rfl, d, kvT L, rfl, hD, fun pl npl => ?_⟩
      have el : (kvT L).map (fun kv => kV kv.1) = (L.map (fun x : Nat => (x : Int))).map V.int := by
        unfold kvT; rw [List.map_map, List.map_map]; rfl
      rw [el]
      refine ⟨pl, L.map (fun x : Nat => (x : Int)), rfl, tofL upd_same, fun ns' p pm rise np => ?_⟩
      obtain ⟨M, rfl, pM⟩ := perm_nat pm
      have sl := sx.trans (Same.new (o := .lst ((L.map (fun x : Nat => (x : Int))).map V.int)) npl)
      refine q p _ M (sl.trans (Same.new np)) (by rw [upd_same, map_vI]) (sl.free np) (fun s => pM.mem_iff.trans (fd.all full s)) ?_ (pM.nodup_iff.mpr fd.nd)
      exact (List.pairwise_map.mp rise).imp fun h => by omega
end
end NK39
namespace NK39
open PySem PySem.Spec PyProof.Rows L2 GL G3 MA
/-! ### the class -/
def mf (b s x m : V) : List (Str × V) := putF "many" m (putF "boxes" x (putF "steps" s (putF "base" b [])))
theorem f_many (b s x m : V) : (mf b s x m).lookup ("many" : Str) = some m := by unfold mf; rw [lookup_putF, if_pos rfl]
theorem f_boxes (b s x m : V) : (mf b s x m).lookup ("boxes" : Str) = some x := by unfold mf; rw [lookup_putF, if_neg (by decide +kernel), lookup_putF, if_pos rfl]
theorem f_steps (b s x m : V) : (mf b s x m).lookup ("steps" : Str) = some s := by unfold mf; rw [lookup_putF, if_neg (by decide +kernel), lookup_putF, if_neg (by decide +kernel), lookup_putF, if_pos rfl]
theorem f_base (b s x m : V) : (mf b s x m).lookup ("base" : Str) = some b := by unfold mf; rw [lookup_putF, if_neg (by decide +kernel), lookup_putF, if_neg (by decide +kernel), lookup_putF, if_neg (by decide +kernel), lookup_putF, if_pos rfl]
theorem putF_len : ∀ (f : Str) (v : V) (fs : List (Str × V)), (putF f v fs).length ≤ fs.length + 1
  | f, v, [] => Nat.le_refl _
  | f, v, p :: r => by
    unfold putF
    split
    · rw [List.length_cons, List.length_cons]; omega
    · rw [List.length_cons, List.length_cons]
      have := putF_len f v r
      omega
structure Mac (K : PySem.W.Frag) (mg : Str → Option Value) (C : Addr) : Prop where
  cl : Cls K C
  nB : NoAttr K C "base"
  nS : NoAttr K C "steps"
  nX : NoAttr K C "boxes"
  nM : NoAttr K C "many"
  mgC : mg "Machine" = some (.ref C)
def spMInit (K : PySem.W.Frag) (C : Addr) : Sp := fun vs H Q _ => ∃ (p dx a x : Addr) (b n : Nat) (S : Tab) (B : List Nat), vs = [.ref p, .int (b : Int), .ref a, .ref x] ∧ H p = some (.ins C dx []) ∧ Grid K H a S ∧ Wf S n b ∧ 0 < n ∧ n ≤ 1000 ∧ 0 < b ∧ SqT K H x (B.map vI) ∧ B.length = n ∧
  (∀ s, Rch S s → bx B s = bx B (stp S s 0)) ∧ ∀ (m : Nat) H', Many S B m → (∀ q o, q ≠ p → H q = some o → H' q = some o) → H' p = some (.ins C dx (mf (.int (b : Int)) (.ref a) (.ref x) (.int (m : Int)))) → Q .non H'
/-- an object of the class -/
structure MacAt (K : PySem.W.Frag) (C : Addr) (H : Hp) (p : Addr) (S : Tab) (B : List Nat) (b n m : Nat) : Prop where
  ex : ∃ dx a x, H p = some (.ins C dx (mf (.int (b : Int)) (.ref a) (.ref x) (.int (m : Int)))) ∧ Grid K H a S ∧ SqT K H x (B.map vI)
  wf : Wf S n b
  n0 : 0 < n
  b2 : 2 ≤ b
  bB : b ≤ 10
  bl : B.length = n
  nB : n ≤ 1000
theorem MacAt.to {K : PySem.W.Frag} {C : Addr} {H H' : Hp} {p : Addr} {S : Tab} {B : List Nat} {b n m : Nat} (h : MacAt K C H p S B b n m) (t : ∀ {p : Addr} {xs : List V}, SqT K H p xs → SqT K H' p xs) (i : ∀ dx fs, H p = some (.ins C dx fs) → H' p = some (.ins C dx fs)) : MacAt K C H' p S B b n m := by
  obtain ⟨dx, a, x, h1, h2, h3⟩ := h.ex
  exact ⟨⟨dx, a, x, i _ _ h1, h2.to t, t h3⟩, h.wf, h.n0, h.b2, h.bB, h.bl, h.nB⟩
theorem MacAt.same {K : PySem.W.Frag} {C : Addr} {H H' : Hp} {p : Addr} {S : Tab} {B : List Nat} {b n m : Nat} (h : MacAt K C H p S B b n m) (s : Same H H') : MacAt K C H' p S B b n m := h.to (fun q => Same.tup s q) fun _ _ e => s _ _ e
theorem MacAt.mv {K : PySem.W.Frag} {C : Addr} {H H' : Hp} {p d g : Addr} {S : Tab} {B : List Nat} {b n m c : Nat} (h : MacAt K C H p S B b n m) (D : Dk ks H d g c) (mv : Mv d g H H') : MacAt K C H' p S B b n m := by
  obtain ⟨x, y, L, h1, h2, _⟩ := D.ex
  exact h.to (fun q => SqT.mv3 D mv q) fun _ _ e => mv.keep _ _ e (ne_of e h1 (fun z => nomatch z)) (ne_of e h2 (fun z => nomatch z))
def spCall (K : PySem.W.Frag) (C : Addr) : Sp := fun vs H Q _ => ∃ (p : Addr) (S : Tab) (B : List Nat) (b n m k : Nat), vs = [.ref p, .int (k : Int)] ∧ MacAt K C H p S B b n m ∧ k < 2 ^ 1000 ∧ ∀ H', Same H H' → Q (.int ((bx B (runs S b 0 k) : Nat) : Int)) H'
section
variable {P : Program} {w : World} {K : PySem.W.Frag} {mg : Str → Option Value} {base : Heap}
abbrev s_Machine_init : Stmt := inClass (topS 5) 0
theorem sc_Machine_init : FnScope ["self", "base", "steps", "boxes", "states", "state"] ["self", "base", "steps", "boxes"] (defScope s_Machine_init) := ⟨rfl, rfl, rfl, by decide +kernel, rfl, by decide +kernel, by decide +kernel⟩
theorem ok_init {f C : Addr} {fd : FuncData} (F : Fun K "__init__" "Machine.__init__" s_Machine_init f fd) (S : Mac K mg C) (T : Bl mg) (D_reached_states : DefG P w K mg base 1 "_reached_states" ["steps"] (spReached K)) : FnG P w K mg base CX0 2 f fd ["self", "base", "steps", "boxes"] (spMInit K C) := by
  refine okG F sc_Machine_init (fun vs H Q E h => ?_) fun cdv A outer s H vs Q E hr hc h => ?_
  · obtain ⟨p, dx, a, x, b, n, Z, B, rfl, _⟩ := h
    rfl
  · obtain ⟨p, dx, a, x, b, n, Z, B, rfl, hp, hG, W, n0, nB, b0, hX, hB, stay, q⟩ := h
    have nd := sc_Machine_init.nd
    refine ⟨_, (pss_cons (ps_set (i := 4) nd rfl (by first | exact Or.inl rfl | exact Or.inr rfl) (pe_def D_reached_states (hr.mono (by decide)) hc (by rfl) (pa_cons (pv 2) pa_nil)))
      (pss_cons (ps_for PassesOwn.never rfl (pi_list (pv 4)) (pg_name (i := 5) nd rfl (by first | exact Or.inl rfl | exact Or.inr rfl))
        (pss_one (ps_if (pt_cmpR op_ne (pe_ix ix_tup (pv 3) (pv 5) (fun _ _ => rfl)) (pe_ix ix_tup (pv 3) (pe_ix ix_tup (pe_ix ix_tup (pv 2) (pv 5) (fun _ _ => rfl)) pe_int (fun _ _ => rfl)) (fun _ _ => rfl)) (nomark _))
          (pss_one ps_never)
          pss_nil)))
      (pss_cons (ps_fld (pv 0) (pv 1) rfl)
      (pss_cons (ps_fld (pv 0) (pv 2) rfl)
      (pss_cons (ps_fld (pv 0) (pv 3) rfl)
      (pss_one (ps_fld (pv 0) (pe_op op_add pe_int (pe_callB (cr_max rfl) (by rfl) T.max boot_max (pa_cons (pe_lc (own := [("state", 5)]) (g := (gName 5)) (tt := tYes) rfl nd (pi_list (pv 4)) (blkOk_by (own := [("state", 5)]) (N := ["self", "base", "steps", "boxes", "states", "state"]) (sc := defScope s_Machine_init) (by decide +kernel)) (fun _ _ _ _ _ => (pg_name (i := 5) nd rfl (by first | exact Or.inl rfl | exact Or.inr rfl))) (fun _ _ _ _ _ => pts_nil) (fun _ _ _ _ _ => (pe_ix (ix_tupK (K := K)) (pv 3) (pv 5) (fun _ _ => rfl)))) pa_nil))) rfl))))))), ?_⟩
    refine ⟨_, rfl, a, Z, n, b, rfl, hG, W, n0, nB, fun l H1 M s1 hl nl hM rise ndM => ?_⟩
    have Mn : ∀ s ∈ M, s < n := fun s hs => ((hM s).mp hs).lt W n0
    have lM : M.length ≤ n := nodup_len n M ndM Mn
    have atB : ∀ s, s < n → atI (B.map vI) (s : Int) = some (vI (bx B s)) := fun s hs => at_vI (bx_at (by omega))
    refine ⟨_, rfl, l, rfl, ⟨_, tofL hl⟩, for_list (K := K) (a := l) (xs := M.map vI) (fun i σ Hx => ∃ v : Option V, σ = [some (.ref p), some (.int (b : Int)), some (.ref a), some (.ref x), some (.ref l), v] ∧ Hx = H1) ⟨none, rfl, rfl⟩ (fun i σ Hx _ ⟨_, _, e⟩ => by rw [e]; exact tofL hl) ?_ ?_⟩
    · rintro i y σ Hx hi ⟨v, rfl, rfl⟩
      rw [List.getElem?_map] at hi
      obtain ⟨z, hz, rfl⟩ := Option.map_eq_some_iff.mp hi
      have zM : z ∈ M := List.mem_of_getElem? hz
      have zn := Mn z zM
      obtain ⟨xs, r, hA, hat, hR⟩ := (hG.same s1).row W zn
      have zn2 := stp_lt (d := 0) W zn b0
      have hX1 := Same.tup s1 hX
      refine ⟨_, rfl, _, rfl, x, _, (z : Int), _, rfl, rfl, hX1, atB z zn, _, rfl, _, rfl, _, rfl, a, xs, (z : Int), .ref r, rfl, rfl, hA, hat, r, _, ((0 : Nat) : Int), _, rfl, rfl, hR, at_vI (stp_at W zn b0), x, _, ((stp Z z 0 : Nat) : Int), _, rfl, rfl, hX1, atB _ zn2, rfl, _, rfl, iteNS ?_ ⟨_, rfl, rfl⟩⟩
      rw [stay z ((hM z).mp zM)]
    · rintro σ Hx ⟨v, rfl, rfl⟩
      have e1 : (putF ("base" : Str) (V.int (b : Int)) []).length ≤ 1 := putF_len _ _ _
      have e2 : (putF ("steps" : Str) (V.ref a) (putF ("base" : Str) (V.int (b : Int)) [])).length ≤ 2 := Nat.le_trans (putF_len _ _ _) (by omega)
      have e3 : (putF ("boxes" : Str) (V.ref x) (putF ("steps" : Str) (V.ref a) (putF ("base" : Str) (V.int (b : Int)) []))).length ≤ 3 := Nat.le_trans (putF_len _ _ _) (by omega)
      refine ⟨_, rfl, _, rfl, p, C, dx, _, rfl, s1 _ _ hp, S.cl, S.nB, (show 0 < 1000 by decide), _, rfl, _, rfl, p, C, dx, _, rfl, upd_same, S.cl, S.nS, Nat.lt_of_le_of_lt e1 (by decide), _, rfl, _, rfl, p, C, dx, _, rfl, upd_same, S.cl, S.nX, Nat.lt_of_le_of_lt e2 (by decide), ?_⟩
      rw [upd_upd, upd_upd]
      have npl : p ≠ l := ne_of (s1 _ _ hp) hl (fun z => nomatch z)
      have hp4 : upd Hx p (.ins C dx (putF ("boxes" : Str) (V.ref x) (putF ("steps" : Str) (V.ref a) (putF ("base" : Str) (V.int (b : Int)) [])))) p = _ := upd_same
      have hl4 : upd Hx p (.ins C dx (putF ("boxes" : Str) (V.ref x) (putF ("steps" : Str) (V.ref a) (putF ("base" : Str) (V.int (b : Int)) [])))) l = some (.lst (M.map vI)) := by rw [upd_ne npl.symm]; exact hl
      have k4 : ∀ q o, q ≠ p → H q = some o → upd Hx p (.ins C dx (putF ("boxes" : Str) (V.ref x) (putF ("steps" : Str) (V.ref a) (putF ("base" : Str) (V.int (b : Int)) [])))) q = some o := fun q o ne e => by rw [upd_ne ne]; exact s1 _ _ e
      have hX4 : SqT K (upd Hx p (.ins C dx (putF ("boxes" : Str) (V.ref x) (putF ("steps" : Str) (V.ref a) (putF ("base" : Str) (V.int (b : Int)) []))))) x (B.map vI) := by
        rcases hX with (h | ⟨o, h⟩) | h
        · exact .inl (.inl (k4 _ _ (ne_of h hp (fun z => nomatch z)) h))
        · exact .inl (.inr ⟨o, k4 _ _ (ne_of h hp (fun z => nomatch z)) h⟩)
        · exact .inr h
      revert hp4 hl4 k4 hX4
      generalize upd Hx p (.ins C dx (putF ("boxes" : Str) (V.ref x) (putF ("steps" : Str) (V.ref a) (putF ("base" : Str) (V.int (b : Int)) [])))) = H4
      intro hp4 hl4 k4 hX4
      refine ⟨_, rfl, l, rfl, ⟨_, tofL hl4⟩, fun D nD => ?_⟩
      refine lc_list (K := K) (a := l) (xs := M.map vI) (fun i Hy => Same H4 Hy ∧ Hy D = some (.lst ((M.take i).map fun s => V.int ((bx B s : Nat) : Int)))) ⟨Same.new nD, upd_same⟩ (fun i Hy _ h => tofL (h.1 _ _ hl4)) ?_ ?_
      · rintro i y Hy hi ⟨s2, hD⟩
        rw [List.getElem?_map] at hi
        obtain ⟨z, hz, rfl⟩ := Option.map_eq_some_iff.mp hi
        have zn := Mn z (List.mem_of_getElem? hz)
        refine ⟨rfl, _, rfl, _, rfl, x, _, (z : Int), _, rfl, rfl, Same.tup s2 hX4, atB z zn, _, hD, ?_, ?_, ?_⟩
        · rw [List.length_map, List.length_take]; exact smallt (by omega)
        · intro u o hu
          rw [upd_ne (ne_of_none hu nD)]
          exact s2 _ _ hu
        · rw [upd_same, List.take_add_one, hz, List.map_append]; rfl
      · rintro Hy ⟨s2, hD⟩
        rw [List.length_map, List.take_length] at hD
        have eM : (M.map fun s => V.int ((bx B s : Nat) : Int)) = (M.map fun s => ((bx B s : Nat) : Int)).map V.int := by rw [List.map_map]; rfl
        have M0 : 0 < M.length := List.length_pos_of_mem ((hM 0).mpr .zero)
        refine ⟨D, _, rfl, by rw [eM] at hD; exact tofL hD, by rw [List.length_map]; exact M0, fun k hk hkl => ?_⟩
        obtain ⟨m, em, hm⟩ := many_of hM hk hkl
        refine ⟨1, k, rfl, rfl, _, rfl, p, C, dx, _, rfl, s2 _ _ hp4, S.cl, S.nM, Nat.lt_of_le_of_lt e3 (by decide), ?_⟩
        refine q m _ hm (fun r o ne e => by rw [upd_ne ne]; exact s2 _ _ (k4 r o ne e)) ?_
        rw [upd_same, ← em]; rfl
abbrev s_Machine_call : Stmt := inClass (topS 5) 1
theorem sc_Machine_call : FnScope ["self", "number", "state", "digit"] ["self", "number"] (defScope s_Machine_call) := ⟨rfl, rfl, rfl, by decide +kernel, rfl, by decide +kernel, by decide +kernel⟩
theorem ok_call {f C : Addr} {fd : FuncData} (F : Fun K "__call__" "Machine.__call__" s_Machine_call f fd) (S : Mac K mg C) (T : Bl mg) : FnG P w K mg base CX0 1 f fd ["self", "number"] (spCall K C) := by
  refine okG F sc_Machine_call (fun vs H Q E h => ?_) fun cdv A outer s H vs Q E hr hc h => ?_
  · obtain ⟨p, Z, B, b, n, m, k, rfl, _⟩ := h
    rfl
  · obtain ⟨p, Z, B, b, n, m, k, rfl, hM, kB, q⟩ := h
    have nd := sc_Machine_call.nd
    obtain ⟨dx, a, x, hp, hG, hX⟩ := hM.ex
    have W := hM.wf
    have n0 := hM.n0
    have b2 := hM.b2
    have bB := hM.bB
    have hB := hM.bl
    refine ⟨_, (pss_cons (ps_set (i := 2) nd rfl (by first | exact Or.inl rfl | exact Or.inr rfl) pe_int)
      (pss_cons (ps_while PassesOwn.never (pt_truth (pv 1) (fun _ => rfl))
        (pss_cons (ps_asg (pe_callB call_divmod (by rfl) T.divmod (by decide +kernel) (pa_cons (pv 1) (pa_cons (pe_fld (pv 0) rfl) pa_nil))) (pg_tup rfl (pgs_cons (pg_name (i := 1) nd rfl (by first | exact Or.inl rfl | exact Or.inr rfl)) (pgs_cons (pg_name (i := 3) nd rfl (by first | exact Or.inl rfl | exact Or.inr rfl)) pgs_nil))))
        (pss_one (ps_set (i := 2) nd rfl (by first | exact Or.inl rfl | exact Or.inr rfl) (pe_ix ix_tup (pe_ix ix_tup (pe_fld (pv 0) rfl) (pv 2) (fun _ _ => rfl)) (pv 3) (fun _ _ => rfl))))))
      (pss_one (ps_ret (pe_ix ix_tup (pe_fld (pv 0) rfl) (pv 2) (fun _ _ => rfl)))))), ?_⟩
    refine ⟨fun j σ Hx => ∃ (s : Nat) (v : Option V), Same H Hx ∧ σ = [some (.ref p), some (.int (j : Int)), some (.int (s : Int)), v] ∧ s < n ∧ runs Z b s j = runs Z b 0 k, ⟨k, 0, none, Same.refl H, rfl, n0, rfl⟩, ?_⟩
    rintro j σ Hx ⟨s, v, sx, rfl, sn, ej⟩
    refine ⟨_, rfl, _, rfl, ?_⟩
    refine ite2 (fun e => ?_) (fun e => ?_)
    · have j0 : 0 < j := by
        refine Nat.pos_of_ne_zero fun z => ?_
        subst z
        exact absurd e (by decide)
      refine ⟨fun σ' H' => ∃ j', j' < j ∧ ∃ (s : Nat) (v : Option V), Same H H' ∧ σ' = [some (.ref p), some (.int (j' : Int)), some (.int (s : Int)), v] ∧ s < n ∧ runs Z b s j' = runs Z b 0 k, fun _ _ h => h, ?_⟩
      obtain ⟨xs, r, hA, hat, hR⟩ := hG.row W sn
      have db : j % b < b := Nat.mod_lt _ (by omega)
      refine ⟨_, rfl, _, rfl, p, C, dx, _, _, rfl, sx _ _ hp, S.cl, S.nB, f_base _ _ _ _, (j : Int), (b : Int), rfl, ⟨by omega, by omega⟩, fun t nt => ?_⟩
      have st := sx.trans (Same.new (o := .tup [.int ((j : Int) / (b : Int)), .int ((j : Int) % (b : Int))]) nt)
      refine ⟨t, _, rfl, tofT upd_same, rfl, _, _, rfl, _, _, rfl, rfl, ?_⟩
      refine ⟨_, rfl, p, C, dx, _, _, rfl, st _ _ hp, S.cl, S.nS, f_steps _ _ _ _, _, rfl, a, xs, (s : Int), .ref r, rfl, rfl, Same.tup st hA, hat, _, rfl, r, _, ((j % b : Nat) : Int), _, rfl, rfl, Same.tup st hR, at_vI (stp_at W sn db), ?_⟩
      exact ⟨j / b, Nat.div_lt_self j0 b2, stp Z s (j % b), _, st, rfl, stp_lt W sn db, by rw [← ej, runs_go b2 j0]⟩
    · have j0 : j = 0 := Classical.byContradiction fun z => e (by
        show ((j : Int) != 0) = true
        simpa using z)
      subst j0
      rw [runs_end] at ej
      subst ej
      exact ⟨_, rfl, p, C, dx, _, _, rfl, sx _ _ hp, S.cl, S.nX, f_boxes _ _ _ _, _, rfl, x, _, _, _, rfl, rfl, Same.tup sx hX, at_vI (bx_at (by omega)), q Hx sx⟩
end
end NK39
namespace NK39
open PySem PySem.Spec PyProof.Rows L2 GL G3 MA DG
theorem made {K : PySem.W.Frag} {C : Addr} {S : Tab} {B : List Nat} {b n m : Nat} {f : Nat → Nat} (kd : Kind S B b n m f) (b2 : 2 ≤ b) (bB : b ≤ 10) {Hq : Hp} {p dx a x : Addr} {R : Hp → Prop} (gq : Grid K Hq a S) (xq : SqT K Hq x (B.map vI)) (np : Hq p = none) (ndx : Hq dx = none) (ne : dx ≠ p)
    (hR : ∀ Hr, MacAt K C Hr p S B b n m → Same Hq Hr → R Hr) : spMInit K C [.ref p, .int (b : Int), .ref a, .ref x] (upd (upd Hq dx (.own p)) p (.ins C dx [])) (fun v H2 => v = .non ∧ R H2) E0 := by
  have sn : Same Hq (upd (upd Hq dx (.own p)) p (.ins C dx [])) := (Same.new ndx).trans (Same.new (by rw [upd_ne ne.symm]; exact np))
  refine ⟨p, dx, a, x, b, n, S, B, rfl, upd_same, gq.same sn, kd.wf, kd.n0, kd.nB, by omega, Same.tup sn xq, kd.bl, fun s hs => kd.stay s (hs.lt kd.wf kd.n0), fun m' Hr Mn keep hp => ⟨rfl, ?_⟩⟩
  rw [Mn.one kd.many] at hp
  have sr : Same Hq Hr := fun u o hu => keep u o (fun z => by rw [z, np] at hu; cases hu) (sn u o hu)
  exact hR Hr ⟨⟨dx, a, x, hp, gq.same sr, Same.tup sr xq⟩, kd.wf, kd.n0, b2, bB, kd.bl, kd.nB⟩ sr
def spKindR (K : PySem.W.Frag) (C : Addr) (b : Nat) (m : Nat) (f : Nat → Nat) (H : Hp) (Q : VK) : Prop := ∀ (p : Addr) (S : Tab) (B : List Nat) (n : Nat) H', MacAt K C H' p S B b n m → Kind S B b n m f → Same H H' → H p = none → Q (.ref p) H'
def spModulo (K : PySem.W.Frag) (C : Addr) : Sp := fun vs H Q _ => ∃ b M : Nat, vs = [.int (b : Int), .int (M : Int)] ∧ 2 ≤ b ∧ b ≤ 10 ∧ 0 < M ∧ M ≤ 12 ∧ spKindR K C b M (fun k => k % M) H Q
def spLast (K : PySem.W.Frag) (C : Addr) : Sp := fun vs H Q _ => ∃ b : Nat, vs = [.int (b : Int)] ∧ 2 ≤ b ∧ b ≤ 10 ∧ spKindR K C b (b - 1) (fun k => lastN b k - 1) H Q
def spFirst (K : PySem.W.Frag) (C : Addr) : Sp := fun vs H Q _ => ∃ b : Nat, vs = [.int (b : Int)] ∧ 2 ≤ b ∧ b ≤ 10 ∧ spKindR K C b (b - 1) (fun k => topN b k - 1) H Q
def spSums (K : PySem.W.Frag) (C : Addr) : Sp := fun vs H Q _ => ∃ b M : Nat, vs = [.int (b : Int), .int (M : Int)] ∧ 2 ≤ b ∧ b ≤ 10 ∧ 0 < M ∧ M ≤ 12 ∧ spKindR K C b M (fun k => (digsN b k).sum % M) H Q
def spDigB (K : PySem.W.Frag) : Sp := fun vs H Q _ => ∃ b : Nat, vs = [.int (b : Int)] ∧ 2 ≤ b ∧ b ≤ 10 ∧ ∀ x H', Same H H' → SqT K H' x ((digB b).map vI) → Q (.ref x) H'
section
variable {P : Program} {w : World} {K : PySem.W.Frag} {mg : Str → Option Value} {base : Heap}
abbrev s_digit_boxes : Stmt := topS 6
theorem sc_digit_boxes : FnScope ["base"] ["base"] (defScope s_digit_boxes) := ⟨rfl, rfl, rfl, by decide +kernel, rfl, by decide +kernel, by decide +kernel⟩
theorem ok_digit_boxes {f : Addr} {fd : FuncData} (F : Fun K "_digit_boxes" "_digit_boxes" s_digit_boxes f fd) (gl : mg "_digit_boxes" = some (.ref f)) (T : Bl mg) : DefG P w K mg base 1 "_digit_boxes" ["base"] (spDigB K) := by
  refine def_mk F gl (F.binds fun _ _ _ _ _ _ us hl => match us, hl with | [_], _ => rfl) (okG F sc_digit_boxes (fun vs H Q E h => ?_) fun cdv A outer s H vs Q E hr hc h => ?_)
  · obtain ⟨b, rfl, _⟩ := h
    rfl
  · obtain ⟨b, rfl, b2, bB, q⟩ := h
    have nd := sc_digit_boxes.nd
    refine ⟨_, (pss_one (ps_ret (pe_op (op_catAK (K := K)) (pe_tup (pa_cons pe_int pa_nil)) (pe_tupRg rfl (by rfl) T.tuple (prg_1 (by rfl) T.range (pe_op op_sub (pv 0) pe_int)))))), ?_⟩
    refine ⟨(show 1 ≤ sizeLine from small (by decide)), fun t nt => ⟨_, rfl, _, _, rfl, rfl, _, rfl, RgOk.of_le (by decide) (by omega) (by decide) (by omega), fun u nu => ?_⟩⟩
    have eb : (b : Int) - 1 = ((b - 1 : Nat) : Int) := by omega
    rw [eb, rg0]
    have st : Same H (upd H t (.tup [.int 0])) := Same.new nt
    refine catA_of (xs := [.int 0]) (ys := (List.range (b - 1)).map vI) (tofT (Same.new nu _ _ upd_same)) (tofT upd_same) (by rw [List.length_map, List.length_range]; show 1 + _ ≤ _; omega) fun x H' s' hx => ?_
    exact q x H' (st.trans ((Same.new nu).trans s')) hx
abbrev s_Machine_last : Stmt := inClass (topS 5) 5
theorem sc_Machine_last : FnScope ["base", "steps", "state"] ["base"] (defScope s_Machine_last) := ⟨rfl, rfl, rfl, by decide +kernel, rfl, by decide +kernel, by decide +kernel⟩
theorem ok_last {f C fI : Addr} {fd fdI : FuncData} (F : Fun K "last" "Machine.last" s_Machine_last f fd) (T : Bl mg) (S : Mac K mg C) (MK : Mk K C fI) (FI : FnG P w K mg base CX0 2 fI fdI ["self", "base", "steps", "boxes"] (spMInit K C)) (BI : Binds K fdI ["self", "base", "steps", "boxes"] [])
    (D_digit_boxes : DefG P w K mg base 1 "_digit_boxes" ["base"] (spDigB K)) : FnG P w K mg base CX0 4 f fd ["base"] (spLast K C) := by
  refine okG F sc_Machine_last (fun vs H Q E h => ?_) fun cdv A outer s H vs Q E hr hc h => ?_
  · obtain ⟨b, rfl, _⟩ := h
    rfl
  · obtain ⟨b, rfl, b2, bB, q⟩ := h
    have nd := sc_Machine_last.nd
    refine ⟨_, (pss_cons (ps_set (i := 1) nd rfl (by first | exact Or.inl rfl | exact Or.inr rfl) (pe_op op_cat (pe_lst (pa_cons (pe_tupRg rfl (by rfl) T.tuple (prg_1 (by rfl) T.range (pv 0))) pa_nil)) (pe_lc (own := [("state", 2)]) (g := (gName 2)) (tt := tYes) rfl nd (pi_range2 (by rfl) T.range (pa_cons pe_int (pa_cons (pv 0) pa_nil))) (blkOk_by (own := [("state", 2)]) (N := ["base", "steps", "state"]) (sc := defScope s_Machine_last) (by decide +kernel)) (fun _ _ _ _ _ => (pg_name (i := 2) nd rfl (by first | exact Or.inl rfl | exact Or.inr rfl))) (fun _ _ _ _ _ => pts_nil) (fun _ _ _ _ _ => (pe_op (op_repPK (K := K)) (pe_tup (pa_cons (pv 2) pa_nil)) (pv 0))))))
      (pss_one (ps_ret (pe_makeG MK FI (hr.mono (by decide)) hc (by rfl) S.mgC BI .nil pass0 (pa_cons (pv 0) (pa_cons (pe_tupleOf (by rfl) T.tuple (pv 1)) (pa_cons (pe_def D_digit_boxes (hr.mono (by decide)) hc (by rfl) (pa_cons (pv 0) pa_nil)) pa_nil))))))), ?_⟩
    refine ⟨_, rfl, _, rfl, RgOk.of_le (by decide) (by omega) (by decide) (by omega), fun t nt => ?_⟩
    rw [rg0]
    have st : Same H (upd H t (.tup ((List.range b).map vI))) := Same.new nt
    refine ⟨(show 1 ≤ sizeLine from small (by decide)), fun l1 nl1 => ?_⟩
    have s1 := st.trans (Same.new (o := .lst [.ref t]) nl1)
    have ht1 : upd (upd H t (.tup ((List.range b).map vI))) l1 (.lst [.ref t]) t = some (.tup ((List.range b).map vI)) := Same.new nl1 _ _ upd_same
    have hl1 : upd (upd H t (.tup ((List.range b).map vI))) l1 (.lst [.ref t]) l1 = some (.lst [.ref t]) := upd_same
    revert s1 ht1 hl1
    generalize upd (upd H t (.tup ((List.range b).map vI))) l1 (.lst [.ref t]) = H1
    intro s1 ht1 hl1
    refine ⟨_, rfl, 1, (b : Int), rfl, ⟨by decide, by decide, by omega, by omega⟩, fun D nD => ?_⟩
    rw [show ((b : Int) - 1).toNat = b - 1 by omega]
    refine lc_range (fun i Hy => ∃ rs, Same H1 Hy ∧ Lie Hy D rs (((List.range (b - 1)).take i).map fun i => List.replicate b (i + 1))) ⟨[], Same.new nD, Lie.nil upd_same⟩ ?_ ?_
    · rintro i Hy hi ⟨rs, s2, L⟩
      refine ⟨rfl, _, rfl, (show 1 ≤ sizeLine from small (by decide)), fun u nu => ?_⟩
      refine ⟨_, rfl, u, (b : Int), [.int (1 + (i : Int))], rfl, rfl, tofT upd_same, (fun z => nomatch z), by omega, by omega, (show 1 ≤ 1000 by decide), fun z => absurd z (by omega), fun _ v nv => ?_⟩
      have su : Same Hy (upd (upd Hy u (.tup [.int (1 + (i : Int))])) v (.tup (List.replicate (b : Int).toNat [V.int (1 + (i : Int))]).flatten)) := (Same.new nu).trans (Same.new nv)
      have ev : (List.replicate (b : Int).toNat [V.int (1 + (i : Int))]).flatten = (List.replicate b (i + 1)).map vI := by
        rw [Int.toNat_natCast, rep1, List.map_replicate, show V.int (1 + (i : Int)) = vI (i + 1) by show V.int _ = V.int ((i + 1 : Nat) : Int); congr 1; omega]
      have hv : upd (upd Hy u (.tup [.int (1 + (i : Int))])) v (.tup (List.replicate (b : Int).toNat [V.int (1 + (i : Int))]).flatten) v = some (.tup ((List.replicate b (i + 1)).map vI)) := by rw [upd_same, ev]
      have L2 := L.same su
      have et : ((List.range (b - 1)).take (i + 1)).map (fun i => List.replicate b (i + 1)) = ((List.range (b - 1)).take i).map (fun i => List.replicate b (i + 1)) ++ [List.replicate b (i + 1)] := by
        rw [List.take_add_one, List.getElem?_range hi, List.map_append]; rfl
      refine ⟨_, L2.at_, ?_, rs ++ [v], fun q o hq => ?_, ?_⟩
      · rw [List.length_map, L.len, List.length_map, List.length_take]; exact smallt (by omega)
      · rw [upd_ne (ne_of_none hq nD)]
        exact su _ _ (s2 _ _ hq)
      · rw [et]
        exact L2.snoc hv
    · rintro Hy ⟨rs, s2, L⟩
      rw [List.take_of_length_le (by rw [List.length_range]; exact Nat.le_refl _)] at L
      have lr : rs.length = b - 1 := by rw [L.len, List.length_map, List.length_range]
      refine ⟨l1, D, _, _, rfl, rfl, s2 _ _ hl1, L.at_, by rw [List.length_map, lr]; exact small (by show 1 + _ ≤ _; omega), fun l nl => ?_⟩
      have L2 : Lie _ l (t :: rs) (lastS b) := L.cons (s2 _ _ ht1) nl
      have sl := s1.trans (s2.trans (Same.new (o := .lst ([V.ref t] ++ rs.map V.ref)) nl))
      refine ⟨_, rfl, _, rfl, .inl ⟨l, _, rfl, tofL L2.at_, fun ta nta => ⟨_, rfl, b, rfl, b2, bB, fun x H' sx hx p dx np ndx ne => ?_⟩⟩⟩
      have sa := sl.trans ((Same.new nta).trans sx)
      exact made (kind_last b2 bB) b2 bB ((L2.grid nta).same sx) hx np ndx ne fun Hr MA sr => q p _ _ _ Hr MA (kind_last b2 bB) (sa.trans sr) (sa.free np)
abbrev s_Machine_first : Stmt := inClass (topS 5) 6
theorem sc_Machine_first : FnScope ["base", "steps", "state"] ["base"] (defScope s_Machine_first) := ⟨rfl, rfl, rfl, by decide +kernel, rfl, by decide +kernel, by decide +kernel⟩
theorem ok_first {f C fI : Addr} {fd fdI : FuncData} (F : Fun K "first" "Machine.first" s_Machine_first f fd) (T : Bl mg) (S : Mac K mg C) (MK : Mk K C fI) (FI : FnG P w K mg base CX0 2 fI fdI ["self", "base", "steps", "boxes"] (spMInit K C)) (BI : Binds K fdI ["self", "base", "steps", "boxes"] [])
    (D_digit_boxes : DefG P w K mg base 1 "_digit_boxes" ["base"] (spDigB K)) : FnG P w K mg base CX0 4 f fd ["base"] (spFirst K C) := by
  refine okG F sc_Machine_first (fun vs H Q E h => ?_) fun cdv A outer s H vs Q E hr hc h => ?_
  · obtain ⟨b, rfl, _⟩ := h
    rfl
  · obtain ⟨b, rfl, b2, bB, q⟩ := h
    have nd := sc_Machine_first.nd
    refine ⟨_, (pss_cons (ps_setLc (i := 1) (own := [("state", 2)]) (g := (gName 2)) (tt := tYes) rfl nd rfl rfl (sw_true rfl rfl rfl (by decide +kernel)) (pi_range1 (by rfl) T.range (pa_cons (pv 0) pa_nil)) (blkOk_by (own := [("state", 2)]) (N := ["base", "steps", "state"]) (sc := defScope s_Machine_first) (by decide +kernel)) (fun _ _ _ _ _ => (pg_name (i := 2) nd rfl (by first | exact Or.inl rfl | exact Or.inr rfl))) (fun _ _ _ _ _ => pts_nil) (fun _ _ _ _ _ => (pe_op (op_catAK (K := K)) (pe_tup (pa_cons (pv 2) pa_nil)) (pe_tupRg rfl (by rfl) T.tuple (prg_2 (by rfl) T.range pe_int (pv 0))))))
      (pss_one (ps_ret (pe_makeG MK FI (hr.mono (by decide)) hc (by rfl) S.mgC BI .nil pass0 (pa_cons (pv 0) (pa_cons (pe_tupleOf (by rfl) T.tuple (pv 1)) (pa_cons (pe_def D_digit_boxes (hr.mono (by decide)) hc (by rfl) (pa_cons (pv 0) pa_nil)) pa_nil))))))), ?_⟩
    refine ⟨_, rfl, (b : Int), rfl, by omega, by omega, fun D nD => ?_⟩
    rw [Int.toNat_natCast]
    refine lc_range (fun i Hy => ∃ rs, Same H Hy ∧ Lie Hy D rs (((List.range b).take i).map fun s => s :: (List.range (b - 1)).map fun i => i + 1)) ⟨[], Same.new nD, Lie.nil upd_same⟩ ?_ ?_
    · rintro i Hy hi ⟨rs, s2, L⟩
      refine ⟨rfl, _, rfl, (show 1 ≤ sizeLine from small (by decide)), fun u nu => ?_⟩
      refine ⟨_, rfl, 1, (b : Int), rfl, rfl, RgOk.of_le (by decide) (by omega) (by decide) (by omega), fun v nv => ?_⟩
      rw [rg1]
      refine ⟨u, v, [.int (0 + (i : Int))], ((List.range (b - 1)).map fun i => i + 1).map vI, rfl, rfl, tofT (Same.new nv _ _ upd_same), tofT upd_same, small (by rw [List.length_map, List.length_map, List.length_range]; show 1 + _ ≤ _; omega), fun e => (by cases e), fun _ e => ?_, fun _ _ z nz => ?_⟩
      · have := congrArg List.length e
        rw [List.length_map, List.length_map, List.length_range] at this
        simp at this
        omega
      · have su : Same Hy _ := (Same.new (o := .tup [.int (0 + (i : Int))]) nu).trans ((Same.new nv).trans (Same.new (o := .tup ([V.int (0 + (i : Int))] ++ ((List.range (b - 1)).map fun i => i + 1).map vI)) nz))
        have L2 := L.same su
        have et : ((List.range b).take (i + 1)).map (fun s => s :: (List.range (b - 1)).map fun i => i + 1) = ((List.range b).take i).map (fun s => s :: (List.range (b - 1)).map fun i => i + 1) ++ [i :: (List.range (b - 1)).map fun i => i + 1] := by
          rw [List.take_add_one, List.getElem?_range hi, List.map_append]; rfl
        refine ⟨_, L2.at_, ?_, rs ++ [z], fun q o hq => ?_, ?_⟩
        · rw [List.length_map, L.len, List.length_map, List.length_take]; exact smallt (by omega)
        · rw [upd_ne (ne_of_none hq nD)]
          exact su _ _ (s2 _ _ hq)
        · rw [et]
          refine L2.snoc ?_
          rw [upd_same, Int.zero_add]; rfl
    · rintro Hy ⟨rs, s2, L⟩
      rw [List.take_of_length_le (by rw [List.length_range]; exact Nat.le_refl _)] at L
      have L : Lie Hy D rs (firstS b) := L
      refine ⟨_, rfl, _, rfl, .inl ⟨D, _, rfl, tofL L.at_, fun ta nta => ⟨_, rfl, b, rfl, b2, bB, fun x H' sx hx p dx np ndx ne => ?_⟩⟩⟩
      have sa := s2.trans ((Same.new nta).trans sx)
      exact made (kind_first b2 bB) b2 bB ((L.grid nta).same sx) hx np ndx ne fun Hr MA sr => q p _ _ _ Hr MA (kind_first b2 bB) (sa.trans sr) (sa.free np)
abbrev s_Machine_sums : Stmt := inClass (topS 5) 7
theorem sc_Machine_sums : FnScope ["base", "modulus", "steps", "digit", "state"] ["base", "modulus"] (defScope s_Machine_sums) := ⟨rfl, rfl, rfl, by decide +kernel, rfl, by decide +kernel, by decide +kernel⟩
theorem ok_sums {f C fI : Addr} {fd fdI : FuncData} (F : Fun K "sums" "Machine.sums" s_Machine_sums f fd) (T : Bl mg) (S : Mac K mg C) (MK : Mk K C fI) (FI : FnG P w K mg base CX0 2 fI fdI ["self", "base", "steps", "boxes"] (spMInit K C)) (BI : Binds K fdI ["self", "base", "steps", "boxes"] []) : FnG P w K mg base CX0 4 f fd ["base", "modulus"] (spSums K C) := by
  refine okG F sc_Machine_sums (fun vs H Q E h => ?_) fun cdv A outer s H vs Q E hr hc h => ?_
  · obtain ⟨b, M, rfl, _⟩ := h
    rfl
  · obtain ⟨b, M, rfl, b2, bB, M0, MB, q⟩ := h
    have nd := sc_Machine_sums.nd
    refine ⟨_, (pss_cons (ps_setLc (i := 2) (own := [("state", 4)]) (g := (gName 4)) (tt := tYes) rfl nd rfl rfl (sw_true rfl rfl rfl (by decide +kernel)) (pi_range1 (by rfl) T.range (pa_cons (pv 1) pa_nil)) (blkOk_by (own := [("state", 4)]) (N := ["base", "modulus", "steps", "digit", "state"]) (sc := defScope s_Machine_sums) (by decide +kernel)) (fun _ _ _ _ _ => (pg_name (i := 4) nd rfl (by first | exact Or.inl rfl | exact Or.inr rfl))) (fun _ _ _ _ _ => pts_nil) (fun _ _ _ _ _ => (pe_tupleOfK (K := K) (by rfl) T.tuple (pe_lc (own := [("digit", 3)]) (g := (gName 3)) (tt := tYes) rfl nd (pi_range1 (by rfl) T.range (pa_cons (pv 0) pa_nil)) (blkOk_by (own := [("digit", 3)]) (by with_unfolding_all rfl)) (fun _ _ _ _ _ => (pg_name (i := 3) nd rfl (by first | exact Or.inl rfl | exact Or.inr rfl))) (fun _ _ _ _ _ => pts_nil) (fun _ _ _ _ _ => (pe_op op_mod (pe_op op_add (pv 4) (pv 3)) (pv 1)))))))
      (pss_one (ps_ret (pe_makeG MK FI (hr.mono (by decide)) hc (by rfl) S.mgC BI .nil pass0 (pa_cons (pv 0) (pa_cons (pe_tupleOf (by rfl) T.tuple (pv 2)) (pa_cons (pe_tupRg rfl (by rfl) T.tuple (prg_1 (by rfl) T.range (pv 1))) pa_nil))))))), ?_⟩
    refine ⟨_, rfl, (M : Int), rfl, by omega, by omega, fun D nD => ?_⟩
    rw [Int.toNat_natCast]
    refine lc_range (fun i Hy => ∃ rs, Same H Hy ∧ Lie Hy D rs (((List.range M).take i).map fun s => (List.range b).map fun d => (s + d) % M)) ⟨[], Same.new nD, Lie.nil upd_same⟩ ?_ ?_
    · rintro i Hy hi ⟨rs, s2, L⟩
      refine ⟨rfl, _, rfl, (b : Int), rfl, by omega, by omega, fun D2 nD2 => ?_⟩
      rw [Int.toNat_natCast]
      refine lc_range (fun j Hz => Same Hy Hz ∧ Hz D2 = some (.lst ((((List.range b).take j).map fun d => (i + d) % M).map vI))) ⟨Same.new nD2, upd_same⟩ ?_ ?_
      · rintro j Hz hj ⟨s3, h3⟩
        refine ⟨rfl, _, rfl, _, rfl, _, _, rfl, rfl, _, rfl, _, _, rfl, rfl, (show (0 : Int) < (M : Int) by omega), _, h3, ?_, ?_, ?_⟩
        · rw [List.length_map, List.length_map, List.length_take]; exact smallt (by omega)
        · intro u o hu
          rw [upd_ne (ne_of_none hu nD2)]
          exact s3 _ _ hu
        · rw [upd_same, List.take_add_one, List.getElem?_range hj, List.map_append, List.map_append, Int.zero_add, Int.zero_add]; rfl
      · rintro Hz ⟨s3, h3⟩
        rw [List.take_of_length_le (by rw [List.length_range]; exact Nat.le_refl _)] at h3
        refine .inl ⟨D2, _, rfl, tofL h3, fun u nu => ?_⟩
        have su := s3.trans (Same.new (o := .tup (((List.range b).map fun d => (i + d) % M).map vI)) nu)
        have L2 := L.same su
        have et : ((List.range M).take (i + 1)).map (fun s => (List.range b).map fun d => (s + d) % M) = ((List.range M).take i).map (fun s => (List.range b).map fun d => (s + d) % M) ++ [(List.range b).map fun d => (i + d) % M] := by
          rw [List.take_add_one, List.getElem?_range hi, List.map_append]; rfl
        refine ⟨_, L2.at_, ?_, rs ++ [u], fun q o hq => ?_, ?_⟩
        · rw [List.length_map, L.len, List.length_map, List.length_take]; exact smallt (by omega)
        · rw [upd_ne (ne_of_none hq nD)]
          exact su _ _ (s2 _ _ hq)
        · rw [et]
          exact L2.snoc upd_same
    · rintro Hy ⟨rs, s2, L⟩
      rw [List.take_of_length_le (by rw [List.length_range]; exact Nat.le_refl _)] at L
      have L : Lie Hy D rs (sumS b M) := L
      refine ⟨_, rfl, _, rfl, .inl ⟨D, _, rfl, tofL L.at_, fun ta nta => ⟨_, rfl, _, rfl, RgOk.of_le (by decide) (by omega) (by decide) (by omega), fun x nx p dx np ndx ne => ?_⟩⟩⟩
      rw [rg0] at *
      have sx := Same.new (o := .tup ((List.range M).map vI)) nx
      have sa := s2.trans ((Same.new nta).trans sx)
      exact made (kind_sum b2 M0 MB) b2 bB ((L.grid nta).same sx) (tofT upd_same) np ndx ne fun Hr MA sr => q p _ _ _ Hr MA (kind_sum b2 M0 MB) (sa.trans sr) (sa.free np)
end
end NK39
namespace NK39
open PySem PySem.Spec PyProof.Rows L2 GL G3 MA DG
/-- weights found so far -/
structure WtsP (ws : List Nat) (b M : Nat) : Prop where
  hd : ws[0]? = some (1 % M)
  cl : ∀ w ∈ ws.dropLast, w * b % M ∈ ws
  lt : ∀ w ∈ ws, w < M
  nd : ws.Nodup
theorem WtsP.ne {ws : List Nat} {b M : Nat} (h : WtsP ws b M) : ws ≠ [] := fun z => by have := h.hd; rw [z] at this; cases this
theorem WtsP.add {ws : List Nat} {b M w : Nat} {ws0 : List Nat} (h : WtsP ws b M) (e : ws = ws0 ++ [w]) (hM : 0 < M) (no : w * b % M ∉ ws) : WtsP (ws ++ [w * b % M]) b M where
  hd := by
    rw [List.getElem?_append_left (List.length_pos_iff.mpr h.ne)]; exact h.hd
  cl := fun x hx => by
    rw [List.dropLast_concat] at hx
    rw [e] at hx
    rcases List.mem_append.mp hx with hx | hx
    · exact List.mem_append_left _ (h.cl x (by rw [e, List.dropLast_concat]; exact hx))
    · rw [List.mem_singleton.mp hx]; exact List.mem_append_right _ (List.mem_singleton_self _)
  lt := fun x hx => by
    rcases List.mem_append.mp hx with hx | hx
    · exact h.lt x hx
    · rw [List.mem_singleton.mp hx]; exact Nat.mod_lt _ hM
  nd := List.nodup_append.mpr ⟨h.nd, List.pairwise_singleton _ _, fun a ha c hc z => by
    rw [List.mem_singleton.mp hc] at z
    exact no (z ▸ ha)⟩
theorem WtsP.done {ws : List Nat} {b M w : Nat} {ws0 : List Nat} (h : WtsP ws b M) (e : ws = ws0 ++ [w]) (yes : w * b % M ∈ ws) : Wts ws b M where
  hd := h.hd
  cl := fun x hx => by
    rw [e] at hx
    rcases List.mem_append.mp hx with hx | hx
    · exact h.cl x (by rw [e, List.dropLast_concat]; exact hx)
    · rw [List.mem_singleton.mp hx]; exact yes
  lt := h.lt
  nd := h.nd
theorem snoc_ex {α : Type} {L : List α} (h : L ≠ []) : ∃ L0 c, L = L0 ++ [c] := ⟨L.dropLast, L.getLast h, (List.dropLast_concat_getLast h).symm⟩
theorem modrow_take (ws : List Nat) (b M w r j : Nat) (hj : j < b) : ((List.range b).take (j + 1)).map (fun d => pos ws (w * b % M) * M + (r + d * w) % M) = ((List.range b).take j).map (fun d => pos ws (w * b % M) * M + (r + d * w) % M) ++ [pos ws (w * b % M) * M + (r + j * w) % M] := by
  rw [List.take_add_one, List.getElem?_range hj, List.map_append]; rfl
section
variable {P : Program} {w : World} {K : PySem.W.Frag} {mg : Str → Option Value} {base : Heap}
abbrev s_Machine_modulo : Stmt := inClass (topS 5) 4
theorem sc_Machine_modulo : FnScope ["base", "modulus", "weights", "steps", "weight", "ahead", "rest", "digit"] ["base", "modulus"] (defScope s_Machine_modulo) := ⟨rfl, rfl, rfl, by decide +kernel, rfl, by decide +kernel, by decide +kernel⟩
theorem ok_modulo {f C fI : Addr} {fd fdI : FuncData} (F : Fun K "modulo" "Machine.modulo" s_Machine_modulo f fd) (T : Bl mg) (S : Mac K mg C) (MK : Mk K C fI) (FI : FnG P w K mg base CX0 2 fI fdI ["self", "base", "steps", "boxes"] (spMInit K C)) (BI : Binds K fdI ["self", "base", "steps", "boxes"] []) : FnG P w K mg base CX0 4 f fd ["base", "modulus"] (spModulo K C) := by
  refine okG F sc_Machine_modulo (fun vs H Q E h => ?_) fun cdv A outer s H vs Q E hr hc h => ?_
  · obtain ⟨b, M, rfl, _⟩ := h
    rfl
  · obtain ⟨b, M, rfl, b2, bB, M0, MB, q⟩ := h
    have nd := sc_Machine_modulo.nd
    have iM : (0 : Int) < (M : Int) := by omega
    refine ⟨_, (pss_cons (ps_set (i := 2) nd rfl (by first | exact Or.inl rfl | exact Or.inr rfl) (pe_lst (pa_cons (pe_op op_mod pe_int (pv 1)) pa_nil)))
      (pss_cons (ps_while PassesOwn.never (pt_cmpR (op_notInK (K := K)) (pe_op op_mod (pe_op op_mul (pe_ix ix_list (pv 2) (pe_un un_neg pe_int) (fun _ _ => rfl)) (pv 0)) (pv 1)) (pv 2) (by with_unfolding_all rfl))
        (pss_one (ps_expr (pe_bm PySem.F.plainAttrs_list PySem.F.slot_list_append PySem.F.type_list_append mt_append (pv 2) (pa_cons (pe_op op_mod (pe_op op_mul (pe_ix ix_list (pv 2) (pe_un un_neg pe_int) (fun _ _ => rfl)) (pv 0)) (pv 1)) pa_nil)))))
      (pss_cons (ps_set (i := 3) nd rfl (by first | exact Or.inl rfl | exact Or.inr rfl) (pe_lst pa_nil))
      (pss_cons (ps_for PassesOwn.never rfl (pi_list (pv 2)) (pg_name (i := 4) nd rfl (by first | exact Or.inl rfl | exact Or.inr rfl))
        (pss_cons (ps_set (i := 5) nd rfl (by first | exact Or.inl rfl | exact Or.inr rfl) (pe_op op_mul (pe_bm PySem.F.plainAttrs_list PySem.F.slot_list_index PySem.F.type_list_index mt_index (pv 2) (pa_cons (pe_op op_mod (pe_op op_mul (pv 4) (pv 0)) (pv 1)) pa_nil)) (pv 1)))
        (pss_one (ps_for PassesOwn.never rfl (pi_range1 (by rfl) T.range (pa_cons (pv 1) pa_nil)) (pg_name (i := 6) nd rfl (by first | exact Or.inl rfl | exact Or.inr rfl))
          (pss_one (ps_expr (pe_bm PySem.F.plainAttrs_list PySem.F.slot_list_append PySem.F.type_list_append mt_append (pv 3) (pa_cons (pe_tupleOf (by rfl) T.tuple (pe_lc (own := [("digit", 7)]) (g := (gName 7)) (tt := tYes) rfl nd (pi_range1 (by rfl) T.range (pa_cons (pv 0) pa_nil)) (blkOk_by (own := [("digit", 7)]) (N := ["base", "modulus", "weights", "steps", "weight", "ahead", "rest", "digit"]) (sc := defScope s_Machine_modulo) (by decide +kernel)) (fun _ _ _ _ _ => (pg_name (i := 7) nd rfl (by first | exact Or.inl rfl | exact Or.inr rfl))) (fun _ _ _ _ _ => pts_nil) (fun _ _ _ _ _ => (pe_op op_add (pv 5) (pe_op op_mod (pe_op op_add (pv 6) (pe_op op_mul (pv 7) (pv 4))) (pv 1)))))) pa_nil))))))))
      (pss_one (ps_ret (pe_makeG MK FI (hr.mono (by decide)) hc (by rfl) S.mgC BI .nil pass0 (pa_cons (pv 0) (pa_cons (pe_tupleOf (by rfl) T.tuple (pv 3)) (pa_cons (pe_op (op_repPK (K := K)) (pe_tupRg rfl (by rfl) T.tuple (prg_1 (by rfl) T.range (pv 1))) (pe_callB call_len_seq (by rfl) T.len boot_len (pa_cons (pv 2) pa_nil))) pa_nil)))))))))), ?_⟩
    refine ⟨_, rfl, 1, (M : Int), rfl, rfl, iM, (show 1 ≤ sizeLine from small (by decide)), fun pw npw => ?_⟩
    have w1 : WtsP [1 % M] b M := ⟨rfl, fun x hx => (by cases hx), fun x hx => by rw [List.mem_singleton.mp hx]; exact Nat.mod_lt _ M0, List.pairwise_singleton _ _⟩
    refine ⟨fun m σ Hx => ∃ ws : List Nat, σ = [some (.int (b : Int)), some (.int (M : Int)), some (.ref pw), none, none, none, none, none] ∧ (∀ q o, H q = some o → Hx q = some o) ∧ Hx pw = some (.lst (ws.map vI)) ∧ WtsP ws b M ∧ m + ws.length = M + 1, ⟨M, [1 % M], rfl, Same.new npw, upd_same, w1, rfl⟩, ?_⟩
    rintro m σ Hx ⟨ws, rfl, sx, hW, wp, em⟩
    have lw : ws.length ≤ M := nodup_len M ws wp.nd wp.lt
    obtain ⟨ws0, w0, ew⟩ := snoc_ex wp.ne
    have hlast : atI (ws.map vI) (-1) = some (vI w0) := by rw [ew]; exact last_vI _ _
    have w0M : w0 < M := wp.lt w0 (by rw [ew]; exact List.mem_append_right _ (List.mem_singleton_self _))
    have cm : CMul (w0 : Int) (b : Int) := mul_smallR (by omega) (by omega)
    refine ⟨_, rfl, 1, rfl, pw, _, -1, _, rfl, rfl, tofL hW, hlast, _, rfl, _, _, rfl, rfl, cm, _, rfl, _, _, rfl, rfl, iM, _, rfl, pw, _, rfl, .inl (tofL hW), rfl, flat_nats ws, _, rfl, ?_⟩
    have ein : inV (.int ((w0 : Int) * (b : Int) % (M : Int))) (ws.map vI) = decide (w0 * b % M ∈ ws) := inV_nats ws (w0 * b % M)
    refine ite2 (fun e => ?_) (fun e => ?_)
    · have no : w0 * b % M ∉ ws := fun z => by
        have e' : (!inV (.int ((w0 : Int) * (b : Int) % (M : Int))) (ws.map vI)) = true := e
        rw [ein, decide_eq_true z] at e'
        cases e'
      refine ⟨fun σ' H' => ∃ m', m' < m ∧ ∃ ws : List Nat, σ' = [some (.int (b : Int)), some (.int (M : Int)), some (.ref pw), none, none, none, none, none] ∧ (∀ q o, H q = some o → H' q = some o) ∧ H' pw = some (.lst (ws.map vI)) ∧ WtsP ws b M ∧ m' + ws.length = M + 1, fun _ _ h => h, ?_⟩
      refine ⟨_, rfl, ty_l (tofL hW), _, rfl, 1, rfl, pw, _, -1, _, rfl, rfl, tofL hW, hlast, _, rfl, _, _, rfl, rfl, cm, _, rfl, _, _, rfl, rfl, iM, pw, _, _, rfl, rfl, hW, by rw [List.length_map]; exact smallt (by omega), ?_⟩
      refine ⟨m - 1, by omega, ws ++ [w0 * b % M], rfl, fun q o hq => ?_, ?_, wp.add ew M0 no, by rw [List.length_append]; show m - 1 + (ws.length + 1) = _; omega⟩
      · rw [upd_ne (ne_of_none hq npw)]; exact sx q o hq
      · rw [upd_same, List.map_append]; rfl
    · have yes : w0 * b % M ∈ ws := Classical.byContradiction fun z => e (by
        show (!inV (.int ((w0 : Int) * (b : Int) % (M : Int))) (ws.map vI)) = true
        rw [ein, decide_eq_false z]; rfl)
      have W := wp.done ew yes
      have sx : Same H Hx := sx
      -- steps
      refine ⟨Nat.zero_le _, fun l nl => ?_⟩
      have nwl : pw ≠ l := ne_of_none hW nl
      have sl := sx.trans (Same.new (o := .lst []) nl)
      refine ⟨_, rfl, pw, rfl, ⟨_, tofL (by rw [upd_ne nwl]; exact hW)⟩, for_list (K := K) (a := pw) (xs := ws.map vI) (fun i σ Hy => ∃ (rs : List Addr) (v4 v5 v6 : Option V), σ = [some (.int (b : Int)), some (.int (M : Int)), some (.ref pw), some (.ref l), v4, v5, v6, none] ∧ Same Hx Hy ∧ Lie Hy l rs ((ws.take i).flatMap (modRows ws b M)))
        ⟨[], none, none, none, rfl, Same.new nl, Lie.nil upd_same⟩ (fun i σ Hy _ ⟨_, _, _, _, _, sy, _⟩ => tofL (sy _ _ hW)) ?_ ?_⟩
      · rintro i y σ Hy hi ⟨rs, v4, v5, v6, rfl, sy, L⟩
        rw [List.getElem?_map] at hi
        obtain ⟨wt, hwt, rfl⟩ := Option.map_eq_some_iff.mp hi
        have il := (List.getElem?_eq_some_iff.mp hwt).1
        have wM := wp.lt wt (List.mem_of_getElem? hwt)
        have win : wt * b % M ∈ ws := W.cl wt (List.mem_of_getElem? hwt)
        have pl := pos_lt win
        have hWy := sy _ _ hW
        have cw : CMul (wt : Int) (b : Int) := mul_smallR (by omega) (by omega)
        refine ⟨_, rfl, ty_l (tofL hWy), _, rfl, _, rfl, _, _, rfl, rfl, cw, _, rfl, _, _, rfl, rfl, iM, pw, _, _, pos ws (wt * b % M), vI (wt * b % M), rfl, rfl, tofL hWy, rfl, flat_nats ws, by rw [List.getElem?_map, pos_at win]; rfl, (by show (((wt * b % M : Nat) : Int) == ((wt * b % M : Nat) : Int)) = true; simp), fun m' z' hm hz => ?_, _, rfl, _, _, rfl, rfl, mul_smallR (by omega) (by omega), ?_⟩
        · rw [List.getElem?_map] at hz
          obtain ⟨u, hu, rfl⟩ := Option.map_eq_some_iff.mp hz
          have : u ≠ wt * b % M := fun z => pos_none hm (z ▸ hu)
          show (((u : Nat) : Int) == ((wt * b % M : Nat) : Int)) = false
          exact beq_eq_false_iff_ne.mpr fun z => this (by omega)
        refine ⟨_, rfl, (M : Int), rfl, by omega, by omega, ?_⟩
        rw [Int.toNat_natCast]
        have lS : ∀ r, r ≤ M → ((ws.take i).flatMap (modRows ws b M)).length + r ≤ 200 := fun r hr => by
          rw [block_len _ M _ fun w _ => modRows_len w, List.length_take]
          have : min i ws.length * M ≤ 12 * 12 := Nat.mul_le_mul (by omega) MB
          omega
        refine for_range (fun r σ Hz => ∃ (rs : List Addr) (v6 : Option V), σ = [some (.int (b : Int)), some (.int (M : Int)), some (.ref pw), some (.ref l), some (vI wt), some (.int (((pos ws (wt * b % M) * M : Nat)) : Int)), v6, none] ∧ Same Hx Hz ∧ Lie Hz l rs ((ws.take i).flatMap (modRows ws b M) ++ (modRows ws b M wt).take r)) ⟨rs, v6, rfl, sy, by rw [List.take_zero, List.append_nil]; exact L⟩ ?_ ?_
        · rintro r σ Hz hr' ⟨rs, v6, rfl, sz, L⟩
          refine ⟨_, rfl, ty_l (tofL L.at_), _, rfl, (b : Int), rfl, by omega, by omega, fun D nD => ?_⟩
          rw [Int.toNat_natCast]
          refine lc_range (fun j Hu => Same Hz Hu ∧ Hu D = some (.lst ((((List.range b).take j).map fun d => pos ws (wt * b % M) * M + (r + d * wt) % M).map vI))) ⟨Same.new nD, upd_same⟩ ?_ ?_
          · rintro j Hu hj ⟨s3, h3⟩
            refine ⟨rfl, _, rfl, _, rfl, _, rfl, _, rfl, _, _, rfl, rfl, mul_smallR (by omega) (by omega), _, _, rfl, rfl, _, rfl, _, _, rfl, rfl, iM, _, _, rfl, rfl, _, h3, ?_, ?_, ?_⟩
            · rw [List.length_map, List.length_map, List.length_take]; exact smallt (by omega)
            · intro u o hu
              rw [upd_ne (ne_of_none hu nD)]
              exact s3 _ _ hu
            · rw [upd_same, modrow_take ws b M wt r j hj, List.map_append, Int.zero_add, Int.zero_add]; rfl
          · rintro Hu ⟨s3, h3⟩
            rw [List.take_of_length_le (by rw [List.length_range]; exact Nat.le_refl _)] at h3
            refine .inl ⟨D, _, rfl, tofL h3, fun u nu => ?_⟩
            have su := s3.trans (Same.new (o := .tup ((modRow ws b M wt r).map vI)) nu)
            have L2 := L.same su
            have et : (ws.take i).flatMap (modRows ws b M) ++ (modRows ws b M wt).take (r + 1) = ((ws.take i).flatMap (modRows ws b M) ++ (modRows ws b M wt).take r) ++ [modRow ws b M wt r] := by
              rw [List.take_add_one, List.append_assoc]
              congr 2
              unfold modRows
              rw [List.getElem?_map, List.getElem?_range hr']; rfl
            refine ⟨l, _, _, rfl, rfl, L2.at_, ?_, rs ++ [u], _, rfl, fun q o hq => ?_, ?_⟩
            · rw [List.length_map, L.len, List.length_append, List.length_take, modRows_len]
              have := lS (min r M) (Nat.min_le_right _ _)
              exact smallt (by omega)
            · rw [upd_ne (ne_of_none hq nl)]
              exact su _ _ (sz _ _ hq)
            · rw [et]
              exact L2.snoc upd_same
        · rintro σ Hz ⟨rs, v6, rfl, sz, L⟩
          refine ⟨rs, _, _, _, rfl, sz, ?_⟩
          rw [show (modRows ws b M wt).take M = modRows ws b M wt from List.take_of_length_le (by rw [modRows_len]; exact Nat.le_refl _)] at L
          rw [List.take_add_one, hwt, List.flatMap_append]
          show Lie Hz l rs (_ ++ (modRows ws b M wt ++ []))
          rw [List.append_nil]
          exact L
      · rintro σ Hy ⟨rs, v4, v5, v6, rfl, sy, L⟩
        rw [List.length_map, List.take_length] at L
        have L : Lie Hy l rs (modS ws b M) := L
        have kd := kind_mod W b2 M0 MB (by omega)
        refine ⟨_, rfl, _, rfl, .inl ⟨l, _, rfl, tofL L.at_, fun ta nta => ?_⟩⟩
        have g1 := L.grid (K := K) nta
        have s1 := sx.trans (sy.trans (Same.new (o := .tup (rs.map V.ref)) nta))
        have hW1 := Same.new (o := .tup (rs.map V.ref)) nta _ _ (sy _ _ hW)
        revert g1 s1 hW1
        generalize upd Hy ta (.tup (rs.map V.ref)) = H1
        intro g1 s1 hW1
        refine ⟨_, rfl, _, rfl, RgOk.of_le (by decide) (by omega) (by decide) (by omega), fun tr ntr => ?_⟩
        rw [rg0]
        have s2 := s1.trans (Same.new (o := .tup ((List.range M).map vI)) ntr)
        have hW2 := Same.new (o := .tup ((List.range M).map vI)) ntr _ _ hW1
        have g2 := g1.same (Same.new (o := .tup ((List.range M).map vI)) ntr)
        have htr : upd H1 tr (.tup ((List.range M).map vI)) tr = some (.tup ((List.range M).map vI)) := upd_same
        revert g2 s2 hW2 htr
        generalize upd H1 tr (.tup ((List.range M).map vI)) = H2
        intro s2 hW2 g2 htr
        have l0 : 1 ≤ ws.length := List.length_pos_iff.mpr wp.ne
        refine ⟨_, rfl, pw, _, rfl, .inl (tofL hW2), tr, ((ws.map vI).length : Nat), (List.range M).map vI, rfl, rfl, tofT htr, fun z => ?_, by rw [List.length_map]; omega, by rw [List.length_map]; omega, by rw [List.length_map, List.length_range]; omega, fun e1 p dx np ndx ne => ?_, fun e2 x nx p dx np ndx ne => ?_⟩
        · have := congrArg List.length z
          rw [List.length_map, List.length_range] at this
          simp at this
          omega
        · have e1 : ws.length = 1 := by rw [List.length_map] at e1; omega
          have eB : modB ws M = List.range M := by
            obtain ⟨x, rfl⟩ := List.length_eq_one_iff.mp e1
            show List.range M ++ [] = _
            rw [List.append_nil]
          exact made kd b2 bB g2 (by rw [eB]; exact tofT htr) np ndx ne fun Hr MA sr => q p _ _ _ Hr MA kd (s2.trans sr) (s2.free np)
        · have eB : (List.replicate (((ws.map vI).length : Nat) : Int).toNat ((List.range M).map vI)).flatten = (modB ws M).map vI := by
            rw [Int.toNat_natCast, List.length_map]
            exact rep_flat (β := Nat) ws (List.range M)
          have sx3 := Same.new (o := .tup (List.replicate (((ws.map vI).length : Nat) : Int).toNat ((List.range M).map vI)).flatten) nx
          refine made kd b2 bB (g2.same sx3) (tofT ?_) np ndx ne fun Hr MA sr => q p _ _ _ Hr MA kd ((s2.trans sx3).trans sr) ((s2.trans sx3).free np)
          rw [upd_same, eB]
end
end NK39
namespace NK39
open PySem PySem.Spec PyProof.Rows L2 GL G3 MA DG
def spPower : Sp := fun vs H Q _ => ∃ (b k : Nat), vs = [.int (b : Int), .int (k : Int)] ∧ b ≤ 1000 ∧ k ≤ 100 ∧ Q (.int ((b ^ k : Nat) : Int)) H
def spNumber : Sp := fun vs H Q _ => ∃ (d g : Addr) (b c : Nat), vs = [.ref d, .int (b : Int)] ∧ Dk ks H d g (c + 10) ∧ 2 ≤ b ∧ b ≤ 10 ∧ ∀ (n : Nat) H', 0 < n → n < 2 ^ 300 → Dk ks H' d g c → Mv d g H H' → Q (.int (n : Int)) H'
def spDigits : Sp := fun vs H Q _ => ∃ n b : Nat, vs = [.int (b : Int), .int (n : Int)] ∧ n < 2 ^ 1000 ∧ 2 ≤ b ∧ b ≤ 10 ∧ ∀ p H', Same H H' → H' p = some (.lst ((digsN b n).map vI)) → Q (.ref p) H'
def duesL (b M n : Nat) : List Nat := [n % M, lastN b n - 1, topN b n - 1, (digsN b n).sum % M]
def spDues : Sp := fun vs H Q _ => ∃ b M n : Nat, vs = [.int (b : Int), .int (M : Int), .int (n : Int)] ∧ 2 ≤ b ∧ b ≤ 10 ∧ 0 < M ∧ 0 < n ∧ n < 2 ^ 300 ∧ ∀ p H', Same H H' → H' p = some (.lst ((duesL b M n).map vI)) → Q (.ref p) H'
def spCalm (K : PySem.W.Frag) (C : Addr) : Sp := fun vs H Q _ => ∃ (p : Addr) (S : Tab) (B : List Nat) (b n m : Nat), vs = [.ref p] ∧ MacAt K C H p S B b n m ∧ (∀ s, s < n → bx B s = bx B (stp S s 0)) ∧ ∀ H', Same H H' → Q (.bl true) H'
theorem lastN_pos {b : Nat} (hb : 2 ≤ b) (n : Nat) (hn : 0 < n) : 0 < lastN b n := by
  induction n using Nat.strongRecOn with
  | ind n ih =>
    by_cases h : n % b = 0
    · rw [lastN_go hb hn h]
      exact ih _ (Nat.div_lt_self hn hb) (div_pos_of hb hn h)
    · rw [lastN_end h]; omega
theorem topN_pos {b : Nat} (hb : 2 ≤ b) (n : Nat) (hn : 0 < n) : 0 < topN b n := by
  induction n using Nat.strongRecOn with
  | ind n ih =>
    rw [top_go hb hn]
    by_cases h : n / b = 0
    · rw [if_pos h]
      have := Nat.div_add_mod n b
      rw [h] at this
      omega
    · rw [if_neg h]
      exact ih _ (Nat.div_lt_self hn hb) (Nat.pos_of_ne_zero h)
theorem sum_cast : ∀ L : List Nat, (L.map fun x : Nat => (x : Int)).sum = ((L.sum : Nat) : Int)
  | [] => rfl
  | x :: r => by rw [List.map_cons, List.sum_cons, List.sum_cons, sum_cast r]; omega
section
variable {P : Program} {w : World} {K : PySem.W.Frag} {mg : Str → Option Value} {base : Heap}
abbrev s_power : Stmt := topS 13
theorem sc_power : FnScope ["_law_radix", "_law_times", "_law_found", "_law_go"] ["_law_radix", "_law_times"] (defScope s_power) := ⟨rfl, rfl, rfl, by decide +kernel, rfl, by decide +kernel, by decide +kernel⟩
theorem ok_power {f : Addr} {fd : FuncData} (F : Fun K "_law_power" "_law_power" s_power f fd) (gl : mg "_law_power" = some (.ref f)) (T : Bl mg) : DefG P w K mg base 1 "_law_power" ["_law_radix", "_law_times"] spPower := by
  refine def_mk F gl (F.binds fun _ _ _ _ _ _ us hl => match us, hl with | [_, _], _ => rfl) (okG F sc_power (fun vs H Q E h => ?_) fun cdv A outer s H vs Q E hr hc h => ?_)
  · obtain ⟨b, k, rfl, _⟩ := h
    rfl
  · obtain ⟨b, k, rfl, bB, kB, q⟩ := h
    have nd := sc_power.nd
    refine ⟨_, (pss_cons (ps_set (i := 2) nd rfl (by first | exact Or.inl rfl | exact Or.inr rfl) pe_int)
      (pss_cons (ps_for PassesOwn.never rfl (pi_range1 (by rfl) T.range (pa_cons (pv 1) pa_nil)) (pg_name (i := 3) nd rfl (by first | exact Or.inl rfl | exact Or.inr rfl))
        (pss_one (ps_set (i := 2) nd rfl (by first | exact Or.inl rfl | exact Or.inr rfl) (pe_op op_mul (pv 2) (pv 0)))))
      (pss_one (ps_ret (pv 2))))), ?_⟩
    refine ⟨_, rfl, (k : Int), rfl, by omega, by omega, ?_⟩
    rw [Int.toNat_natCast]
    refine for_range (fun i σ Hx => Hx = H ∧ ∃ v3 : Option V, σ = [some (.int (b : Int)), some (.int (k : Int)), some (.int ((b ^ i : Nat) : Int)), v3]) ⟨rfl, none, rfl⟩ ?_ ?_
    · rintro i σ Hx hi ⟨rfl, v3, rfl⟩
      refine ⟨_, rfl, _, rfl, _, _, rfl, rfl, mul_smallR (by omega) (by omega), rfl, some (.int (0 + (i : Nat))), ?_⟩
      rw [Nat.pow_succ]; rfl
    · rintro σ Hx ⟨rfl, v3, rfl⟩
      exact ⟨_, rfl, q⟩
abbrev s_number : Stmt := topS 14
theorem sc_number : FnScope ["_law_deck_here", "_law_radix", "_law_sort", "_law_found", "_law_go"] ["_law_deck_here", "_law_radix"] (defScope s_number) := ⟨rfl, rfl, rfl, by decide +kernel, rfl, by decide +kernel, by decide +kernel⟩
theorem ok_number {f : Addr} {fd : FuncData} (F : Fun K "_law_number" "_law_number" s_number f fd) (gl : mg "_law_number" = some (.ref f)) (T : Bl mg) (D_draw : DefG P w K mg base 1 "_law_draw" ["_law_deck_here", "_law_many"] (spDrw ks)) (D_pick : DefG P w K mg base 2 "_law_pick" ["_law_deck_here", "_law_some"] (spPck ks))
    (D_power : DefG P w K mg base 1 "_law_power" ["_law_radix", "_law_times"] spPower) : DefG P w K mg base 3 "_law_number" ["_law_deck_here", "_law_radix"] spNumber := by
  refine def_mk F gl (F.binds fun _ _ _ _ _ _ us hl => match us, hl with | [_, _], _ => rfl) (okG F sc_number (fun vs H Q E h => ?_) fun cdv A outer s H vs Q E hr hc h => ?_)
  · obtain ⟨d, g, b, c, rfl, _⟩ := h
    rfl
  · obtain ⟨d, g, b, c, rfl, D, b2, bB, q⟩ := h
    have nd := sc_number.nd
    have q' : ∀ (n : Int) H', 0 < n → n < 2 ^ 300 → Dk ks H' d g c → Mv d g H H' → Q (.int n) H' := fun n H' h0 h1 DD MM => by
      obtain ⟨k, rfl⟩ : ∃ k : Nat, n = (k : Int) := ⟨n.toNat, by omega⟩
      exact q k H' (by omega) (by exact_mod_cast h1) DD MM
    refine ⟨_, (pss_cons (ps_set (i := 2) nd rfl (by first | exact Or.inl rfl | exact Or.inr rfl) (pe_def D_draw (hr.mono (by decide)) hc (by rfl) (pa_cons (pv 0) (pa_cons pe_int pa_nil))))
      (pss_cons (ps_if (pt_cmpR op_eq (pv 2) pe_int (nomark _))
        (pss_one (ps_ret pe_int))
        pss_nil)
      (pss_cons (ps_if (pt_cmpR op_eq (pv 2) pe_int (nomark _))
        (pss_one (ps_ret (pe_op op_add pe_int (pe_def D_draw (hr.mono (by decide)) hc (by rfl) (pa_cons (pv 0) (pa_cons pe_int pa_nil))))))
        pss_nil)
      (pss_cons (ps_if (pt_cmpR op_eq (pv 2) pe_int (nomark _))
        (pss_one (ps_ret (pe_op op_mul (pe_op op_add pe_int (pe_def D_draw (hr.mono (by decide)) hc (by rfl) (pa_cons (pv 0) (pa_cons pe_int pa_nil)))) (pe_def D_power (hr.mono (by decide)) hc (by rfl) (pa_cons (pv 1) (pa_cons (pe_def D_draw (hr.mono (by decide)) hc (by rfl) (pa_cons (pv 0) (pa_cons pe_int pa_nil))) pa_nil))))))
        pss_nil)
      (pss_cons (ps_set (i := 3) nd rfl (by first | exact Or.inl rfl | exact Or.inr rfl) (pe_op op_add pe_int (pe_def D_draw (hr.mono (by decide)) hc (by rfl) (pa_cons (pv 0) (pa_cons pe_int pa_nil)))))
      (pss_cons (ps_for PassesOwn.never rfl (pi_range1 (by rfl) T.range (pa_cons (pe_def D_pick (hr.mono (by decide)) hc (by rfl) (pa_cons (pv 0) (pa_cons (pe_lst (pa_cons pe_int (pa_cons pe_int (pa_cons pe_int (pa_cons pe_int pa_nil))))) pa_nil))) pa_nil)) (pg_name (i := 4) nd rfl (by first | exact Or.inl rfl | exact Or.inr rfl))
        (pss_one (ps_set (i := 3) nd rfl (by first | exact Or.inl rfl | exact Or.inr rfl) (pe_op op_add (pe_op op_mul (pv 3) pe_int) (pe_def D_draw (hr.mono (by decide)) hc (by rfl) (pa_cons (pv 0) (pa_cons pe_int pa_nil)))))))
      (pss_one (ps_ret (pv 3))))))))), ?_⟩
    refine ⟨_, rfl, d, g, 5, c + 9, rfl, D, by decide, by decide, fun k H1 k0 k1 D1 M1 => ?_⟩
    refine ⟨_, rfl, rfl, _, rfl, ite2 (fun e => ?_) (fun e => ?_)⟩
    · exact q' 1 _ (by decide) (by decide +kernel) (D1.mono (by omega)) M1
    refine ⟨_, rfl, rfl, _, rfl, ite2 (fun e => ?_) (fun e => ?_)⟩
    · refine ⟨_, rfl, d, g, 60, c + 8, rfl, D1, by decide, by decide, fun r H2 r0 r1 D2 M2 => ⟨1, r, rfl, rfl, q' _ _ (by omega) ?_ (D2.mono (by omega)) (M1.trans M2)⟩⟩
      have : (61 : Int) < 2 ^ 300 := by decide +kernel
      omega
    refine ⟨_, rfl, rfl, _, rfl, ite2 (fun e => ?_) (fun e => ?_)⟩
    · refine ⟨_, rfl, d, g, 400, c + 8, rfl, D1, by decide, by decide, fun r H2 r0 r1 D2 M2 => ⟨1, r, rfl, rfl, _, rfl, _, rfl, d, g, 9, c + 7, rfl, D2, by decide, by decide, fun t H3 t0 t1 D3 M3 => ?_⟩⟩
      obtain ⟨tn, rfl⟩ : ∃ tn : Nat, t = (tn : Int) := ⟨t.toNat, by omega⟩
      have pb : b ^ tn < 2 ^ 40 := by
        refine Nat.lt_of_le_of_lt (Nat.pow_le_pow_left bB tn) ?_
        exact Nat.lt_of_le_of_lt (Nat.pow_le_pow_right (show 0 < 10 by decide) (show tn ≤ 9 by omega)) (by decide)
      have p0 : 0 < b ^ tn := Nat.pow_pos (by omega)
      refine ⟨b, tn, rfl, by omega, by omega, _, _, rfl, rfl, mul_small (by omega) (by omega), q' _ _ ?_ ?_ (D3.mono (by omega)) (M1.trans (M2.trans M3))⟩
      · exact Int.mul_pos (by omega) (by omega)
      · have h1 : (1 + r) * ((b ^ tn : Nat) : Int) ≤ 400 * ((b ^ tn : Nat) : Int) := Int.mul_le_mul_of_nonneg_right (by omega) (by omega)
        have h2 : (400 : Int) * 2 ^ 40 < 2 ^ 300 := by decide +kernel
        omega
    · refine ⟨_, rfl, d, g, 9, c + 8, rfl, D1, by decide, by decide, fun r H2 r0 r1 D2 M2 => ⟨1, r, rfl, rfl, ?_⟩⟩
      refine ⟨_, rfl, (show 4 ≤ sizeLine from small (by decide)), fun l nl => ⟨d, g, l, _, c + 7, rfl, D2.new nl, upd_same, (D2.off nl).2, (fun z => nomatch z), (show 4 ≤ 1000 by decide), fun x H3 hx D3 M3 => ?_⟩⟩
      have hk : ∃ k : Nat, x = .int (k : Int) ∧ k ≤ 6 := by
        iterate 3
          rcases List.mem_cons.mp hx with rfl | hx
          · first
              | exact ⟨1, rfl, by decide⟩
              | exact ⟨2, rfl, by decide⟩
              | exact ⟨4, rfl, by decide⟩
        rw [List.mem_singleton.mp hx]
        exact ⟨6, rfl, by decide⟩
      obtain ⟨t, rfl, t6⟩ := hk
      have M3' : Mv d g H H3 := M1.trans (M2.trans ((Mv.of (Same.new nl)).trans M3))
      refine ⟨(t : Int), rfl, by omega, by omega, ?_⟩
      rw [Int.toNat_natCast]
      refine for_range (fun i σ Hx => ∃ (f : Int) (v : Option V), σ = [some (.ref d), some (.int (b : Int)), some (.int k), some (.int f), v] ∧ 0 < f ∧ f < 2 ^ (20 + 21 * i) ∧ Dk ks Hx d g (c + 7 - i) ∧ Mv d g H Hx) ⟨1 + r, none, rfl, by omega, by omega, D3, M3'⟩ ?_ ?_
      · rintro i σ Hx hi ⟨f, v, rfl, f0, f1, Dx, Mx⟩
        have Dx : Dk ks Hx d g (c + 7 - (i + 1) + 1) := Dx.mono (by omega)
        refine ⟨_, rfl, _, _, rfl, rfl, mul_smallR (by decide) (by decide), _, rfl, d, g, 1000000, _, rfl, Dx, by decide, by decide, fun u Hy u0 u1 Dy My => ⟨_, _, rfl, rfl, _, _, rfl, by omega, ?_, Dy, Mx.trans My⟩⟩
        have e1 : (2 : Int) ^ (20 + 21 * (i + 1)) = 2 ^ (20 + 21 * i) * 2097152 := by rw [show 20 + 21 * (i + 1) = 20 + 21 * i + 21 by omega, Int.pow_add]; rfl
        rw [e1]
        omega
      · rintro σ Hx ⟨f, v, rfl, f0, f1, Dx, Mx⟩
        refine ⟨_, rfl, q' _ _ f0 ?_ (Dx.mono (by omega)) Mx⟩
        have : (2 : Int) ^ (20 + 21 * t) ≤ 2 ^ 299 := by
          have : 2 ^ (20 + 21 * t) ≤ 2 ^ 299 := Nat.pow_le_pow_right (by decide) (by omega)
          exact_mod_cast this
        have h2 : (2 : Int) ^ 299 < 2 ^ 300 := by decide +kernel
        omega
abbrev s_digits : Stmt := topS 15
theorem sc_digits : FnScope ["_law_radix", "_law_n", "_law_found", "_law_rest"] ["_law_radix", "_law_n"] (defScope s_digits) := ⟨rfl, rfl, rfl, by decide +kernel, rfl, by decide +kernel, by decide +kernel⟩
theorem ok_digits {f : Addr} {fd : FuncData} (F : Fun K "_law_digits" "_law_digits" s_digits f fd) (gl : mg "_law_digits" = some (.ref f)) (T : Bl mg) : DefG P w K mg base 1 "_law_digits" ["_law_radix", "_law_n"] spDigits := by
  refine def_mk F gl (F.binds fun _ _ _ _ _ _ us hl => match us, hl with | [_, _], _ => rfl) (okG F sc_digits (fun vs H Q E h => ?_) fun cdv A outer s H vs Q E hr hc h => ?_)
  · obtain ⟨n, b, rfl, _⟩ := h
    rfl
  · obtain ⟨n, b, rfl, nB, b2, bB, q⟩ := h
    have nd := sc_digits.nd
    have b0 : (0 : Int) < (b : Int) := by omega
    refine ⟨_, (pss_cons (ps_par (i := 2) (j := 3) rfl nd rfl rfl (by decide) rfl rfl (pa_cons (pe_lst pa_nil) (pa_cons (pv 1) pa_nil)) rfl)
      (pss_cons (ps_while PassesOwn.never (pt_cmpR op_gt (pv 3) pe_int (nomark _))
        (pss_cons (ps_expr (pe_bm PySem.F.plainAttrs_list PySem.F.slot_list_append PySem.F.type_list_append mt_append (pv 2) (pa_cons (pe_op op_mod (pe_callTy call_int1 (by rfl) T.int boot_int (pa_cons (pv 3) pa_nil)) (pv 0)) pa_nil)))
        (pss_one (ps_set (i := 3) nd rfl (by first | exact Or.inl rfl | exact Or.inr rfl) (pe_op op_fdivW (pv 3) (pv 0))))))
      (pss_one (ps_ret (pv 2))))), ?_⟩
    refine ⟨Nat.zero_le _, fun p np => ⟨_, rfl, _, _, rfl, ?_⟩⟩
    have ln := digs_len b2 1000 n nB
    refine ⟨fun m σ Hx => ∃ L : List Nat, σ = [some (.int (b : Int)), some (.int (n : Int)), some (.ref p), some (.int (m : Int))] ∧ Hx = upd H p (.lst (L.map vI)) ∧ L ++ digsN b m = digsN b n, ⟨n, [], rfl, rfl, rfl⟩, ?_⟩
    rintro m σ Hx ⟨L, rfl, rfl, e⟩
    refine ⟨_, rfl, _, _, rfl, rfl, _, rfl, ?_⟩
    refine ite2 (fun h => ?_) (fun h => ?_)
    · have m0 : 0 < m := by
        have := of_decide_eq_true h
        omega
      rw [digs_go b2 m0] at e
      refine ⟨fun σ' H' => ∃ m', m' < m ∧ ∃ L : List Nat, σ' = [some (.int (b : Int)), some (.int (n : Int)), some (.ref p), some (.int (m' : Int))] ∧ H' = upd H p (.lst (L.map vI)) ∧ L ++ digsN b m' = digsN b n, fun σ' H' h => h, ?_⟩
      refine ⟨_, rfl, ty_l (tofL upd_same), _, rfl, .inl ⟨_, rfl, _, rfl, _, _, rfl, rfl, b0, p, _, _, rfl, rfl, upd_same, ?_, ?_⟩⟩
      · rw [List.length_map]
        have : (L ++ m % b :: digsN b (m / b)).length ≤ 1000 := by rw [e]; exact ln
        rw [List.length_append, List.length_cons] at this
        exact smallt (by omega)
      · rw [upd_upd]
        refine ⟨_, rfl, _, rfl, _, _, rfl, rfl, wide_div (b := 10) b0 (by omega) (by decide) (by decide), ?_⟩
        refine ⟨m / b, Nat.div_lt_self m0 b2, L ++ [m % b], rfl, ?_, ?_⟩
        · rw [List.map_append]; rfl
        · rw [List.append_assoc]; exact e
    · have m0 : m = 0 := by
        rcases Nat.eq_zero_or_pos m with z | z
        · exact z
        · exact absurd (decide_eq_true (show ((m : Nat) : Int) > 0 by omega)) h
      subst m0
      rw [digs_end, List.append_nil] at e
      subst e
      exact ⟨_, rfl, q p _ (Same.new np) upd_same⟩
abbrev s_dues : Stmt := topS 16
theorem sc_dues : FnScope ["_law_radix", "_law_parts", "_law_n", "_law_digits_here", "_law_some", "_law_digit"] ["_law_radix", "_law_parts", "_law_n"] (defScope s_dues) := ⟨rfl, rfl, rfl, by decide +kernel, rfl, by decide +kernel, by decide +kernel⟩
theorem ok_dues {f : Addr} {fd : FuncData} (F : Fun K "_law_dues" "_law_dues" s_dues f fd) (gl : mg "_law_dues" = some (.ref f)) (T : Bl mg) (D_digits : DefG P w K mg base 1 "_law_digits" ["_law_radix", "_law_n"] spDigits) : DefG P w K mg base 2 "_law_dues" ["_law_radix", "_law_parts", "_law_n"] spDues := by
  refine def_mk F gl (F.binds fun _ _ _ _ _ _ us hl => match us, hl with | [_, _, _], _ => rfl) (okG F sc_dues (fun vs H Q E h => ?_) fun cdv A outer s H vs Q E hr hc h => ?_)
  · obtain ⟨b, M, n, rfl, _⟩ := h
    rfl
  · obtain ⟨b, M, n, rfl, b2, bB, M0, n0, nB, q⟩ := h
    have nd := sc_dues.nd
    have nB2 : n < 2 ^ 1000 := Nat.lt_trans nB (Nat.pow_lt_pow_right (by decide) (by decide))
    refine ⟨_, (pss_cons (ps_set (i := 3) nd rfl (by first | exact Or.inl rfl | exact Or.inr rfl) (pe_def D_digits (hr.mono (by decide)) hc (by rfl) (pa_cons (pv 0) (pa_cons (pv 2) pa_nil))))
      (pss_cons (ps_setLc (i := 4) (own := [("_law_digit", 5)]) (g := (gName 5)) rfl nd rfl rfl (sw_true rfl rfl rfl (by decide +kernel)) (pi_list (pv 3)) (blkOk_by (own := [("_law_digit", 5)]) (N := ["_law_radix", "_law_parts", "_law_n", "_law_digits_here", "_law_some", "_law_digit"]) (sc := defScope s_dues) (by decide +kernel)) (fun _ _ _ _ _ => (pg_name (i := 5) nd rfl (by first | exact Or.inl rfl | exact Or.inr rfl))) (fun _ _ _ _ _ => (pts_one (pt_cmpR op_ne (pv 5) pe_int (nomark _)))) (fun _ _ _ _ _ => (pv 5)))
      (pss_one (ps_ret (pe_lst (pa_cons (pe_op op_mod (pe_callTy call_int1 (by rfl) T.int boot_int (pa_cons (pv 2) pa_nil)) (pv 1)) (pa_cons (pe_op op_sub (pe_ix ix_list (pv 4) pe_int (fun _ _ => rfl)) pe_int) (pa_cons (pe_op op_sub (pe_ix ix_list (pv 3) (pe_un un_neg pe_int) (fun _ _ => rfl)) pe_int) (pa_cons (pe_op op_mod (pe_callTy call_int1 (by rfl) T.int boot_int (pa_cons (pe_callB (cr_sum rfl) (by rfl) T.sum boot_sum (pa_cons (pv 3) pa_nil)) pa_nil)) (pv 1)) pa_nil))))))))), ?_⟩
    refine ⟨_, rfl, _, rfl, n, b, rfl, nB2, b2, bB, fun p H1 s1 hp => ?_⟩
    refine ⟨_, rfl, p, rfl, ⟨_, tofL hp⟩, fun D nD => ?_⟩
    refine lc_list (K := K) (a := p) (xs := (digsN b n).map vI) (fun i Hy => Same H1 Hy ∧ Hy D = some (.lst ((((digsN b n).take i).filter (fun x => x != 0)).map vI))) ⟨Same.new nD, upd_same⟩ (fun i Hy _ h => tofL (h.1 _ _ hp)) ?_ ?_
    · rintro i y Hy hi2 ⟨s2, hD⟩
      rw [List.getElem?_map] at hi2
      obtain ⟨z, hz, rfl⟩ := Option.map_eq_some_iff.mp hi2
      have zl := (List.getElem?_eq_some_iff.mp hz).1
      refine ⟨rfl, _, rfl, rfl, _, rfl, ?_⟩
      have ez : ((digsN b n).take (i + 1)).filter (fun x => x != 0) = ((digsN b n).take i).filter (fun x => x != 0) ++ [z].filter (fun x => x != 0) := by
        rw [List.take_add_one, hz, List.filter_append]; rfl
      refine ite2 (fun e => ?_) (fun e => ?_)
      · have zn : z ≠ 0 := fun q0 => by subst q0; exact absurd e (by decide)
        refine ⟨_, rfl, _, hD, ?_, ?_, ?_⟩
        · rw [List.length_map]
          refine smallt (Nat.lt_of_le_of_lt (List.length_filter_le _ _) ?_)
          rw [List.length_take]
          have := digs_len b2 1000 n nB2
          omega
        · intro u o hu
          rw [upd_ne (ne_of_none hu nD)]
          exact s2 _ _ hu
        · rw [upd_same, ez, List.filter_cons_of_pos (by simpa using zn), List.map_append]
          rfl
      · have zn : z = 0 := Classical.byContradiction fun q0 => e (by
          have q2 : ¬ (vI z = V.int 0) := fun q1 => q0 (by
            injection q1 with q1
            omega)
          rw [decide_eq_false q2]
          rfl)
        refine ⟨s2, ?_⟩
        rw [ez, zn]
        exact (List.append_nil (List.filter (fun x => x != 0) (List.take i (digsN b n)))).symm ▸ hD
    · rintro Hy ⟨s2, hD⟩
      rw [List.length_map, List.take_length] at hD
      obtain ⟨rr, er⟩ := digs_first b2 n n0
      rw [er] at hD
      have hpy := s2 _ _ hp
      obtain ⟨L0, tp, eL⟩ := snoc_ex (digs_ne b2 n0)
      have et : tp = topN b n := by unfold topN; rw [eL, List.getLast?_concat]; rfl
      have l0 := lastN_pos b2 n n0
      have t0 := topN_pos b2 n n0
      refine ⟨_, rfl, .inl ⟨_, rfl, _, rfl, _, _, rfl, rfl, (show (0 : Int) < (M : Int) by omega), ?_⟩⟩
      refine ⟨_, rfl, D, _, ((0 : Nat) : Int), _, rfl, rfl, tofL hD, atI_nat rfl, _, 1, rfl, rfl, ?_⟩
      refine ⟨_, rfl, 1, rfl, p, _, -1, _, rfl, rfl, tofL hpy, by rw [eL]; exact last_vI _ _, _, 1, rfl, rfl, ?_⟩
      refine ⟨_, rfl, p, (digsN b n).map (fun x : Nat => (x : Int)), rfl, by rw [map_vI]; exact tofL hpy, .inl ⟨_, rfl, _, rfl, _, _, rfl, rfl, (show (0 : Int) < (M : Int) by omega), (show 4 ≤ sizeLine from small (by decide)), fun l nl => ?_⟩⟩
      refine q l _ ((s1.trans s2).trans (Same.new nl)) ?_
      rw [upd_same, sum_cast]
      show some (HO.lst [V.int ((n : Int) % (M : Int)), V.int (((lastN b n : Nat) : Int) - 1), V.int ((tp : Int) - 1), V.int (((digsN b n).sum : Nat) % (M : Int))]) = some (HO.lst [V.int ((n % M : Nat) : Int), V.int ((lastN b n - 1 : Nat) : Int), V.int ((topN b n - 1 : Nat) : Int), V.int (((digsN b n).sum % M : Nat) : Int)])
      rw [et, show ((lastN b n : Nat) : Int) - 1 = ((lastN b n - 1 : Nat) : Int) by omega, show ((topN b n : Nat) : Int) - 1 = ((topN b n - 1 : Nat) : Int) by omega]; rfl
abbrev s_is_calm : Stmt := topS 18
theorem sc_is_calm : FnScope ["_law_reader", "_law_leads", "_law_lots", "_law_at"] ["_law_reader"] (defScope s_is_calm) := ⟨rfl, rfl, rfl, by decide +kernel, rfl, by decide +kernel, by decide +kernel⟩
theorem ok_is_calm {f C : Addr} {fd : FuncData} (F : Fun K "_law_is_calm" "_law_is_calm" s_is_calm f fd) (gl : mg "_law_is_calm" = some (.ref f)) (T : Bl mg) (S : Mac K mg C) (D_reached : DefG P w K mg base 1 "_law_reached" ["_law_leads"] (spReached K)) : DefG P w K mg base 2 "_law_is_calm" ["_law_reader"] (spCalm K C) := by
  refine def_mk F gl (F.binds fun _ _ _ _ _ _ us hl => match us, hl with | [_], _ => rfl) (okG F sc_is_calm (fun vs H Q E h => ?_) fun cdv A outer s H vs Q E hr hc h => ?_)
  · obtain ⟨p, Z, B, b, n, m, rfl, _⟩ := h
    rfl
  · obtain ⟨p, Z, B, b, n, m, rfl, hM, stay, q⟩ := h
    have nd := sc_is_calm.nd
    have hu64 := hr.units
    obtain ⟨dx, a, x, hp, hG, hX⟩ := hM.ex
    have W := hM.wf
    have b2 := hM.b2
    have lB := hM.bl
    refine ⟨_, (pss_cons (ps_asg (pe_tup (pa_cons (pe_fld (pv 0) rfl) (pa_cons (pe_fld (pv 0) rfl) pa_nil))) (pg_tup rfl (pgs_cons (pg_name (i := 1) nd rfl (by first | exact Or.inl rfl | exact Or.inr rfl)) (pgs_cons (pg_name (i := 2) nd rfl (by first | exact Or.inl rfl | exact Or.inr rfl)) pgs_nil))))
      (pss_one (ps_ret (pe_cmpR (op_eqD hu64) (pe_lc (own := [("_law_at", 3)]) (g := (gName 3)) rfl nd (pi_list (pe_def D_reached (hr.mono (by decide)) hc (by rfl) (pa_cons (pv 1) pa_nil))) (blkOk_by (own := [("_law_at", 3)]) (N := ["_law_reader", "_law_leads", "_law_lots", "_law_at"]) (sc := defScope s_is_calm) (by decide +kernel)) (fun _ _ _ _ _ => (pg_name (i := 3) nd rfl (by first | exact Or.inl rfl | exact Or.inr rfl))) (fun _ _ _ _ _ => (pts_one (pt_cmpR op_ne (pe_ix (ix_tupK (K := K)) (pv 2) (pv 3) (fun _ _ => rfl)) (pe_ix (ix_tupK (K := K)) (pv 2) (pe_ix (ix_tupK (K := K)) (pe_ix (ix_tupK (K := K)) (pv 1) (pv 3) (fun _ _ => rfl)) pe_int (fun _ _ => rfl)) (fun _ _ => rfl)) (nomark _)))) (fun _ _ _ _ _ => (pv 3))) (pe_lst pa_nil) (nomark _))))), ?_⟩
    refine ⟨_, rfl, p, C, dx, _, _, rfl, hp, S.cl, S.nS, f_steps _ _ _ _, _, rfl, p, C, dx, _, _, rfl, hp, S.cl, S.nX, f_boxes _ _ _ _, (show 2 ≤ sizeLine from small (by decide)), fun t nt => ⟨t, _, rfl, tofT upd_same, rfl, _, _, rfl, _, _, rfl, rfl, ?_⟩⟩
    have st := Same.new (o := .tup [.ref a, .ref x]) nt
    refine ⟨_, rfl, a, Z, n, b, rfl, hG.same st, W, hM.n0, hM.nB, fun l Hy M sy hl nl hM2 rise ndM => ⟨l, rfl, ⟨_, tofL hl⟩, fun D nD => ?_⟩⟩
    have sy2 := st.trans sy
    refine lc_list (K := K) (a := l) (xs := M.map vI) (fun i Hz => Same Hy Hz ∧ Hz D = some (.lst [])) ⟨Same.new nD, upd_same⟩ (fun i Hz _ h => tofL (h.1 _ _ hl)) ?_ ?_
    · rintro i y Hz hi ⟨s2, hD⟩
      rw [List.getElem?_map] at hi
      obtain ⟨z, hz, rfl⟩ := Option.map_eq_some_iff.mp hi
      have zn := ((hM2 z).mp (List.mem_of_getElem? hz)).lt W hM.n0
      have sz := sy2.trans s2
      obtain ⟨xs, r, hA, hat, hR⟩ := hG.row W zn
      have zn2 := stp_lt (d := 0) W zn (by omega)
      refine ⟨rfl, _, rfl, _, rfl, x, _, (z : Int), _, rfl, rfl, Same.tup sz hX, at_vI (bx_at (by omega)), _, rfl, _, rfl, _, rfl, a, xs, (z : Int), .ref r, rfl, rfl, Same.tup sz hA, hat, r, _, ((0 : Nat) : Int), _, rfl, rfl, Same.tup sz hR, at_vI (stp_at W zn (by omega)), x, _, ((stp Z z 0 : Nat) : Int), _, rfl, rfl, Same.tup sz hX, at_vI (bx_at (by omega)), rfl, _, rfl, ?_⟩
      rw [stay z zn]
      exact iteNS rfl ⟨s2, hD⟩
    · rintro Hz ⟨s2, hD⟩
      refine ⟨Nat.zero_le _, fun o no => ?_⟩
      have so := Same.new (o := .lst []) no
      refine ⟨_, _, .lst (tofL (so _ _ hD)) .nil, .lst (tofL upd_same) .nil, shaped_ints [], shaped_ints [], ?_⟩
      exact q _ (sy2.trans (s2.trans so))
end
end NK39
namespace NK39
open PySem PySem.Spec PyProof.Rows L2 GL G3 MA DG
/-- a machine of its kind -/
def Is (K : PySem.W.Frag) (C : Addr) (H : Hp) (b : Nat) (q : Addr × Nat × (Nat → Nat)) : Prop := ∃ (S : Tab) (B : List Nat) (n : Nat), MacAt K C H q.1 S B b n q.2.1 ∧ Kind S B b n q.2.1 q.2.2
theorem Is.same {K : PySem.W.Frag} {C : Addr} {H H' : Hp} {b : Nat} {q : Addr × Nat × (Nat → Nat)} (h : Is K C H b q) (s : Same H H') : Is K C H' b q := by
  obtain ⟨S, B, n, h1, h2⟩ := h
  exact ⟨S, B, n, h1.same s, h2⟩
theorem Is.mv {K : PySem.W.Frag} {C : Addr} {H H' : Hp} {b c : Nat} {d g : Addr} {q : Addr × Nat × (Nat → Nat)} (h : Is K C H b q) (D : Dk ks H d g c) (m : Mv d g H H') : Is K C H' b q := by
  obtain ⟨S, B, n, h1, h2⟩ := h
  exact ⟨S, B, n, h1.mv D m, h2⟩
theorem Is.lt {K : PySem.W.Frag} {C : Addr} {H : Hp} {b : Nat} {q : Addr × Nat × (Nat → Nat)} (h : Is K C H b q) {k : Nat} (hk : 0 < k) : q.2.2 k < 12 := by
  obtain ⟨S, B, n, h1, h2⟩ := h
  rw [← h2.val k hk]
  have := runs_lt h2.wf h1.b2 k 0 h2.n0
  exact h2.sm _ (List.mem_of_getElem? (bx_at (by rw [h2.bl]; exact this)))
abbrev Rd := List (Addr × Nat × (Nat → Nat))
structure Rds (K : PySem.W.Frag) (C : Addr) (H : Hp) (l : Addr) (b : Nat) (L : Rd) : Prop where
  at_ : H l = some (.lst (L.map fun q => V.ref q.1))
  is : ∀ q ∈ L, Is K C H b q
theorem Rds.same {K : PySem.W.Frag} {C : Addr} {H H' : Hp} {l : Addr} {b : Nat} {L : Rd} (h : Rds K C H l b L) (s : Same H H') : Rds K C H' l b L := ⟨s _ _ h.at_, fun q hq => (h.is q hq).same s⟩
theorem Rds.mv {K : PySem.W.Frag} {C : Addr} {H H' : Hp} {l : Addr} {b c : Nat} {d g : Addr} {L : Rd} (h : Rds K C H l b L) (D : Dk ks H d g c) (m : Mv d g H H') (n : l ≠ d ∧ l ≠ g) : Rds K C H' l b L := ⟨m.at h.at_ n, fun q hq => (h.is q hq).mv D m⟩
def fM (M k : Nat) : Nat := k % M
def fL (b k : Nat) : Nat := lastN b k - 1
def fT (b k : Nat) : Nat := topN b k - 1
def fS (b M k : Nat) : Nat := (digsN b k).sum % M
def three (b M : Nat) (p1 p2 p3 : Addr) : Rd := [(p1, M, fM M), (p2, b - 1, fL b), (p3, b - 1, fT b)]
theorem nice_natL {L : List Nat} (hl : L.length ≤ 10) (h : ∀ x ∈ L, x ≤ 200) : Nice 100 1 (.list (L.map fun x : Nat => PyData.int (x : Int))) := by
  have h1 : ∀ d ∈ L.map (fun x : Nat => PyData.int (x : Int)), Nice 5 0 d := fun d hd => by
    obtain ⟨x, hx, rfl⟩ := List.mem_map.mp hd
    have := h x hx
    exact Nice.int (by omega) (by omega)
  exact (Nice.lst (n := 10) h1 (by rw [List.length_map]; omega)).mono (by decide) (by decide)
theorem Is.upd {K : PySem.W.Frag} {C : Addr} {H : Hp} {b : Nat} {q : Addr × Nat × (Nat → Nat)} {l : Addr} {ys : List V} {o : HO} (h : Is K C H b q) (hq : H l = some (.lst ys)) : Is K C (upd H l o) b q := by
  obtain ⟨S, B, n, h1, h2⟩ := h
  exact ⟨S, B, n, h1.to (fun r => SqT.upd hq r) fun dx fs e => by rw [upd_ne (ne_of e hq (fun z => nomatch z))]; exact e, h2⟩
theorem Rds.three {K : PySem.W.Frag} {C : Addr} {H2 H3 H4 : Hp} {b M : Nat} {p1 p2 p3 l : Addr} (h1 : Is K C H2 b (p1, M, fM M)) (h2 : Is K C H3 b (p2, b - 1, fL b)) (h3 : Is K C H4 b (p3, b - 1, fT b)) (s23 : Same H2 H3) (s34 : Same H3 H4) (nl : H4 l = none) :
    Rds K C (upd H4 l (.lst [.ref p1, .ref p2, .ref p3])) l b (three b M p1 p2 p3) := by
  have s4l : Same H4 (upd H4 l (.lst [.ref p1, .ref p2, .ref p3])) := Same.new nl
  refine ⟨upd_same, fun q hq => ?_⟩
  rcases List.mem_cons.mp hq with rfl | hq
  · exact h1.same (s23.trans (s34.trans s4l))
  rcases List.mem_cons.mp hq with rfl | hq
  · exact h2.same (s34.trans s4l)
  · rw [List.mem_singleton.mp hq]
    exact h3.same s4l
def spRight : Sp := fun vs H Q _ => ∃ (d g : Addr) (b c : Nat), vs = [.ref d, .int (b : Int)] ∧ 2 ≤ b ∧ b ≤ 10 ∧ Dk ks H d g (c + 100) ∧ ∀ H', Dk ks H' d g c → Mv d g H H' → Q (.bl true) H'
section
variable {P : Program} {w : World} {K : PySem.W.Frag} {mg : Str → Option Value} {base : Heap}
abbrev s_right : Stmt := topS 19
theorem sc_right : FnScope ["_law_deck_here", "_law_radix", "_law_parts", "_law_readers", "_law_many", "_law_reader", "_law_go", "_law_n", "_law_told"] ["_law_deck_here", "_law_radix"] (defScope s_right) := ⟨rfl, rfl, rfl, by decide +kernel, rfl, by decide +kernel, by decide +kernel⟩
theorem ok_right {f C fO f1 f2 f3 f4 : Addr} {fd0 fdO fd1 fd2 fd3 fd4 : FuncData} (F : Fun K "_law_right" "_law_right" s_right f fd0) (gl : mg "_law_right" = some (.ref f)) (T : Bl mg) (S : Mac K mg C)
    (D_draw : DefG P w K mg base 1 "_law_draw" ["_law_deck_here", "_law_many"] (spDrw ks)) (D_number : DefG P w K mg base 3 "_law_number" ["_law_deck_here", "_law_radix"] spNumber) (D_dues : DefG P w K mg base 2 "_law_dues" ["_law_radix", "_law_parts", "_law_n"] spDues) (D_is_calm : DefG P w K mg base 2 "_law_is_calm" ["_law_reader"] (spCalm K C))
    (CO : StX.CallO K C fO) (FO : FnG P w K mg base CX0 1 fO fdO ["self", "number"] (spCall K C)) (BO : Binds K fdO ["self", "number"] [])
    (ST_modulo : StatM K C "modulo" f1) (FT_modulo : FnG P w K mg base CX0 4 f1 fd1 ["base", "modulus"] (spModulo K C)) (BT_modulo : Binds K fd1 ["base", "modulus"] []) (KT_modulo : ∃ g, KBn K fd1 ["base", "modulus"] 0 ["modulus", "base"] g (fun _ zs => zs.reverse))
    (ST_last : StatM K C "last" f2) (FT_last : FnG P w K mg base CX0 4 f2 fd2 ["base"] (spLast K C)) (BT_last : Binds K fd2 ["base"] []) (KT_last : ∃ g, KBn K fd2 ["base"] 0 ["base"] g (fun _ zs => zs.reverse))
    (ST_first : StatM K C "first" f3) (FT_first : FnG P w K mg base CX0 4 f3 fd3 ["base"] (spFirst K C)) (BT_first : Binds K fd3 ["base"] []) (KT_first : ∃ g, KBn K fd3 ["base"] 0 ["base"] g (fun _ zs => zs.reverse))
    (ST_sums : StatM K C "sums" f4) (FT_sums : FnG P w K mg base CX0 4 f4 fd4 ["base", "modulus"] (spSums K C)) (KT_sums : ∃ g, KBn K fd4 ["base", "modulus"] 0 ["modulus", "base"] g (fun _ zs => zs.reverse)) :
    DefG P w K mg base 5 "_law_right" ["_law_deck_here", "_law_radix"] spRight := by
  obtain ⟨g1, KT_modulo⟩ := KT_modulo
  obtain ⟨g2, KT_last⟩ := KT_last
  obtain ⟨g3, KT_first⟩ := KT_first
  obtain ⟨g4, KT_sums⟩ := KT_sums
  refine def_mk F gl (F.binds fun _ _ _ _ _ _ us hl => match us, hl with | [_, _], _ => rfl) (okG F sc_right (fun vs H Q E h => ?_) fun cdv A outer s H vs Q E hr hc h => ?_)
  · obtain ⟨d, g, b, c, rfl, _⟩ := h
    rfl
  · obtain ⟨d, g, b, c, rfl, b2, bB, D, q⟩ := h
    have nd := sc_right.nd
    have hu64 := hr.units
    have hu100 : (A.deeper (envOfC "_law_right" (defScope s_right) s.heap.objs.size f cdv)).units + 100 < cLine := by have := hr.un; omega
    refine ⟨_, (pss_cons (ps_set (i := 2) nd rfl (by first | exact Or.inl rfl | exact Or.inr rfl) (pe_op op_add pe_int (pe_def D_draw (hr.mono (by decide)) hc (by rfl) (pa_cons (pv 0) (pa_cons pe_int pa_nil)))))
      (pss_cons (ps_set (i := 3) nd rfl (by first | exact Or.inl rfl | exact Or.inr rfl) (pe_lst (pa_cons (pe_statG ST_modulo FT_modulo BT_modulo .nil (hr.mono (by decide)) hc (by rfl) S.mgC (pa_cons (pv 1) (pa_cons (pv 2) pa_nil))) (pa_cons (pe_statG ST_last FT_last BT_last .nil (hr.mono (by decide)) hc (by rfl) S.mgC (pa_cons (pv 1) pa_nil)) (pa_cons (pe_statKG0 ST_first FT_first KT_first (hr.mono (by decide)) hc (by rfl) S.mgC (pk_cons (pv 1) pk_nil)) pa_nil)))))
      (C8.pss_cut (ps_if (pt_cmpR op_eq (pe_def D_draw (hr.mono (by decide)) hc (by rfl) (pa_cons (pv 0) (pa_cons pe_int pa_nil))) pe_int (nomark _))
        (pss_one (ps_set (i := 3) nd rfl (by first | exact Or.inl rfl | exact Or.inr rfl) (pe_lst (pa_cons (pe_statKG0 ST_modulo FT_modulo KT_modulo (hr.mono (by decide)) hc (by rfl) S.mgC (pk_cons (pv 2) (pk_cons (pv 1) pk_nil))) (pa_cons (pe_statKG0 ST_last FT_last KT_last (hr.mono (by decide)) hc (by rfl) S.mgC (pk_cons (pv 1) pk_nil)) (pa_cons (pe_statG ST_first FT_first BT_first .nil (hr.mono (by decide)) hc (by rfl) S.mgC (pa_cons (pv 1) pa_nil)) pa_nil))))))
        pss_nil)
      (pss_cons (ps_expr (pe_bm PySem.F.plainAttrs_list PySem.F.slot_list_append PySem.F.type_list_append mt_append (pv 3) (pa_cons (pe_statKG0 ST_sums FT_sums KT_sums (hr.mono (by decide)) hc (by rfl) S.mgC (pk_cons (pv 2) (pk_cons (pv 1) pk_nil))) pa_nil)))
      (pss_cons (ps_setLc (i := 4) (own := [("_law_reader", 5)]) (g := (gName 5)) (tt := tYes) rfl nd rfl rfl (sw_true rfl rfl rfl (by decide +kernel)) (pi_list (pv 3)) (blkOk_by (own := [("_law_reader", 5)]) (N := ["_law_deck_here", "_law_radix", "_law_parts", "_law_readers", "_law_many", "_law_reader", "_law_go", "_law_n", "_law_told"]) (sc := defScope s_right) (by decide +kernel)) (fun _ _ _ _ _ => (pg_name (i := 5) nd rfl (by first | exact Or.inl rfl | exact Or.inr rfl))) (fun _ _ _ _ _ => pts_nil) (fun _ _ _ _ _ => (pe_fldK (K := K) (pv 5) rfl)))
      (pss_cons (ps_if (pt_cmpR op_ne (pe_callB (call_reprN hc hu100) (by rfl) T.repr boot_repr (pa_cons (pv 4) pa_nil)) (pe_callB (call_reprN hc hu100) (by rfl) T.repr boot_repr (pa_cons (pe_lst (pa_cons (pv 2) (pa_cons (pe_op op_sub (pv 1) pe_int) (pa_cons (pe_op op_sub (pv 1) pe_int) (pa_cons (pv 2) pa_nil))))) pa_nil)) (nomark _))
        (pss_one (ps_ret pe_bl))
        pss_nil)
      (pss_cons (ps_if (pt_cmpR (op_neD hu64) (pe_lc (own := [("_law_reader", 5)]) (g := (gName 5)) rfl nd (pi_list (pv 3)) (blkOk_by (own := [("_law_reader", 5)]) (N := ["_law_deck_here", "_law_radix", "_law_parts", "_law_readers", "_law_many", "_law_reader", "_law_go", "_law_n", "_law_told"]) (sc := defScope s_right) (by decide +kernel)) (fun _ _ _ _ _ => (pg_name (i := 5) nd rfl (by first | exact Or.inl rfl | exact Or.inr rfl))) (fun _ _ _ _ _ => (pts_one (PW.pt (pw_or (pt_cmpR op_ne (pe_fldK (K := K) (pv 5) rfl) (pv 1) (nomark _)) (pw_or1 (pt_not (pt_val (pe_def D_is_calm (hr.mono (by decide)) hc (by rfl) (pa_cons (pv 5) pa_nil))))))))) (fun _ _ _ _ _ => (pv 5))) (pe_lst pa_nil) (nomark _))
        (pss_one (ps_ret pe_bl))
        pss_nil)
      (pss_cons (ps_for PassesOwn.never rfl (pi_range1 (by rfl) T.range (pa_cons pe_int pa_nil)) (pg_name (i := 6) nd rfl (by first | exact Or.inl rfl | exact Or.inr rfl))
        (pss_cons (ps_set (i := 7) nd rfl (by first | exact Or.inl rfl | exact Or.inr rfl) (pe_def D_number (hr.mono (by decide)) hc (by rfl) (pa_cons (pv 0) (pa_cons (pv 1) pa_nil))))
        (pss_cons (ps_setLc (i := 8) (own := [("_law_reader", 5)]) (g := (gName 5)) (tt := tYes) rfl nd rfl rfl (sw_true rfl rfl rfl (by decide +kernel)) (pi_list (pv 3)) (blkOk_by (own := [("_law_reader", 5)]) (N := ["_law_deck_here", "_law_radix", "_law_parts", "_law_readers", "_law_many", "_law_reader", "_law_go", "_law_n", "_law_told"]) (sc := defScope s_right) (by decide +kernel)) (fun _ _ _ _ _ => (pg_name (i := 5) nd rfl (by first | exact Or.inl rfl | exact Or.inr rfl))) (fun _ _ _ _ _ => pts_nil) (fun _ _ _ _ _ => (pe_callOG (pv 5) CO FO BO (hr.mono (by decide)) hc pass0 (pa_cons (pv 7) pa_nil))))
        (pss_one (ps_if (pt_cmpR op_ne (pe_callB (call_reprN hc hu100) (by rfl) T.repr boot_repr (pa_cons (pv 8) pa_nil)) (pe_callB (call_reprN hc hu100) (by rfl) T.repr boot_repr (pa_cons (pe_def D_dues (hr.mono (by decide)) hc (by rfl) (pa_cons (pv 1) (pa_cons (pv 2) (pa_cons (pv 7) pa_nil)))) pa_nil)) (nomark _))
          (pss_one (ps_ret pe_bl))
          pss_nil)))))
      (pss_one (ps_ret pe_bl)))))))))), ?_⟩
    refine ⟨_, rfl, d, g, 12, c + 99, rfl, D, by decide, by decide, fun r H1 r0 r1 D1 M1 => ⟨1, r, rfl, rfl, ?_⟩⟩
    obtain ⟨M, eM⟩ : ∃ M : Nat, 1 + r = (M : Int) := ⟨(1 + r).toNat, by omega⟩
    have M0 : 0 < M := by omega
    have MB : M ≤ 12 := by omega
    simp only [eM]
    refine ⟨_, rfl, _, rfl, b, M, rfl, b2, bB, M0, MB, fun p1 S1 B1 n1 H2 MA1 K1 s12 _ => ⟨_, rfl, b, rfl, b2, bB, fun p2 S2 B2 n2 H3 MA2 K2 s23 _ => ⟨_, rfl, rfl, rfl, b, rfl, b2, bB, fun p3 S3 B3 n3 H4 MA3 K3 s34 _ => ⟨(show 3 ≤ sizeLine from small (by decide)), fun l nl => ?_⟩⟩⟩⟩
    have s4l : Same H4 (upd H4 l (.lst [.ref p1, .ref p2, .ref p3])) := Same.new nl
    have R1 := Rds.three (C := C) (b := b) (M := M) ⟨S1, B1, n1, MA1, K1⟩ ⟨S2, B2, n2, MA2, K2⟩ ⟨S3, B3, n3, MA3, K3⟩ s23 s34 nl
    have s1l := s12.trans (s23.trans (s34.trans s4l))
    have D2 := D1.same s1l
    have M2 : Mv d g H _ := M1.trans (Mv.of s1l)
    have ol : l ≠ d ∧ l ≠ g := (D1.same (s12.trans (s23.trans s34))).off nl
    revert R1 D2 M2
    generalize upd H4 l (.lst [.ref p1, .ref p2, .ref p3]) = H5
    intro R1 D2 M2
    refine ⟨fun σ Hx => ∃ l p1 p2 p3 : Addr, σ = [some (.ref d), some (.int (b : Int)), some (.int (M : Int)), some (.ref l), none, none, none, none, none] ∧ Rds K C Hx l b (three b M p1 p2 p3) ∧ l ≠ d ∧ l ≠ g ∧ H l = none ∧ Dk ks Hx d g (c + 90) ∧ Mv d g H Hx, ?_, ?_⟩
    · have fl : H l = none := G3.Mv.free3 (M1.trans (Mv.of (s12.trans (s23.trans s34)))) (D1.same (s12.trans (s23.trans s34))) nl
      refine ⟨_, rfl, d, g, 2, c + 98, rfl, D2, by decide, by decide, fun r6 H6 _ _ D6 M6 => ⟨rfl, _, rfl, ite2 (fun e => ?_) (fun e => ?_)⟩⟩
      · refine ⟨_, rfl, _, rfl, rfl, rfl, b, M, rfl, b2, bB, M0, MB, fun p1 S1 B1 n1 H7 MA1 K1 s67 _ => ⟨_, rfl, rfl, rfl, b, rfl, b2, bB, fun p2 S2 B2 n2 H8 MA2 K2 s78 _ => ⟨_, rfl, b, rfl, b2, bB, fun p3 S3 B3 n3 H9 MA3 K3 s89 _ => ⟨(show 3 ≤ sizeLine from small (by decide)), fun l nl => ?_⟩⟩⟩⟩
        have s69 := s67.trans (s78.trans s89)
        have D9 := D6.same s69
        have M9 := (M2.trans M6).trans (Mv.of s69)
        exact ⟨l, p1, p2, p3, rfl, Rds.three ⟨S1, B1, n1, MA1, K1⟩ ⟨S2, B2, n2, MA2, K2⟩ ⟨S3, B3, n3, MA3, K3⟩ s78 s89 nl, (D9.off nl).1, (D9.off nl).2, G3.Mv.free3 M9 D9 nl, (D9.new nl).mono (by omega), M9.trans (Mv.of (Same.new nl))⟩
      · exact ⟨l, p1, p2, p3, rfl, R1.mv D2 M6 ol, ol.1, ol.2, fl, D6.mono (by omega), M2.trans M6⟩
    rintro σ Hx ⟨l, p1, p2, p3, rfl, R, ol1, ol2, fl, Dx, Mx⟩
    refine ⟨_, rfl, ty_l (tofL R.at_), _, rfl, _, rfl, rfl, rfl, b, M, rfl, b2, bB, M0, MB, fun p4 S4 B4 n4 H6 MA4 K4 s6 np4 => ?_⟩
    have R6 := R.same s6
    refine ⟨l, _, _, rfl, rfl, R6.at_, smallt (show 3 < 100000 by decide), ?_⟩
    obtain ⟨L4, eL4⟩ : ∃ L4, L4 = three b M p1 p2 p3 ++ [(p4, M, fS b M)] := ⟨_, rfl⟩
    have R4 : Rds K C (upd H6 l (.lst ((three b M p1 p2 p3).map (fun q => V.ref q.1) ++ [.ref p4]))) l b L4 := ⟨by rw [upd_same, eL4, List.map_append]; rfl, fun q hq => by
      rw [eL4] at hq
      rcases List.mem_append.mp hq with hq | hq
      · exact (R6.is q hq).upd R6.at_
      · rw [List.mem_singleton.mp hq]
        exact Is.upd ⟨S4, B4, n4, MA4, K4⟩ R6.at_⟩
    have D7 := (Dx.same s6).mut (p := l) (o := .lst ((three b M p1 p2 p3).map (fun q => V.ref q.1) ++ [.ref p4])) ⟨ol1, ol2⟩
    have M7 := (Mx.trans (Mv.of s6)).mut (o := .lst ((three b M p1 p2 p3).map (fun q => V.ref q.1) ++ [.ref p4])) fl
    revert R4 D7 M7
    generalize upd H6 l (.lst ((three b M p1 p2 p3).map (fun q => V.ref q.1) ++ [.ref p4])) = H7
    intro R4 D7 M7
    have lL : L4.length = 4 := by rw [eL4]; rfl
    refine ⟨_, rfl, l, rfl, ⟨_, tofL R4.at_⟩, fun D nD => ?_⟩
    refine lc_list (K := K) (a := l) (xs := L4.map fun q => V.ref q.1) (fun i Hy => Same H7 Hy ∧ Hy D = some (.lst (((L4.take i).map fun q => q.2.1).map vI))) ⟨Same.new nD, upd_same⟩ (fun i Hy _ h => tofL (h.1 _ _ R4.at_)) ?_ ?_
    · rintro i y Hy hi ⟨s2, hD⟩
      rw [List.getElem?_map] at hi
      obtain ⟨q, hq, rfl⟩ := Option.map_eq_some_iff.mp hi
      obtain ⟨S', B', n', MA', K'⟩ := (R4.is q (List.mem_of_getElem? hq)).same s2
      obtain ⟨dx, a, x, hp, _, _⟩ := MA'.ex
      refine ⟨rfl, _, rfl, q.1, C, dx, _, _, rfl, hp, S.cl, S.nM, f_many _ _ _ _, _, hD, ?_, ?_, ?_⟩
      · rw [List.length_map, List.length_map, List.length_take]; exact smallt (by omega)
      · intro u o hu
        rw [upd_ne (ne_of_none hu nD)]
        exact s2 _ _ hu
      · rw [upd_same, List.take_add_one, hq, List.map_append, List.map_append]; rfl
    rintro Hy ⟨s2, hD⟩
    rw [List.length_map, List.take_length, show L4.map (fun q => q.2.1) = [M, b - 1, b - 1, M] by rw [eL4]; rfl] at hD
    have ebI : (b : Int) - 1 = ((b - 1 : Nat) : Int) := by omega
    have nice4 : Nice 100 1 (.list (([M, b - 1, b - 1, M] : List Nat).map fun x : Nat => PyData.int (x : Int))) := nice_natL (show 4 ≤ 10 by decide) fun x hx => by
      simp only [List.mem_cons, List.not_mem_nil, or_false] at hx
      omega
    refine ⟨_, rfl, D, _, _, _, rfl, .lst (tofL hD) (dpa_nats _), nice4, by decide, by decide, _, rfl, _, rfl, _, 1, rfl, rfl, _, rfl, _, 1, rfl, rfl, _, rfl, (show 4 ≤ sizeLine from small (by decide)), fun l2 nl2 => ?_⟩
    refine ⟨l2, .list (([M, b - 1, b - 1, M] : List Nat).map fun x : Nat => PyData.int (x : Int)), _, _, rfl, .lst (tofL upd_same) ?_, nice4, by decide, by decide, rfl, _, rfl, iteNS rfl ?_⟩
    · show DpAll K _ [V.int (M : Int), V.int ((b : Int) - 1), V.int ((b : Int) - 1), V.int (M : Int)] _
      rw [ebI]
      exact dpa_nats [M, b - 1, b - 1, M]
    have s3 := s2.trans (Same.new (o := .lst [.int (M : Int), .int ((b : Int) - 1), .int ((b : Int) - 1), .int (M : Int)]) nl2)
    have R5 := R4.same s3
    have D8 := D7.same s3
    have M8 := M7.trans (Mv.of s3)
    revert R5 D8 M8
    generalize upd Hy l2 (.lst [.int (M : Int), .int ((b : Int) - 1), .int ((b : Int) - 1), .int (M : Int)]) = H8
    intro R5 D8 M8
    refine ⟨_, rfl, l, rfl, ⟨_, tofL R5.at_⟩, fun D2 nD2 => ?_⟩
    refine lc_list (K := K) (a := l) (xs := L4.map fun q => V.ref q.1) (fun i Hy => Same H8 Hy ∧ Hy D2 = some (.lst [])) ⟨Same.new nD2, upd_same⟩ (fun i Hy _ h => tofL (h.1 _ _ R5.at_)) ?_ ?_
    · rintro i y Hy hi ⟨s2, hD2⟩
      rw [List.getElem?_map] at hi
      obtain ⟨q, hq, rfl⟩ := Option.map_eq_some_iff.mp hi
      obtain ⟨S', B', n', MA', K'⟩ := (R5.is q (List.mem_of_getElem? hq)).same s2
      obtain ⟨dx, a, x, hp, _, _⟩ := MA'.ex
      exact ⟨rfl, _, rfl, q.1, C, dx, _, _, rfl, hp, S.cl, S.nB, f_base _ _ _ _, _, rfl, rfl, _, rfl, iteNS rfl ⟨_, rfl, q.1, S', B', b, n', q.2.1, rfl, MA', K'.stay, fun Hu su => ⟨_, rfl, iteF ⟨s2.trans su, su _ _ hD2⟩⟩⟩⟩
    rintro Hy ⟨s4, hD2⟩
    refine ⟨Nat.zero_le _, fun o no => ?_⟩
    have so := Same.new (o := .lst []) no
    refine ⟨_, _, .lst (tofL (so _ _ hD2)) .nil, .lst (tofL upd_same) .nil, shaped_ints [], shaped_ints [], _, rfl, iteF ?_⟩
    have R9 := R5.same (s4.trans so)
    have D9 := D8.same (s4.trans so)
    have M9 := M8.trans (Mv.of (s4.trans so))
    revert R9 D9 M9
    generalize upd Hy o (.lst []) = H9
    intro R9 D9 M9
    refine ⟨4, rfl, by decide, by decide, for_range (fun i σ Hx => ∃ v6 v7 v8 : Option V, σ = [some (.ref d), some (.int (b : Int)), some (.int (M : Int)), some (.ref l), some (.ref D), none, v6, v7, v8] ∧ Rds K C Hx l b L4 ∧ Dk ks Hx d g (c + 10 * (8 - i)) ∧ Mv d g H Hx) ⟨none, none, none, rfl, R9, D9.mono (by omega), M9⟩ ?_ ?_⟩
    · rintro i σ Hx hi ⟨v6, v7, v8, rfl, Ra, Da, Ma⟩
      have hi4 : i < 4 := hi
      refine ⟨_, rfl, _, rfl, d, g, b, c + 10 * (8 - (i + 1)), rfl, Da.mono (by omega), b2, bB, fun k Hk k0 kB Dk' Mk => ?_⟩
      have Rk := Ra.mv Da Mk ⟨ol1, ol2⟩
      have kB' : k < 2 ^ 1000 := Nat.lt_trans kB (Nat.pow_lt_pow_right (by decide) (by decide))
      refine ⟨_, rfl, l, rfl, ⟨_, tofL Rk.at_⟩, fun D3 nD3 => ?_⟩
      refine lc_list (K := K) (a := l) (xs := L4.map fun q => V.ref q.1) (fun i Hy => Same Hk Hy ∧ Hy D3 = some (.lst (((L4.take i).map fun q => q.2.2 k).map vI))) ⟨Same.new nD3, upd_same⟩ (fun i Hy _ h => tofL (h.1 _ _ Rk.at_)) ?_ ?_
      · rintro j y Hy hj ⟨s2, hD⟩
        rw [List.getElem?_map] at hj
        obtain ⟨q, hq, rfl⟩ := Option.map_eq_some_iff.mp hj
        obtain ⟨S', B', n', MA', K'⟩ := (Rk.is q (List.mem_of_getElem? hq)).same s2
        obtain ⟨dx, a, x, hp, _, _⟩ := MA'.ex
        refine ⟨rfl, _, rfl, q.1, rfl, _, rfl, ⟨dx, _, hp⟩, q.1, S', B', b, n', q.2.1, k, rfl, MA', kB', fun Hu su => ⟨_, su _ _ hD, ?_, ?_, ?_⟩⟩
        · rw [List.length_map, List.length_map, List.length_take]; exact smallt (by omega)
        · intro u o hu
          rw [upd_ne (ne_of_none hu nD3)]
          exact su _ _ (s2 _ _ hu)
        · rw [upd_same, List.take_add_one, hq, List.map_append, List.map_append, K'.val k k0]; rfl
      rintro Hy ⟨s2, hD⟩
      rw [List.length_map, List.take_length, show L4.map (fun q => q.2.2 k) = duesL b M k by rw [eL4]; rfl] at hD
      have niceD : Nice 100 1 (.list ((duesL b M k).map fun x : Nat => PyData.int (x : Int))) := nice_natL (show 4 ≤ 10 by decide) fun x hx => by
        have e1 : duesL b M k = L4.map (fun q => q.2.2 k) := by rw [eL4]; rfl
        rw [e1] at hx
        obtain ⟨q, hq, rfl⟩ := List.mem_map.mp hx
        have := (Rk.is q hq).lt k0
        omega
      refine ⟨_, rfl, D3, _, _, _, rfl, .lst (tofL hD) (dpa_nats _), niceD, by decide, by decide, ?_⟩
      refine ⟨_, rfl, _, rfl, _, rfl, b, M, k, rfl, b2, bB, M0, k0, kB, fun pz Hz sz hz => ⟨pz, _, _, _, rfl, .lst (tofL hz) (dpa_nats _), niceD, by decide, by decide, rfl, _, rfl, iteNS rfl ?_⟩⟩
      have u := s2.trans sz
      exact ⟨_, _, _, rfl, Rk.same u, Dk'.same u, (Ma.trans Mk).trans (Mv.of u)⟩
    · rintro σ Hx ⟨v6, v7, v8, rfl, Ra, Da, Ma⟩
      exact q Hx (Da.mono (by omega)) Ma
abbrev s_law : Stmt := topS 20
theorem sc_law : FnScope ["_law_script", "_law_deck_here", "_law_radix"] ["_law_script"] (defScope s_law) := ⟨rfl, rfl, rfl, by decide +kernel, rfl, by decide +kernel, by decide +kernel⟩
theorem ok_law {f : Addr} {fd : FuncData} (F : Fun K "law" "law" s_law f fd) (T : Bl mg) (D_deck : DefG P w K mg base 1 "_law_deck" ["_law_script"] (spDck K ks)) (D_right : DefG P w K mg base 5 "_law_right" ["_law_deck_here", "_law_radix"] spRight) :
    FnG P w K mg base CX0 6 f fd ["_law_script"] (spLaw K) := by
  refine okG F sc_law (fun vs H Q E h => ?_) fun cdv A outer s H vs Q E hr hc h => ?_
  · obtain ⟨a, ns, rfl, _⟩ := h
    rfl
  · obtain ⟨a, ns, rfl, hS, hl, q⟩ := h
    have nd := sc_law.nd
    refine ⟨_, (pss_cons (ps_set (i := 1) nd rfl (by first | exact Or.inl rfl | exact Or.inr rfl) (pe_def D_deck (hr.mono (by decide)) hc (by rfl) (pa_cons (pv 0) pa_nil)))
      (pss_cons (ps_for PassesOwn.never rfl (pi_range2 (by rfl) T.range (pa_cons pe_int (pa_cons pe_int pa_nil))) (pg_name (i := 2) nd rfl (by first | exact Or.inl rfl | exact Or.inr rfl))
        (pss_one (ps_if (pt_not (pt_val (pe_def D_right (hr.mono (by decide)) hc (by rfl) (pa_cons (pv 1) (pa_cons (pv 2) pa_nil)))))
          (pss_one (ps_ret pe_bl))
          pss_nil)))
      (pss_one (ps_ret pe_bl)))), ?_⟩
    refine ⟨_, rfl, a, ns, rfl, hS, hl, fun d g H1 s1 nd1 ng1 D1 => ?_⟩
    refine ⟨2, 11, rfl, ⟨by decide, by decide, by decide, by decide⟩, for_range (fun i σ Hx => ∃ v2, σ = [some (.ref a), some (.ref d), v2] ∧ Dk ks Hx d g (100 * (1000 - i))) ⟨none, rfl, D1.mono (by decide)⟩ ?_ ?_⟩
    · rintro i σ Hx hi ⟨v2, rfl, Dx⟩
      have hi4 : i < 9 := hi
      exact ⟨_, rfl, _, rfl, d, g, 2 + i, 100 * (1000 - (i + 1)), rfl, by omega, by omega, Dx.mono (by omega), fun Hy Dy My => ⟨_, rfl, iteF ⟨_, rfl, Dy⟩⟩⟩
    · rintro σ Hx ⟨v2, rfl, Dx⟩
      exact q Hx
end
end NK39
namespace NK39
open PySem PySem.Spec PyProof.Rows L2 GL G3
theorem all_mk {l : PySem.W.OpenLaw} {w : World} {K : PySem.W.Frag} {h : Heap} {mg : Str → Option Value} {fa f_draw f_pick f_deck f_rs f_db f_reached f_power f_number f_digits f_dues f_calm f_right f_law : Addr} (X : K.In h) (G : h.Ns mainGlobals mg) (hfa : mg "law" = some (.ref fa))
    {od_draw an_draw : Option Addr} {sl_draw : Array (Option Value)} {oc_draw kV_draw dc_draw pm_draw cd_draw ct_draw : Value}
    {od_pick an_pick : Option Addr} {sl_pick : Array (Option Value)} {oc_pick kV_pick dc_pick pm_pick cd_pick ct_pick : Value}
    {od_deck an_deck : Option Addr} {sl_deck : Array (Option Value)} {oc_deck kV_deck dc_deck pm_deck cd_deck ct_deck : Value}
    {od_rs an_rs : Option Addr} {sl_rs : Array (Option Value)} {oc_rs kV_rs dc_rs pm_rs cd_rs ct_rs : Value}
    {od_db an_db : Option Addr} {sl_db : Array (Option Value)} {oc_db kV_db dc_db pm_db cd_db ct_db : Value}
    {od_reached an_reached : Option Addr} {sl_reached : Array (Option Value)} {oc_reached kV_reached dc_reached pm_reached cd_reached ct_reached : Value}
    {od_power an_power : Option Addr} {sl_power : Array (Option Value)} {oc_power kV_power dc_power pm_power cd_power ct_power : Value}
    {od_number an_number : Option Addr} {sl_number : Array (Option Value)} {oc_number kV_number dc_number pm_number cd_number ct_number : Value}
    {od_digits an_digits : Option Addr} {sl_digits : Array (Option Value)} {oc_digits kV_digits dc_digits pm_digits cd_digits ct_digits : Value}
    {od_dues an_dues : Option Addr} {sl_dues : Array (Option Value)} {oc_dues kV_dues dc_dues pm_dues cd_dues ct_dues : Value}
    {od_calm an_calm : Option Addr} {sl_calm : Array (Option Value)} {oc_calm kV_calm dc_calm pm_calm cd_calm ct_calm : Value}
    {od_right an_right : Option Addr} {sl_right : Array (Option Value)} {oc_right kV_right dc_right pm_right cd_right ct_right : Value}
    {od_law an_law : Option Addr} {sl_law : Array (Option Value)} {oc_law kV_law dc_law pm_law cd_law ct_law : Value}
    {C fI fO f1 f2 f3 f4 p1 p2 p3 p4 : Addr} {rest1 rest2 rest3 rest4 : List Value}
    {odI anI : Option Addr} {slI : Array (Option Value)} {ocI kVI dcI pmI cdI ctI : Value}
    {odO anO : Option Addr} {slO : Array (Option Value)} {ocO kVO dcO pmO cdO ctO : Value}
    {od1 an1 : Option Addr} {sl1 : Array (Option Value)} {oc1 kV1 dc1 pm1 cd1 ct1 : Value}
    {od2 an2 : Option Addr} {sl2 : Array (Option Value)} {oc2 kV2 dc2 pm2 cd2 ct2 : Value}
    {od3 an3 : Option Addr} {sl3 : Array (Option Value)} {oc3 kV3 dc3 pm3 cd3 ct3 : Value}
    {od4 an4 : Option Addr} {sl4 : Array (Option Value)} {oc4 kV4 dc4 pm4 cd4 ct4 : Value}
    (a_draw : PySem.W.nsIn K mainGlobals "_law_draw" = some (some (.ref f_draw)))
    (l_draw : K.lookup f_draw = some ⟨oc_draw, od_draw, .func (PySem.W.fnOf "_law_draw" "_law_draw" (defArgs s_draw) (defBody s_draw) (defScope s_draw) .none kV_draw dc_draw pm_draw an_draw cd_draw ct_draw), sl_draw⟩)
    (c_draw : PySem.W.codeIn K cd_draw "_law_draw" = true) (k_draw : PySem.W.keepIn K (.ref f_draw) = true)
    (a_pick : PySem.W.nsIn K mainGlobals "_law_pick" = some (some (.ref f_pick)))
    (l_pick : K.lookup f_pick = some ⟨oc_pick, od_pick, .func (PySem.W.fnOf "_law_pick" "_law_pick" (defArgs s_pick) (defBody s_pick) (defScope s_pick) .none kV_pick dc_pick pm_pick an_pick cd_pick ct_pick), sl_pick⟩)
    (c_pick : PySem.W.codeIn K cd_pick "_law_pick" = true) (k_pick : PySem.W.keepIn K (.ref f_pick) = true)
    (a_deck : PySem.W.nsIn K mainGlobals "_law_deck" = some (some (.ref f_deck)))
    (l_deck : K.lookup f_deck = some ⟨oc_deck, od_deck, .func (PySem.W.fnOf "_law_deck" "_law_deck" (defArgs s_deck) (defBody s_deck) (defScope s_deck) .none kV_deck dc_deck pm_deck an_deck cd_deck ct_deck), sl_deck⟩)
    (c_deck : PySem.W.codeIn K cd_deck "_law_deck" = true) (k_deck : PySem.W.keepIn K (.ref f_deck) = true)
    (a_rs : PySem.W.nsIn K mainGlobals "_reached_states" = some (some (.ref f_rs)))
    (l_rs : K.lookup f_rs = some ⟨oc_rs, od_rs, .func (PySem.W.fnOf "_reached_states" "_reached_states" (defArgs s_reached_states) (defBody s_reached_states) (defScope s_reached_states) .none kV_rs dc_rs pm_rs an_rs cd_rs ct_rs), sl_rs⟩)
    (c_rs : PySem.W.codeIn K cd_rs "_reached_states" = true) (k_rs : PySem.W.keepIn K (.ref f_rs) = true)
    (a_db : PySem.W.nsIn K mainGlobals "_digit_boxes" = some (some (.ref f_db)))
    (l_db : K.lookup f_db = some ⟨oc_db, od_db, .func (PySem.W.fnOf "_digit_boxes" "_digit_boxes" (defArgs s_digit_boxes) (defBody s_digit_boxes) (defScope s_digit_boxes) .none kV_db dc_db pm_db an_db cd_db ct_db), sl_db⟩)
    (c_db : PySem.W.codeIn K cd_db "_digit_boxes" = true) (k_db : PySem.W.keepIn K (.ref f_db) = true)
    (a_reached : PySem.W.nsIn K mainGlobals "_law_reached" = some (some (.ref f_reached)))
    (l_reached : K.lookup f_reached = some ⟨oc_reached, od_reached, .func (PySem.W.fnOf "_law_reached" "_law_reached" (defArgs s_reached) (defBody s_reached) (defScope s_reached) .none kV_reached dc_reached pm_reached an_reached cd_reached ct_reached), sl_reached⟩)
    (c_reached : PySem.W.codeIn K cd_reached "_law_reached" = true) (k_reached : PySem.W.keepIn K (.ref f_reached) = true)
    (a_power : PySem.W.nsIn K mainGlobals "_law_power" = some (some (.ref f_power)))
    (l_power : K.lookup f_power = some ⟨oc_power, od_power, .func (PySem.W.fnOf "_law_power" "_law_power" (defArgs s_power) (defBody s_power) (defScope s_power) .none kV_power dc_power pm_power an_power cd_power ct_power), sl_power⟩)
    (c_power : PySem.W.codeIn K cd_power "_law_power" = true) (k_power : PySem.W.keepIn K (.ref f_power) = true)
    (a_number : PySem.W.nsIn K mainGlobals "_law_number" = some (some (.ref f_number)))
    (l_number : K.lookup f_number = some ⟨oc_number, od_number, .func (PySem.W.fnOf "_law_number" "_law_number" (defArgs s_number) (defBody s_number) (defScope s_number) .none kV_number dc_number pm_number an_number cd_number ct_number), sl_number⟩)
    (c_number : PySem.W.codeIn K cd_number "_law_number" = true) (k_number : PySem.W.keepIn K (.ref f_number) = true)
    (a_digits : PySem.W.nsIn K mainGlobals "_law_digits" = some (some (.ref f_digits)))
    (l_digits : K.lookup f_digits = some ⟨oc_digits, od_digits, .func (PySem.W.fnOf "_law_digits" "_law_digits" (defArgs s_digits) (defBody s_digits) (defScope s_digits) .none kV_digits dc_digits pm_digits an_digits cd_digits ct_digits), sl_digits⟩)
    (c_digits : PySem.W.codeIn K cd_digits "_law_digits" = true) (k_digits : PySem.W.keepIn K (.ref f_digits) = true)
    (a_dues : PySem.W.nsIn K mainGlobals "_law_dues" = some (some (.ref f_dues)))
    (l_dues : K.lookup f_dues = some ⟨oc_dues, od_dues, .func (PySem.W.fnOf "_law_dues" "_law_dues" (defArgs s_dues) (defBody s_dues) (defScope s_dues) .none kV_dues dc_dues pm_dues an_dues cd_dues ct_dues), sl_dues⟩)
    (c_dues : PySem.W.codeIn K cd_dues "_law_dues" = true) (k_dues : PySem.W.keepIn K (.ref f_dues) = true)
    (a_calm : PySem.W.nsIn K mainGlobals "_law_is_calm" = some (some (.ref f_calm)))
    (l_calm : K.lookup f_calm = some ⟨oc_calm, od_calm, .func (PySem.W.fnOf "_law_is_calm" "_law_is_calm" (defArgs s_is_calm) (defBody s_is_calm) (defScope s_is_calm) .none kV_calm dc_calm pm_calm an_calm cd_calm ct_calm), sl_calm⟩)
    (c_calm : PySem.W.codeIn K cd_calm "_law_is_calm" = true) (k_calm : PySem.W.keepIn K (.ref f_calm) = true)
    (a_right : PySem.W.nsIn K mainGlobals "_law_right" = some (some (.ref f_right)))
    (l_right : K.lookup f_right = some ⟨oc_right, od_right, .func (PySem.W.fnOf "_law_right" "_law_right" (defArgs s_right) (defBody s_right) (defScope s_right) .none kV_right dc_right pm_right an_right cd_right ct_right), sl_right⟩)
    (c_right : PySem.W.codeIn K cd_right "_law_right" = true) (k_right : PySem.W.keepIn K (.ref f_right) = true)
    (a_law : PySem.W.nsIn K mainGlobals "law" = some (some (.ref f_law)))
    (l_law : K.lookup f_law = some ⟨oc_law, od_law, .func (PySem.W.fnOf "law" "law" (defArgs s_law) (defBody s_law) (defScope s_law) .none kV_law dc_law pm_law an_law cd_law ct_law), sl_law⟩)
    (c_law : PySem.W.codeIn K cd_law "law" = true) (k_law : PySem.W.keepIn K (.ref f_law) = true)
    (aC : PySem.W.nsIn K mainGlobals "Machine" = some (some (.ref C)))
    (aI : PySem.W.findIn K (.ref C) "__init__" = some (some (.ref fI))) (iI : PySem.W.isFn K (.ref fI) = true) (lI : K.lookup fI = some ⟨ocI, odI, .func (PySem.W.fnOf "__init__" "Machine.__init__" (defArgs s_Machine_init) (defBody s_Machine_init) (defScope s_Machine_init) .none kVI dcI pmI anI cdI ctI), slI⟩) (cI : PySem.W.codeIn K cdI "Machine.__init__" = true) (kI : PySem.W.keepIn K (.ref fI) = true)
    (aO : PySem.W.findIn K (.ref C) "__call__" = some (some (.ref fO))) (iO : PySem.W.isFn K (.ref fO) = true) (lO : K.lookup fO = some ⟨ocO, odO, .func (PySem.W.fnOf "__call__" "Machine.__call__" (defArgs s_Machine_call) (defBody s_Machine_call) (defScope s_Machine_call) .none kVO dcO pmO anO cdO ctO), slO⟩) (cO : PySem.W.codeIn K cdO "Machine.__call__" = true) (kO : PySem.W.keepIn K (.ref fO) = true)
    (nO : PySem.W.fnIn K fO = true)
    (pg : PySem.W.plainGet K C Str.empty = true) (hd : PySem.W.hasDictIn K C = true) (po : PySem.W.plainOver K C = true) (sa : PySem.W.findIn K (.ref C) "__setattr__" = some (some (.builtin "object.__setattr__"))) (mk : PySem.W.makesIn K C = true) (kc : PySem.W.keepIn K (.ref C) = true)
    (nB : PySem.W.findIn K (.ref C) "base" = some none) (nS : PySem.W.findIn K (.ref C) "steps" = some none) (nX : PySem.W.findIn K (.ref C) "boxes" = some none) (nM : PySem.W.findIn K (.ref C) "many" = some none)
    (ga : PySem.W.specialIn K (.ref C) "__getattribute__" = some (some (.builtin "type.__getattribute__"))) (rd : PySem.W.readsIn K C (.type "type") = true)
    (e1 : PySem.W.findCls K (.ref C) (.type "type") "modulo" = some (.get (.builtin "staticmethod.__get__") (.ref p1) .none (.ref C))) (r1 : PySem.W.recIn K p1 "staticmethod" = some (.ref f1 :: rest1)) (l1 : K.lookup f1 = some ⟨oc1, od1, .func (PySem.W.fnOf "modulo" "Machine.modulo" (defArgs s_Machine_modulo) (defBody s_Machine_modulo) (defScope s_Machine_modulo) .none kV1 dc1 pm1 an1 cd1 ct1), sl1⟩) (c1 : PySem.W.codeIn K cd1 "Machine.modulo" = true) (k1 : PySem.W.keepIn K (.ref f1) = true)
    (e2 : PySem.W.findCls K (.ref C) (.type "type") "last" = some (.get (.builtin "staticmethod.__get__") (.ref p2) .none (.ref C))) (r2 : PySem.W.recIn K p2 "staticmethod" = some (.ref f2 :: rest2)) (l2 : K.lookup f2 = some ⟨oc2, od2, .func (PySem.W.fnOf "last" "Machine.last" (defArgs s_Machine_last) (defBody s_Machine_last) (defScope s_Machine_last) .none kV2 dc2 pm2 an2 cd2 ct2), sl2⟩) (c2 : PySem.W.codeIn K cd2 "Machine.last" = true) (k2 : PySem.W.keepIn K (.ref f2) = true)
    (e3 : PySem.W.findCls K (.ref C) (.type "type") "first" = some (.get (.builtin "staticmethod.__get__") (.ref p3) .none (.ref C))) (r3 : PySem.W.recIn K p3 "staticmethod" = some (.ref f3 :: rest3)) (l3 : K.lookup f3 = some ⟨oc3, od3, .func (PySem.W.fnOf "first" "Machine.first" (defArgs s_Machine_first) (defBody s_Machine_first) (defScope s_Machine_first) .none kV3 dc3 pm3 an3 cd3 ct3), sl3⟩) (c3 : PySem.W.codeIn K cd3 "Machine.first" = true) (k3 : PySem.W.keepIn K (.ref f3) = true)
    (e4 : PySem.W.findCls K (.ref C) (.type "type") "sums" = some (.get (.builtin "staticmethod.__get__") (.ref p4) .none (.ref C))) (r4 : PySem.W.recIn K p4 "staticmethod" = some (.ref f4 :: rest4)) (l4 : K.lookup f4 = some ⟨oc4, od4, .func (PySem.W.fnOf "sums" "Machine.sums" (defArgs s_Machine_sums) (defBody s_Machine_sums) (defScope s_Machine_sums) .none kV4 dc4 pm4 an4 cd4 ct4), sl4⟩) (c4 : PySem.W.codeIn K cd4 "Machine.sums" = true) (k4 : PySem.W.keepIn K (.ref f4) = true)
    (z_int : PySem.W.nsIn K mainGlobals "int" = some none)
    (z_len : PySem.W.nsIn K mainGlobals "len" = some none)
    (z_range : PySem.W.nsIn K mainGlobals "range" = some none)
    (z_list : PySem.W.nsIn K mainGlobals "list" = some none)
    (z_repr : PySem.W.nsIn K mainGlobals "repr" = some none)
    (z_max : PySem.W.nsIn K mainGlobals "max" = some none)
    (z_sorted : PySem.W.nsIn K mainGlobals "sorted" = some none)
    (z_tuple : PySem.W.nsIn K mainGlobals "tuple" = some none)
    (z_divmod : PySem.W.nsIn K mainGlobals "divmod" = some none)
    (z_sum : PySem.W.nsIn K mainGlobals "sum" = some none) :
    ∃ fd : FuncData, (∀ (s : Shared) (v : Value), BindsTo s fd ⟨[v], []⟩ [("_law_script", v)]) ∧ ∀ base : Heap, K.In base → base.Ns mainGlobals mg → FnG l.prog w K mg base CX0 6 fa fd ["_law_script"] (spLaw K) := by
  have e := hfa.symm.trans (PySem.W.mg_of X G a_law)
  cases e
  have F_draw := fun_mk (st := s_draw) l_draw c_draw k_draw
  have g_draw := PySem.W.mg_of X G a_draw
  have F_pick := fun_mk (st := s_pick) l_pick c_pick k_pick
  have g_pick := PySem.W.mg_of X G a_pick
  have F_deck := fun_mk (st := s_deck) l_deck c_deck k_deck
  have g_deck := PySem.W.mg_of X G a_deck
  have F_rs := fun_mk (st := s_reached_states) l_rs c_rs k_rs
  have g_rs := PySem.W.mg_of X G a_rs
  have F_db := fun_mk (st := s_digit_boxes) l_db c_db k_db
  have g_db := PySem.W.mg_of X G a_db
  have F_reached := fun_mk (st := s_reached) l_reached c_reached k_reached
  have g_reached := PySem.W.mg_of X G a_reached
  have F_power := fun_mk (st := s_power) l_power c_power k_power
  have g_power := PySem.W.mg_of X G a_power
  have F_number := fun_mk (st := s_number) l_number c_number k_number
  have g_number := PySem.W.mg_of X G a_number
  have F_digits := fun_mk (st := s_digits) l_digits c_digits k_digits
  have g_digits := PySem.W.mg_of X G a_digits
  have F_dues := fun_mk (st := s_dues) l_dues c_dues k_dues
  have g_dues := PySem.W.mg_of X G a_dues
  have F_calm := fun_mk (st := s_is_calm) l_calm c_calm k_calm
  have g_calm := PySem.W.mg_of X G a_calm
  have F_right := fun_mk (st := s_right) l_right c_right k_right
  have g_right := PySem.W.mg_of X G a_right
  have F_law := fun_mk (st := s_law) l_law c_law k_law
  have T : Bl mg := ⟨PySem.W.mg_none_of X G z_int, PySem.W.mg_none_of X G z_len, PySem.W.mg_none_of X G z_range, PySem.W.mg_none_of X G z_list, PySem.W.mg_none_of X G z_repr, PySem.W.mg_none_of X G z_max, PySem.W.mg_none_of X G z_sorted, PySem.W.mg_none_of X G z_tuple, PySem.W.mg_none_of X G z_divmod, PySem.W.mg_none_of X G z_sum⟩
  refine ⟨PySem.W.fnOf "law" "law" (defArgs s_law) (defBody s_law) (defScope s_law) .none kV_law dc_law pm_law an_law cd_law ct_law, fun s v => .of_eq rfl, fun base _ _ => ?_⟩
  have S : Mac K mg C := ⟨⟨pg, hd, po, sa⟩, nB, nS, nX, nM, PySem.W.mg_of X G aC⟩
  have FI0 := fun_mk (st := s_Machine_init) lI cI kI
  have FO0 := fun_mk (st := s_Machine_call) lO cO kO
  have F1 := fun_mk (st := s_Machine_modulo) l1 c1 k1
  have F2 := fun_mk (st := s_Machine_last) l2 c2 k2
  have F3 := fun_mk (st := s_Machine_first) l3 c3 k3
  have F4 := fun_mk (st := s_Machine_sums) l4 c4 k4
  have D_draw := ok_draw (P := l.prog) (w := w) (base := base) F_draw g_draw T
  have D_pick := ok_pick F_pick g_pick T D_draw
  have D_deck := ok_deck (P := l.prog) (w := w) (base := base) F_deck g_deck T
  have D_rs := ok_reached_states (P := l.prog) (w := w) (base := base) F_rs g_rs T
  have D_db := ok_digit_boxes (P := l.prog) (w := w) (base := base) F_db g_db T
  have D_power := ok_power (P := l.prog) (w := w) (base := base) F_power g_power T
  have D_digits := ok_digits (P := l.prog) (w := w) (base := base) F_digits g_digits T
  have FI := ok_init FI0 S T D_rs
  have BI := FI0.binds (ps := ["self", "base", "steps", "boxes"]) fun _ _ _ _ _ _ us hl => match us, hl with | [_, _, _, _], _ => rfl
  have D_right := ok_right F_right g_right T S D_draw (ok_number F_number g_number T D_draw D_pick D_power) (ok_dues F_dues g_dues T D_digits) (ok_is_calm F_calm g_calm T S (ok_reached (P := l.prog) (w := w) (base := base) F_reached g_reached T))
    ⟨aO, iO, nO⟩ (ok_call FO0 S T) (FO0.binds fun _ _ _ _ _ _ us hl => match us, hl with | [_, _], _ => rfl)
    ⟨ga, rd, ⟨_, _, e1, r1⟩, k1⟩ (ok_modulo F1 T S ⟨mk, aI, iI, kc⟩ FI BI) (F1.binds fun _ _ _ _ _ _ us hl => match us, hl with | [_, _], _ => rfl) ⟨fun _ ws => ws.reverse, ⟨fun s us ws _ h1 h2 => match us, ws, h1, h2 with | [], [_, _], _, _ => .of_eq rfl, fun _ r2 => vals_rev r2⟩⟩
    ⟨ga, rd, ⟨_, _, e2, r2⟩, k2⟩ (ok_last F2 T S ⟨mk, aI, iI, kc⟩ FI BI D_db) (F2.binds fun _ _ _ _ _ _ us hl => match us, hl with | [_], _ => rfl) ⟨fun _ ws => ws.reverse, ⟨fun s us ws _ h1 h2 => match us, ws, h1, h2 with | [], [_], _, _ => .of_eq rfl, fun _ r2 => vals_rev r2⟩⟩
    ⟨ga, rd, ⟨_, _, e3, r3⟩, k3⟩ (ok_first F3 T S ⟨mk, aI, iI, kc⟩ FI BI D_db) (F3.binds fun _ _ _ _ _ _ us hl => match us, hl with | [_], _ => rfl) ⟨fun _ ws => ws.reverse, ⟨fun s us ws _ h1 h2 => match us, ws, h1, h2 with | [], [_], _, _ => .of_eq rfl, fun _ r2 => vals_rev r2⟩⟩
    ⟨ga, rd, ⟨_, _, e4, r4⟩, k4⟩ (ok_sums F4 T S ⟨mk, aI, iI, kc⟩ FI BI) ⟨fun _ ws => ws.reverse, ⟨fun s us ws _ h1 h2 => match us, ws, h1, h2 with | [], [_, _], _, _ => .of_eq rfl, fun _ r2 => vals_rev r2⟩⟩
  exact ok_law F_law T D_deck D_right
end NK39
open PySem PySem.W PyProof.Rows
set_option maxRecDepth 100000 in
set_option maxHeartbeats 0 in
theorem PySem.Challenge.cw_whateverboxes_k39_four_kinds_of_machines_holds : PySem.Challenge.rw_whateverboxes_k39_four_kinds_of_machines.Holds := by
  w_on; o_law; k_head; (case hw => w_witness2)
  k_fill
  refine G3.walk (k := 6) (l := PySem.Challenge.rw_whateverboxes_k39_four_kinds_of_machines) rfl rfl ⟨rfl, by decide, by decide⟩ (fun w h Y => PySem.W.kIn_of Y) ?F
  case F =>
    intro w mg fa h KX G hmg
    refine' NK39.all_mk KX G hmg ?a_draw ?l_draw ?c_draw ?k_draw ?a_pick ?l_pick ?c_pick ?k_pick ?a_deck ?l_deck ?c_deck ?k_deck ?a_rs ?l_rs ?c_rs ?k_rs ?a_db ?l_db ?c_db ?k_db ?a_reached ?l_reached ?c_reached ?k_reached ?a_power ?l_power ?c_power ?k_power ?a_number ?l_number ?c_number ?k_number ?a_digits ?l_digits ?c_digits ?k_digits ?a_dues ?l_dues ?c_dues ?k_dues ?a_calm ?l_calm ?c_calm ?k_calm ?a_right ?l_right ?c_right ?k_right ?a_law ?l_law ?c_law ?k_law ?aC ?aI ?iI ?lI ?cI ?kI ?aO ?iO ?lO ?cO ?kO ?nO ?pg ?hd ?po ?sa ?mk ?kc ?nB ?nS ?nX ?nM ?ga ?rd ?e1 ?r1 ?l1 ?c1 ?k1 ?e2 ?r2 ?l2 ?c2 ?k2 ?e3 ?r3 ?l3 ?c3 ?k3 ?e4 ?r4 ?l4 ?c4 ?k4 ?z_int ?z_len ?z_range ?z_list ?z_repr ?z_max ?z_sorted ?z_tuple ?z_divmod ?z_sum
    (case a_draw => k_is)
    (case l_draw => k_is)
    (case c_draw => k_is)
    (case k_draw => k_is)
    (case a_pick => k_is)
    (case l_pick => k_is)
    (case c_pick => k_is)
    (case k_pick => k_is)
    (case a_deck => k_is)
    (case l_deck => k_is)
    (case c_deck => k_is)
    (case k_deck => k_is)
    (case a_rs => k_is)
    (case l_rs => k_is)
    (case c_rs => k_is)
    (case k_rs => k_is)
    (case a_db => k_is)
    (case l_db => k_is)
    (case c_db => k_is)
    (case k_db => k_is)
    (case a_reached => k_is)
    (case l_reached => k_is)
    (case c_reached => k_is)
    (case k_reached => k_is)
    (case a_power => k_is)
    (case l_power => k_is)
    (case c_power => k_is)
    (case k_power => k_is)
    (case a_number => k_is)
    (case l_number => k_is)
    (case c_number => k_is)
    (case k_number => k_is)
    (case a_digits => k_is)
    (case l_digits => k_is)
    (case c_digits => k_is)
    (case k_digits => k_is)
    (case a_dues => k_is)
    (case l_dues => k_is)
    (case c_dues => k_is)
    (case k_dues => k_is)
    (case a_calm => k_is)
    (case l_calm => k_is)
    (case c_calm => k_is)
    (case k_calm => k_is)
    (case a_right => k_is)
    (case l_right => k_is)
    (case c_right => k_is)
    (case k_right => k_is)
    (case a_law => k_is)
    (case l_law => k_is)
    (case c_law => k_is)
    (case k_law => k_is)
    (case aC => k_is)
    (case aI => k_is)
    (case iI => k_is)
    (case lI => k_is)
    (case cI => k_is)
    (case kI => k_is)
    (case aO => k_is)
    (case iO => k_is)
    (case lO => k_is)
    (case cO => k_is)
    (case kO => k_is)
    (case nO => k_is)
    (case pg => k_is)
    (case hd => k_is)
    (case po => k_is)
    (case sa => k_is)
    (case mk => k_is)
    (case kc => k_is)
    (case nB => k_is)
    (case nS => k_is)
    (case nX => k_is)
    (case nM => k_is)
    (case ga => k_is)
    (case rd => k_is)
    (case e1 => k_is)
    (case r1 => k_is)
    (case l1 => k_is)
    (case c1 => k_is)
    (case k1 => k_is)
    (case e2 => k_is)
    (case r2 => k_is)
    (case l2 => k_is)
    (case c2 => k_is)
    (case k2 => k_is)
    (case e3 => k_is)
    (case r3 => k_is)
    (case l3 => k_is)
    (case c3 => k_is)
    (case k3 => k_is)
    (case e4 => k_is)
    (case r4 => k_is)
    (case l4 => k_is)
    (case c4 => k_is)
    (case k4 => k_is)
    (case z_int => k_is)
    (case z_len => k_is)
    (case z_range => k_is)
    (case z_list => k_is)
    (case z_repr => k_is)
    (case z_max => k_is)
    (case z_sorted => k_is)
    (case z_tuple => k_is)
    (case z_divmod => k_is)
    (case z_sum => k_is)
