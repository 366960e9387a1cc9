import PyProof.Rows.All
import Wide.All
import OpenK.AllK
import Wide.FinOn
import HandS.ForMost
import HandS.Wide
import HandS.Style
import HandS.Zip
import HandS.MakeKwOnly
import HandS.MakeKw
import HandS.Walk
import HandS.TupAny
import HandS.Conv
import HandS.TupMul
import KE.KRevSl
import HandS.Strs
import HandS.Star
import HandS.Codes
import PyProof.Draws
import HandS.Iter
import HandS.SetFor
import KE.KTupSum
import PyProof.RulesMatchSeq
import PyProof.Rows.MatchSeqLen
import HandS.Defaults
import HandS.SortInts
import HandS.IsInst
import HandS.Flow
import KE.DataEq
import PySem.Challenge.RW_whateverboxes_k29_right_forms_by_any_han
set_option Elab.async false
set_option linter.all false
set_option maxRecDepth 100000
set_option maxHeartbeats 4000000
namespace GL
open PySem PySem.Spec PyProof.Rows L2

/-- nothing that guards itself against its own turn is under way -/
def Calm (A : Around) : Prop := A.guards = some []
theorem Calm.deeper {A : Around} (g : Calm A) (env : Env) : Calm (A.deeper env) := g
theorem Calm.make {A : Around} (g : Calm A) (C : Addr) (us : List Value) (kw : List (Str × Value)) : Calm (A.under (.builtin "type.__call__" ⟨.ref C :: us, kw⟩)) := by
  unfold Calm at *
  simp only [Around.under, Code.guards, Code.isGuard, guardIds]
  first | exact g | (rw [g]; rfl) | (simp [g])

/-- a def keeps its promise wherever no guard is under way -/
structure FnG (P : Program) (w : World) (K : PySem.W.Frag) (mg : Str → Option Value) (base : Heap) (CX : CXT) (k : Nat) (f : Addr) (fd : FuncData) (ps : List Str) (sp : Sp) : Prop where
  len : ∀ vs H Q E, sp vs H Q E → vs.length = ps.length
  run : ∀ (A : Around) (outer : List Env) (s : Shared) (H : Hp) (args : Args) (us : List Value) (vs : List V) (Q : VK) (E : XK),
    Room k A → Calm A → Env0 P w K mg base A outer s H → BindsTo s fd args (ps.zip us) → Vals vs us → sp vs H Q E →
    codeAny (model P w) A (.call (.ref f) args) (CR CX outer P w H s Q E) s
section
variable {P : Program} {w : World} {K : PySem.W.Frag} {mg : Str → Option Value} {base : Heap} {CX : CXT} {j k : Nat} {f : Addr} {fd : FuncData} {ps : List Str} {sp sp' : Sp}
theorem FnG.up (F : FnG P w K mg base CX j f fd ps sp) (h : j ≤ k) : FnG P w K mg base CX k f fd ps sp where
  len := F.len
  run := fun A outer s H args us vs Q E r g => F.run A outer s H args us vs Q E (r.mono h) g
theorem FnG.of (F : FnOk P w K mg base CX k f fd ps sp) : FnG P w K mg base CX k f fd ps sp where
  len := F.len
  run := fun A outer s H args us vs Q E r _ => F.run A outer s H args us vs Q E r
end

/-! what is known of a def of the text by its callers -/
structure DefG (P : Program) (w : World) (K : PySem.W.Frag) (mg : Str → Option Value) (base : Heap) (k : Nat) (x : Str) (ps : List Str) (sp : Sp) : Prop where
  ex : ∃ (f : Addr) (fd : FuncData), FnG P w K mg base CX0 k f fd ps sp ∧ mg x = some (.ref f) ∧ PySem.W.keepIn K (.ref f) = true ∧ Binds K fd ps []

section
variable {X : Cx} {CX : CXT} {k n : Nat} {f C : Addr} {fd : FuncData} {ps ks : List Str} {sp : Sp} {dvs : List V} {ds : List Value} {E : XK} {x m : Str} {p pos apos : Pos} {e o : Expr} {es : List Expr} {ta : TE} {t tk : TA} {kws : List Keyword}
variable {g : List Value → List Value → List Value} {gV : List V → List V → List V}

theorem out_of {pins : List (Addr × Obj)} {σ : L2.St} {H : Hp} {s : Shared} {Q : VK} (hx : Passes CX X E) (I : Inv X pins σ H s) :
    ∀ (r : Result) (s' : Shared), CR CX X.stack X.prog X.w H s Q E r s' → (match r with | .ok (.ret u) => EP X pins σ Q u s' | .ok _ => False | .error e => X.xe e s')
  | .error e, s', q => hx pins σ H s e s' I q
  | .ok (.ret _), _, q => I.after q
  | .ok .next, _, q => q
  | .ok .brk, _, q => q
  | .ok .cont, _, q => q

theorem runG {pins : List (Addr × Obj)} {σ : L2.St} {H : Hp} {s : Shared} {Q : VK} {us : List Value} {vs : List V} (F : FnG X.prog X.w X.K X.mg X.base CX k f fd ps sp) (hr : Room k X.A) (hc : Calm X.A)
    (hb : Binds X.K fd ps ds) (hd : Vals dvs ds) (hx : Passes CX X E) (I : Inv X pins σ H s) (r : Vals vs us) (h : sp (vs ++ dvs) H Q E) :
    wpAny (model X.prog X.w) X.A (call (.ref f) us) (EP X pins σ Q) X.xe s := by
  have both : Vals (vs ++ dvs) (us ++ ds) := Vals.append r hd
  have long : (us ++ ds).length = ps.length := both.length.symm.trans (F.len _ _ _ _ h)
  have go := F.run X.A X.stack s H ⟨us, []⟩ (us ++ ds) (vs ++ dvs) Q E hr hc I.env0 (hb s us I.kIn long) both h
  refine wpAny_call (codeAny_mono go fun r' s' q => ?_)
  have z := out_of hx I r' s' q
  match r', z with
  | .error _, z => exact z
  | .ok (.ret _), z => exact z

theorem pe_def (D : DefG X.prog X.w X.K X.mg X.base k x ps sp) (hr : Room k X.A) (hc : Calm X.A) (hg : Gl X x) (ha : PA X (e :: es) t) (hdb : (x == ("__debug__" : Str)) = false := by decide)
    (he : starEach (e :: es) X.env = (false, eval e X.env) :: starEach es X.env := by rfl) (hpl : (backTo pos (starEach es X.env)).any (·.1) = false := by rfl) :
    PE X (.Call (.Name x p) (e :: es) [] pos) (tCall sp [] E0 t) := by
  obtain ⟨f, fd, F, hm, hk, hb⟩ := D.ex
  exact ⟨fun pins s σ H Q I h => wpAny_Call_Name_kw (ld_glob I hg hm (PySem.W.callWith_K (h₀ := X.base) I.ok.mod.kin hk
    (thn (ha.run pos pins s σ H _ I h) fun us s1 ⟨vs, H1, I1, r, q⟩ => ⟨I1.kIn, runG F hr hc hb .nil pass0 I1 r q⟩) he hpl) hdb)⟩

/-- a method with positional arguments -/
theorem pe_methG {pl : Sem Bool} (he : PE X o ta) (c : Cls X.K C) (hm : Meth X.K C m f) (F : FnG X.prog X.w X.K X.mg X.base CX k f fd ps sp) (hr : Room k X.A) (hc : Calm X.A) (hb : Binds X.K fd ps ds) (hd : Vals dvs ds) (hx : Passes CX X E)
    (ha : PA X (e :: es) t) (hst : starEach (e :: es) X.env = (false, eval e X.env) :: starEach es X.env := by rfl) (hpl : (backTo pos (starEach es X.env)).any (·.1) = false := by rfl)
    (ht : eval (.Call (.Attribute o m apos) (e :: es) [] pos) X.env = (eval o X.env >>= fun ov => standAt apos.atName >>= fun _ => holding [ov] (getMethod ov m pl) >>= fun fx =>
      callWith pos fx.1 fx.2 (backTo pos (starEach (e :: es) X.env)) (backToKw pos (keywordEach [] X.env))) := by rfl) :
    PE X (.Call (.Attribute o m apos) (e :: es) [] pos) (tMeth C m sp dvs E ta t) := by
  constructor
  intro pins s σ H Q I h
  refine PySem.W.methodCall_KW (pl := pl) (thn (he.run pins s σ H _ I h) ?_) ht
  rintro u s1 ⟨_, H1, I1, rx, a, dx, fs, rfl, ea, l, q⟩
  obtain rfl : u = .ref a := rx
  refine getmeth_ok I1 ea c hm l (PySem.W.callWith_K (first := [.ref a]) (h₀ := X.base) I.ok.mod.kin hm.kp (thn (ha.run pos pins s1 σ H1 _ I1 q) ?_) hst hpl)
  rintro us s2 ⟨vs, H2, I2, r, q2⟩
  exact ⟨I2.kIn, runG (us := .ref a :: us) (vs := .ref a :: vs) F hr hc hb hd hx I2 (.cons rfl r) q2⟩

/-- how keywords alone bind behind a receiver -/
def tMethK (C : Addr) (m : Str) (sp : Sp) (n : Nat) (gV : List V → List V → List V) (E : XK) (ta : TE) (tk : TA) : TE := fun σ H Q => ta σ H fun x H1 => ∃ a dx fs, x = .ref a ∧ H1 a = some (.ins C dx fs) ∧ fs.lookup m = none ∧
  tk σ H1 fun zs H2 => zs.length = n ∧ sp (gV [x] zs) H2 Q E
theorem runKG {pins : List (Addr × Obj)} {σ : L2.St} {H : Hp} {s : Shared} {Q : VK} {us ws : List Value} {vs zs : List V} (F : FnG X.prog X.w X.K X.mg X.base CX k f fd ps sp) (hr : Room k X.A) (hc : Calm X.A) (hb : KBn X.K fd ps n ks g gV) (hx : Passes CX X E)
    (I : Inv X pins σ H s) (r : Vals vs us) (rz : Vals zs ws) (l1 : vs.length = n) (l2 : zs.length = ks.length) (h : sp (gV vs zs) H Q E) :
    wpAny (model X.prog X.w) X.A (call (.ref f) us (ks.zip ws)) (EP X pins σ Q) X.xe s := by
  have go := F.run X.A X.stack s H ⟨us, ks.zip ws⟩ (g us ws) (gV vs zs) Q E hr hc I.env0 (hb.to s us ws I.kIn (r.length.symm.trans l1) (rz.length.symm.trans l2)) (hb.rel r rz) h
  refine wpAny_call (codeAny_mono go fun r' s' q => ?_)
  have z := out_of hx I r' s' q
  match r', z with
  | .error _, z => exact z
  | .ok (.ret _), z => exact z
theorem pe_methKG {pl : Sem Bool} (he : PE X o ta) (c : Cls X.K C) (hm : Meth X.K C m f) (F : FnG X.prog X.w X.K X.mg X.base CX k f fd ps sp) (hr : Room k X.A) (hc : Calm X.A) (hb : KBn X.K fd ps 1 ks g gV) (hx : Passes CX X E)
    (hkw : PK X kws tk) (hall : (backToKw pos (keywordEach kws X.env)).all (·.1.isSome) = true := by rfl) (hks : (backToKw pos (keywordEach kws X.env)).filterMap (·.1) = ks := by rfl)
    (hpl : ((backTo pos (starEach [] X.env)).any (·.1) || (backToKw pos (keywordEach kws X.env)).any (·.1.isNone)) = false := by rfl)
    (ht : eval (.Call (.Attribute o m apos) [] kws pos) X.env = (eval o X.env >>= fun ov => standAt apos.atName >>= fun _ => holding [ov] (getMethod ov m pl) >>= fun fx =>
      callWith pos fx.1 fx.2 (backTo pos (starEach [] X.env)) (backToKw pos (keywordEach kws X.env))) := by rfl) :
    PE X (.Call (.Attribute o m apos) [] kws pos) (tMethK C m sp ks.length gV E ta tk) := by
  constructor
  intro pins s σ H Q I h
  refine PySem.W.methodCall_KW (pl := pl) (thn (he.run pins s σ H _ I h) ?_) ht
  rintro u s1 ⟨_, H1, I1, rx, a, dx, fs, rfl, ea, l, q⟩
  obtain rfl : u = .ref a := rx
  refine getmeth_ok I1 ea c hm l (PySem.W.callWith_KW0 (first := [.ref a]) (h₀ := X.base) I.ok.mod.kin hm.kp hall (thn (hkw.run pos pins s1 σ H1 _ I1 q) ?_) hpl)
  rintro ws s2 ⟨zs, H2, I2, rz, l2, q2⟩
  refine ⟨I2.kIn, ?_⟩
  rw [hks]
  exact runKG (us := [.ref a]) (vs := [.ref a]) F hr hc hb hx I2 (.cons rfl .nil) rz rfl l2 q2

/-- a new instance, then its __init__ with what binds -/
theorem makeG {pins : List (Addr × Obj)} {σ : L2.St} {H : Hp} {s : Shared} {Q : VK} {us : List Value} {kw : List (Str × Value)} {all : List Value} {av : Addr → List V} (M : Mk X.K C f) (F : FnG X.prog X.w X.K X.mg X.base CX k f fd ps sp) (hr : Room (k + 1) X.A) (hc : Calm X.A)
    (hx : Passes CX X E) (I : Inv X pins σ H s)
    (hb : ∀ s' : Shared, X.K.In s'.heap → BindsTo s' fd ⟨.ref (s.heap.objs.size + 1) :: us, kw⟩ (ps.zip all)) (r : Vals (av (s.heap.objs.size + 1)) all)
    (h : ∀ x dx, H x = none → H dx = none → dx ≠ x → sp (av x) (upd (upd H dx (.own x)) x (.ins C dx [])) (fun v H2 => v = .non ∧ Q (.ref x) H2) E) :
    wpAny (model X.prog X.w) X.A (call (.ref C) us kw) (EP X pins σ Q) X.xe s := by
  have q0 := h (s.heap.objs.size + 1) s.heap.objs.size (I.hok.fresh (Nat.le_succ _)) (I.hok.fresh (Nat.le_refl _)) (Nat.ne_of_lt (Nat.lt_succ_self _))
  have J := Inv.made (C := C) I
  have go := F.run _ X.stack _ _ ⟨Value.ref (s.heap.objs.size + 1) :: us, kw⟩ all _ _ E (hr.make C us kw) (hc.make C us kw) (J.env0.make C us kw) (hb _ J.kIn) r q0
  refine wpAny_call (make_map (f := f) I.kIn M.makes M.init (beq_iff_eq.mp M.fn) (codeAny_mono go fun r' s' q => ?_))
  match r', q with
  | .error e, q => exact hx pins σ _ _ e s' J q
  | .ok (.ret u), q =>
    obtain ⟨v, H', I3, rv, ev, q3⟩ := J.after q
    cases ev
    exact ⟨rv, ⟨V.ref (s.heap.objs.size + 1), H', I3, rfl, q3⟩⟩
theorem pe_makeG (M : Mk X.K C f) (F : FnG X.prog X.w X.K X.mg X.base CX k f fd ps sp) (hr : Room (k + 1) X.A) (hc : Calm X.A) (hg : Gl X x) (hm : X.mg x = some (.ref C)) (hb : Binds X.K fd ps ds) (hd : Vals dvs ds) (hx : Passes CX X E)
    (ha : PA X (e :: es) t) (hdb : (x == ("__debug__" : Str)) = false := by decide) (he : starEach (e :: es) X.env = (false, eval e X.env) :: starEach es X.env := by rfl) (hpl : (backTo pos (starEach es X.env)).any (·.1) = false := by rfl) :
    PE X (.Call (.Name x p) (e :: es) [] pos) (tMake C sp dvs E t) := by
  constructor
  intro pins s σ H Q I h
  refine wpAny_Call_Name_kw (ld_glob I hg hm (PySem.W.callWith_K (h₀ := X.base) I.ok.mod.kin M.kp (thn (ha.run pos pins s σ H _ I h) ?_) he hpl) hdb)
  rintro us s1 ⟨vs, H1, I1, r, q⟩
  have r2 : Vals (V.ref (s1.heap.objs.size + 1) :: (vs ++ dvs)) (Value.ref (s1.heap.objs.size + 1) :: (us ++ ds)) := .cons rfl (Vals.append r hd)
  have q0 := q (s1.heap.objs.size + 1) s1.heap.objs.size (I1.hok.fresh (Nat.le_succ _)) (I1.hok.fresh (Nat.le_refl _)) (Nat.ne_of_lt (Nat.lt_succ_self _))
  exact ⟨I1.kIn, makeG (av := fun x => .ref x :: (vs ++ dvs)) M F hr hc hx I1 (fun s' X' => hb s' (Value.ref (s1.heap.objs.size + 1) :: us) X' (r2.length.symm.trans (F.len _ _ _ _ q0))) r2 q⟩
theorem pe_makeKG0 (M : Mk X.K C f) (F : FnG X.prog X.w X.K X.mg X.base CX k f fd ps sp) (hr : Room (k + 1) X.A) (hc : Calm X.A) (hg : Gl X x) (hm : X.mg x = some (.ref C)) (hb : KBn X.K fd ps 1 ks g gV) (hx : Passes CX X E) (hkw : PK X kws tk)
    (hall : (backToKw pos (keywordEach kws X.env)).all (·.1.isSome) = true := by rfl) (hks : (backToKw pos (keywordEach kws X.env)).filterMap (·.1) = ks := by rfl) (hdb : (x == ("__debug__" : Str)) = false := by decide)
    (hpl : ((backTo pos (starEach [] X.env)).any (·.1) || (backToKw pos (keywordEach kws X.env)).any (·.1.isNone)) = false := by rfl) :
    PE X (.Call (.Name x p) [] kws pos) (tMakeK C 0 ks.length sp gV E tNil tk) := by
  constructor
  intro pins s σ H Q I h
  refine wpAny_Call_Name_kw (ld_glob I hg hm (PySem.W.callWith_KW0 (h₀ := X.base) I.ok.mod.kin M.kp hall (thn (hkw.run pos pins s σ H _ I h) ?_) hpl) hdb)
  rintro ws s2 ⟨zs, H2, I2, rz, _, l2, q2⟩
  refine ⟨I2.kIn, ?_⟩
  rw [hks]
  exact makeG (av := fun x => gV [.ref x] zs) M F hr hc hx I2 (fun s' X' => hb.to s' [Value.ref (s2.heap.objs.size + 1)] ws X' rfl (rz.length.symm.trans l2)) (hb.rel (.cons rfl .nil) rz) q2

/-- repr of what reads as data -/
theorem call_reprD (hc : Calm X.A) (hu : X.A.units + 100 < cLine) : CallR X (.builtin "repr") (fun xs H Q => ∃ (a : Addr) (d : PyData), xs = [.ref a] ∧ Dp X.K H (.ref a) d ∧ d.showable = true ∧ d.hasDict = false ∧ d.depth ≤ 64 ∧ d.shown.length ≤ sizeLine ∧ Q (.str d.shown) H) := by
  intro pins s σ H xs us Q I r h
  obtain ⟨a, d, rfl, hd, hs, hn, hdp, hz, q⟩ := h
  obtain ⟨as, rd⟩ := Dp.reads I d (.ref a) (.ref a) hd rfl
  rw [Vals.ref1 r]
  exact repr_of_reads' rd hs (PyData.noDict_hsm hn) hc (by omega) (fun _ _ e => e) (fun h' u tk hk => ⟨.str _, H, I.kept hk, ⟨_, rfl⟩, q⟩) hz
end

section
variable {P : Program} {w : World} {K : PySem.W.Frag} {mg : Str → Option Value} {base : Heap}
/-- a def's promise, by its body: whatever its defaults -/
theorem okR {x qual : Str} {params : Arguments} {body : List Stmt} {scope : Scope} {dV kV doc pm cdv ct oc : Value} {an od : Option Addr} {osl : Array (Option Value)} {f : Addr} {N ps : List Str} {k : Nat} {sp : Sp}
    (lk : K.lookup f = some ⟨oc, od, .func (PySem.W.fnOf x qual params body scope dV kV doc pm an cdv ct), osl⟩) (code : PySem.W.codeIn K cdv qual = true) (S : FnScope N ps scope) (len : ∀ vs H Q E, sp vs H Q E → vs.length = ps.length)
    (walk : ∀ (cdv : Value) (A : Around) (outer : List Env) (s : Shared) (H : Hp) (vs : List V) (Q : VK) (E : XK), Room k (A.deeper (envOfC qual scope s.heap.objs.size f cdv)) → Calm (A.deeper (envOfC qual scope s.heap.objs.size f cdv)) → sp vs H Q E →
      ∃ t, PSs (cxOf CX0 P w K mg base N qual scope f cdv A outer s H E).nox body t ∧ t { nx := fun _ H' => Q .non H', rt := Q } (start N vs) H) : FnG P w K mg base CX0 (k + 1) f (PySem.W.fnOf x qual params body scope dV kV doc pm an cdv ct) ps sp := by
  refine ⟨len, ?_⟩
  intro A outer s H args us vs Q E room calm e0 bnd rel want
  have long := len _ _ _ _ want
  have up : ∀ b o, base.get? b = some o → s.heap.get? b = some o := fun b o e => (e0.bs b o e).1
  have kin : K.In s.heap := e0.mod.kin.keeps up
  have lim : s.heap.NoLimit := e0.mod.nolimit.keeps up
  have kinds : ∀ y ∈ ps.zip us, scope.names.lookup y.1 = some .local ∨ (scope.names.lookup y.1 = some .cell ∧ ((cellsFrom (s.heap.objs.size + 1) scope.names []).lookup y.1).isSome = true) := by
    rintro ⟨n, v⟩ hy
    exact (S.par n (List.of_mem_zip hy).1).imp id fun q => ⟨q, PySem.W.cellsFrom_some _ _ _ (.inl q)⟩
  refine codeAny_call_function room.depth (kin _ _ lk) rfl S.co S.gen rfl (PySem.W.codeRec_of kin code) (bnd _ _ _ _ (wpAny_newFunctionEnv_cells S.kind kinds ?_))
  rintro env rfl s1 x
  obtain ⟨t, deriv, reads⟩ := walk cdv A outer s H vs Q E (room.deeper _) (calm.deeper _) want
  have I : Inv (cxOf CX0 P w K mg base N qual scope f cdv A outer s H E) [] (start N vs) H s1 := inv_start S room.hd e0 long rel x
  refine ⟨lim.keeps x.toInCall.keep, codeAny_func (wpAny_mono (deriv.nox.run [] s1 (start N vs) H _ I reads) ?_ fun _ _ z => z)⟩
  intro fl s' hs
  match fl, hs with
  | .ret u, ⟨v, _, H', J, rv, q⟩ => exact ⟨v, H', J.os, J.bare, J.base, J.hok, rv, q⟩
  | .next, ⟨_, H', J, q⟩ => exact ⟨V.non, H', J.os, J.bare, J.base, J.hok, rfl, q⟩
  | .brk, ⟨_, _, _, q⟩ => exact q.elim
  | .cont, ⟨_, _, _, q⟩ => exact q.elim

theorem okG {x qual : Str} {st : Stmt} {f : Addr} {fd : FuncData} {N ps : List Str} {k : Nat} {sp : Sp} (F : Fun K x qual st f fd) (S : FnScope N ps (defScope st)) (len : ∀ vs H Q E, sp vs H Q E → vs.length = ps.length)
    (walk : ∀ (cdv : Value) (A : Around) (outer : List Env) (s : Shared) (H : Hp) (vs : List V) (Q : VK) (E : XK), Room k (A.deeper (envOfC qual (defScope st) s.heap.objs.size f cdv)) → Calm (A.deeper (envOfC qual (defScope st) s.heap.objs.size f cdv)) → sp vs H Q E →
      ∃ t, PSs (cxOf CX0 P w K mg base N qual (defScope st) f cdv A outer s H E).nox (defBody st) t ∧ t { nx := fun _ H' => Q .non H', rt := Q } (start N vs) H) : FnG P w K mg base CX0 (k + 1) f fd ps sp := by
  obtain ⟨oc, od, kV, doc, pm, an, cdv, ct, osl, rfl, lk, code⟩ := F.ex
  exact okR lk code S len walk
theorem okD {x qual : Str} {st : Stmt} {dvs : List V} {kws : List (Str × V)} {f : Addr} {fd : FuncData} {N ps : List Str} {k : Nat} {sp : Sp} (F : FunD K x qual (defArgs st) (defBody st) (defScope st) dvs kws f fd) (S : FnScope N ps (defScope st)) (len : ∀ vs H Q E, sp vs H Q E → vs.length = ps.length)
    (walk : ∀ (cdv : Value) (A : Around) (outer : List Env) (s : Shared) (H : Hp) (vs : List V) (Q : VK) (E : XK), Room k (A.deeper (envOfC qual (defScope st) s.heap.objs.size f cdv)) → Calm (A.deeper (envOfC qual (defScope st) s.heap.objs.size f cdv)) → sp vs H Q E →
      ∃ t, PSs (cxOf CX0 P w K mg base N qual (defScope st) f cdv A outer s H E).nox (defBody st) t ∧ t { nx := fun _ H' => Q .non H', rt := Q } (start N vs) H) : FnG P w K mg base CX0 (k + 1) f fd ps sp := by
  obtain ⟨oc, od, dV, kV, doc, pm, an, cdv, ct, osl, rfl, lk, code, _, _⟩ := F.ex
  exact okR lk code S len walk

/-- the law's call, where the caller guards nothing -/
theorem lawG {mb : Str → Option Value} {k : Nat} {fa a : Addr} {fd : FuncData} {x : Str} {sp : Sp} {s₁ : Shared} {vs : List Value} {ns : List Int}
    (KX : K.In s₁.heap) (hns : s₁.heap.Ns mainGlobals mg) (hb : s₁.heap.Ns builtinsNs mb) (hbb : ∀ x : Str, x ≠ "__name__" → mb x = bootBuiltins x) (hlim : s₁.heap.NoLimit) (hg : s₁.gens = #[])
    (ha : s₁.heap.get? a = some { cls := .type "list", data := .seq vs.toArray }) (hi : IntsAre vs ns) (hl : ns.length ≤ sizeLine) (hr : Room k callerA)
    (F : ∀ base : Heap, K.In base → base.Ns mainGlobals mg → FnG P w K mg base CX0 k fa fd [x] sp) (hbind : ∀ (s : Shared) (u : Value), BindsTo s fd ⟨[u], []⟩ [(x, u)])
    (hsp : ∀ H : Hp, Only H → SqL K H a (ns.map V.int) → sp [.ref a] H (fun v _ => v = .bl true) fun _ _ _ => False) :
    codeAny (model P w) callerA (.call (.ref fa) ⟨[.ref a], []⟩) (fun r s' => r = .ok (.ret (.bool true)) ∧ OldK s₁.heap s'.heap ∧ s'.os = s₁.os ∧ AllBare s'.gens) s₁ := by
  have rel := vals_ints hi
  have core : ∀ H : Hp, Only H → SqL K H a (ns.map V.int) → HOk P w H s₁.heap → (∀ b, H b ≠ none → b = a) → (H a ≠ none → K.lookup a = none) →
      codeAny (model P w) callerA (.call (.ref fa) ⟨[.ref a], []⟩) (fun r s' => r = .ok (.ret (.bool true)) ∧ OldK s₁.heap s'.heap ∧ s'.os = s₁.os ∧ AllBare s'.gens) s₁ := by
    intro H only sq hok alone free
    have off : ∀ {b : Addr}, b ≠ a → H b = none := fun {b} ne => Classical.byContradiction fun z => ne (alone b z)
    have dictOff : ∀ {b : Addr} {o : Obj} {es : Array DictEntry} {ep : Nat}, s₁.heap.get? b = some o → o.data = .dict es ep → H b = none := by
      intro b o es ep e d
      refine off fun eq => ?_
      rw [eq, ha] at e
      cases e
      exact Data.noConfusion d
    have nsK : ∀ {b : Addr} {m : Str → Option Value}, s₁.heap.Ns b m → (hidT s₁.heap H).Ns b m := by
      rintro b m ⟨o, es, ep, e, d, r⟩
      exact ⟨o, es, ep, hidT_get e (dictOff e d), d, r⟩
    have kb : K.In (hidT s₁.heap H) := by
      intro b o e
      refine hidT_get (KX b o e) (Classical.byContradiction fun z => ?_)
      have eq := alone b z
      rw [eq] at z e
      rw [free z] at e
      cases e
    have md : Mod K mg (hidT s₁.heap H) := ⟨kb, nsK hns, ⟨mb, nsK hb, hbb⟩, let ⟨mc, h1, h2⟩ := hlim; ⟨mc, nsK h1, h2⟩⟩
    have e0 : Env0 P w K mg (hidT s₁.heap H) callerA [] s₁ H := ⟨rfl, md, fun b o e => of_hidT e, Nat.le_of_eq (hidT_size _ _), trivial, (fun b z => nomatch z), hok, .of_eq hg⟩
    have go := (F _ kb (nsK hns)).run callerA [] s₁ H ⟨[.ref a], []⟩ [.ref a] [.ref a] _ _ hr rfl e0 (hbind s₁ (.ref a)) (.cons rfl .nil) (hsp H only sq)
    refine codeAny_mono go fun r s' h => ?_
    match r, h with
    | .ok (.ret u), ⟨v, H', os, bare, un, hok', r', q⟩ =>
      have q' : v = .bl true := q
      subst q'
      obtain rfl : u = Value.bool true := r'
      refine ⟨rfl, OldK.of_keep fun b o e => ?_, os, bare⟩
      rcases only b with z | ⟨ob, xs, z⟩
      · exact un.keep b o e z (fun y => nomatch y) (fun y => nomatch y)
      · obtain ⟨e1, _⟩ := hok b _ z
        obtain ⟨e2, _⟩ := hok' b _ (un.frzs b ob _ z)
        exact e.symm.trans e1 ▸ e2
  have lenV := hi.length
  cases hk : K.lookup a with
  | some o =>
    have e := ha.symm.trans (KX a o hk)
    cases e
    exact core (fun _ => none) (fun _ => .inl rfl) (.inr ⟨_, vs.toArray, _, hk, rfl, rfl, rfl, by rw [List.size_toArray, lenV]; exact hl, by simpa using rel⟩) (fun b u z => nomatch z) (fun b z => absurd rfl z) fun z => absurd rfl z
  | none =>
    have at_ : ∀ b, (if b = a then some (HO.frz { cls := .type "list", data := .seq vs.toArray } (.lst (ns.map V.int))) else none) ≠ none → b = a := fun b z => Classical.byContradiction fun y => z (if_neg y)
    refine core (fun b => if b = a then some (.frz { cls := .type "list", data := .seq vs.toArray } (.lst (ns.map V.int))) else none) (fun b => ?_) (.inl (.inr ⟨{ cls := .type "list", data := .seq vs.toArray }, if_pos rfl⟩)) (fun b u z => ?_) at_ fun _ => hk
    · by_cases hb : b = a
      · exact .inr ⟨_, _, if_pos hb⟩
      · exact .inl (if_neg hb)
    · have eb : b = a := at_ b (fun y => nomatch (y.symm.trans z))
      subst eb
      have z' := (if_pos rfl).symm.trans z
      cases z'
      exact ⟨ha, by rw [List.length_map]; exact hl, vs, _, rel, ha⟩
end
theorem walkG {l : PySem.W.OpenLaw} {n k : Nat} {q : Program} {loose : List Str} {XP : (Str → Option Value) → Heap → Prop} {YP : World → Heap → Prop} {d : DefRec} {K : Params → PySem.W.Frag} {sp : PySem.W.Frag → Sp} {x : Str}
    (hn : l.most = some n) (hn2 : n ≤ sizeLine) (hdf : d.params.defaults = []) (hr : Room k callerA)
    (hY : ∀ (w : World) (h : Heap), YP w h → (K w.params).In h)
    (F : ∀ (w : World) (mg : Str → Option Value) (fa : Addr) (h : Heap), (K w.params).In h → h.Ns mainGlobals mg → mg d.name = some (.ref fa) →
      ∃ fd : FuncData, (∀ (s : Shared) (u : Value), BindsTo s fd ⟨[u], []⟩ [(x, u)]) ∧
        ∀ base : Heap, (K w.params).In base → base.Ns mainGlobals mg → FnG l.prog w (K w.params) mg base CX0 k fa fd [x] (sp (K w.params)))
    (hsp : ∀ (K : PySem.W.Frag) (H : Hp) (a : Addr) (ns : List Int), ns.length ≤ n → Only H → SqL K H a (ns.map V.int) → sp K [.ref a] H (fun v _ => v = .bl true) fun _ _ _ => False) :
    PySem.W.WalkO q loose XP YP l.row.toRowW d [] (fun f vs => PySem.call f vs) := by
  refine Att.attach_call hn hdf ?_
  intro w s₀ s₁ mg mb fa o pm cd doc a vs ns G Y ho hd hcd hmg hobj hints hlen hg
  obtain ⟨fd, hb, hF⟩ := F w mg fa _ (hY w _ Y) G.T.g hmg
  exact lawG (hY w _ Y) G.T.g G.T.b G.T.builtins G.T.nolimit hg hobj hints (Nat.le_trans hlen hn2) hr hF hb fun H o s => hsp _ H a ns hlen o s
end GL
namespace GL
open PySem PySem.Spec PyProof.Rows L2
section
variable {K : PySem.W.Frag} {H H' : Hp}
theorem dpa_ints : ∀ ns : List Int, DpAll K H (ns.map V.int) (ns.map PyData.int)
  | [] => .nil
  | n :: r => .cons (.int n) (dpa_ints r)
theorem dpa_strs : ∀ ns : List Str, DpAll K H (ns.map V.str) (ns.map PyData.str)
  | [] => .nil
  | n :: r => .cons (.str n) (dpa_strs r)
theorem dpa_bls : ∀ ns : List Bool, DpAll K H (ns.map V.bl) (ns.map PyData.bool)
  | [] => .nil
  | n :: r => .cons (.bl n) (dpa_bls r)
theorem lay_ints : ∀ ns : List Int, PyData.canLayAll0 (ns.map PyData.int) = true
  | [] => rfl
  | n :: r => by
    show (PyData.canLay0 (.int n) && PyData.canLayAll0 (r.map PyData.int)) = true
    rw [lay_ints r]; rfl
theorem depth_ints : ∀ ns : List Int, PyData.depthAll (ns.map PyData.int) = 0
  | [] => rfl
  | n :: r => by
    show max (PyData.depth (.int n)) (PyData.depthAll (r.map PyData.int)) = 0
    rw [depth_ints r]; rfl
theorem depth_strs : ∀ ns : List Str, PyData.depthAll (ns.map PyData.str) = 0
  | [] => rfl
  | n :: r => by
    show max (PyData.depth (.str n)) (PyData.depthAll (r.map PyData.str)) = 0
    rw [depth_strs r]; rfl
theorem shaped_ints (ns : List Int) : SeqAt.shaped (.list (ns.map PyData.int)) = true := by
  unfold SeqAt.shaped
  rw [show PyData.canLay0 (.list (ns.map PyData.int)) = PyData.canLayAll0 (ns.map PyData.int) from rfl, lay_ints ns]
  rw [show PyData.depth (.list (ns.map PyData.int)) = PyData.depthAll (ns.map PyData.int) + 1 from rfl, depth_ints ns]
  rfl
theorem eqv_ints_nil : ∀ ns : List Int, PyData.eqv (.list (ns.map PyData.int)) (.list []) = decide (ns = [])
  | [] => rfl
  | n :: r => by
    rw [decide_eq_false (show ¬ (n :: r = []) from List.cons_ne_nil n r)]
    rfl

/-! ### what stays -/
theorem Same.new {p : Addr} {o : HO} (h : H p = none) : Same H (upd H p o) := fun b u e => by
  rw [upd_ne (ne_of_none e h)]; exact e
theorem Same.tup {a : Addr} {xs : List V} (e : Same H H') (h : SqT K H a xs) : SqT K H' a xs := by
  rcases h with (h | ⟨o, h⟩) | h
  · exact .inl (.inl (e _ _ h))
  · exact .inl (.inr ⟨o, e _ _ h⟩)
  · exact .inr h
theorem tofT {a : Addr} {xs : List V} (h : H a = some (.tup xs)) : SqT K H a xs := .inl (.inl h)
theorem tofL {a : Addr} {xs : List V} (h : H a = some (.lst xs)) : SqL K H a xs := .inl (.inl h)
theorem small {n : Nat} (h : n ≤ 100000) : n ≤ sizeLine := Nat.le_trans h (by decide)
theorem smallt {n : Nat} (h : n < 100000) : n < sizeLine := Nat.lt_of_lt_of_le h (by decide)

/-! ### the deck of the laws: a dict of a list of ints and an int -/
def deckD (g : Addr) (m : Int) : List (Key × V) := [(Sum.inr "great", .ref g), (Sum.inr "mixed", .int m)]
theorem gm0 : ¬ (("great" : Str) = "mixed") := by decide +kernel
theorem gm : ¬ ((Sum.inr ("great" : Str) : Key) = (Sum.inr ("mixed" : Str) : Key)) := by
  intro e
  injection e with e1
  exact gm0 e1
theorem deck_great (g : Addr) (m : Int) : valV (deckD g m) (Sum.inr "great" : Key) = some (.ref g) := valV_pos rfl
theorem deck_mixed (g : Addr) (m : Int) : valV (deckD g m) (Sum.inr "mixed" : Key) = some (.int m) := by
  unfold deckD
  rw [valV_neg gm, valV_pos rfl]
theorem deck_put (g : Addr) (m m' : Int) : putK (deckD g m) (Sum.inr "mixed" : Key) (.int m') = deckD g m' := by
  unfold putK deckD
  simp only [List.any_cons, List.any_nil, List.map_cons, List.map_nil, decide_eq_false gm, decide_true, Bool.or_true, Bool.false_or, Bool.or_false, if_true]
  rw [if_neg gm]
/-- all but the deck stays -/
structure Mv (d g : Addr) (H H' : Hp) : Prop where
  keep : ∀ b o, H b = some o → b ≠ d → b ≠ g → H' b = some o
structure Deck (H : Hp) (d g : Addr) : Prop where
  ex : ∃ (m : Int) (L : List Int), H d = some (.dK (deckD g m)) ∧ H g = some (.lst (L.map V.int)) ∧ L.length ≤ 63 ∧ 0 ≤ m ∧ m < 2147483587
theorem Deck.ne {d g : Addr} (D : Deck H d g) : d ≠ g := by
  obtain ⟨m, L, h1, h2, _⟩ := D.ex
  exact ne_of h1 h2 (fun z => nomatch z)
theorem Deck.same {d g : Addr} (D : Deck H d g) (s : Same H H') : Deck H' d g := by
  obtain ⟨m, L, h1, h2, r⟩ := D.ex
  exact ⟨⟨m, L, s _ _ h1, s _ _ h2, r⟩⟩
theorem Mv.refl {d g : Addr} : Mv d g H H := ⟨fun _ _ h _ _ => h⟩
theorem Mv.trans {d g : Addr} {H1 H2 H3 : Hp} (a : Mv d g H1 H2) (b : Mv d g H2 H3) : Mv d g H1 H3 := ⟨fun p o h n1 n2 => b.keep p o (a.keep p o h n1 n2) n1 n2⟩
theorem Mv.of {d g : Addr} (s : Same H H') : Mv d g H H' := ⟨fun p o h _ _ => s p o h⟩
theorem Mv.at {d g a : Addr} {o : HO} (m : Mv d g H H') (h : H a = some o) (n : a ≠ d ∧ a ≠ g) : H' a = some o := m.keep _ _ h n.1 n.2
/-- what is new stands apart from the deck -/
theorem Deck.off {d g p : Addr} (D : Deck H d g) (h : H p = none) : p ≠ d ∧ p ≠ g := by
  obtain ⟨m, L, h1, h2, r⟩ := D.ex
  exact ⟨(ne_of_none h1 h).symm, (ne_of_none h2 h).symm⟩
theorem Deck.new {d g p : Addr} {o : HO} (D : Deck H d g) (h : H p = none) : Deck (upd H p o) d g := D.same (Same.new h)
/-- what was new before is new or ours -/
theorem Mv.free {d g p : Addr} (D : Deck H d g) (m : Mv d g H H') (D' : Deck H' d g) (h : H' p = none) : H p = none := by
  have n := D'.off h
  cases e : H p with
  | none => rfl
  | some o => rw [m.keep p o e n.1 n.2] at h; cases h
/-- a change of what was not there -/
theorem Mv.mut {d g p : Addr} {o : HO} (m : Mv d g H H') (h : H p = none) : Mv d g H (upd H' p o) := ⟨fun b u hb n1 n2 => by
  rw [upd_ne (ne_of_none hb h)]
  exact m.keep b u hb n1 n2⟩
theorem Deck.mut {d g p : Addr} {o : HO} (D : Deck H d g) (n : p ≠ d ∧ p ≠ g) : Deck (upd H p o) d g := by
  obtain ⟨m, L, h1, h2, r⟩ := D.ex
  exact ⟨⟨m, L, by rw [upd_ne n.1.symm]; exact h1, by rw [upd_ne n.2.symm]; exact h2, r⟩⟩
def spDraw : Sp := fun vs H Q _ => ∃ (d g : Addr) (n : Int), vs = [.ref d, .int n] ∧ Deck H d g ∧ 0 < n ∧ n < 2 ^ 250 ∧
  ∀ (r : Int) (H' : Hp), 0 ≤ r → r < n → Deck H' d g → Mv d g H H' → Q (.int r) H'
end
def spPickL : Sp := fun vs H Q _ => ∃ (d g a : Addr) (xs : List V), vs = [.ref d, .ref a] ∧ Deck H d g ∧ H a = some (.lst xs) ∧ a ≠ g ∧ xs ≠ [] ∧ xs.length ≤ 1000 ∧
  ∀ (x : V) (H' : Hp), x ∈ xs → Deck H' d g → Mv d g H H' → Q x H'
def spPickS : Sp := fun vs H Q _ => ∃ (d g : Addr) (z : Str), vs = [.ref d, .str z] ∧ Deck H d g ∧ z.cps.toList ≠ [] ∧ z.length ≤ 1000 ∧
  ∀ (c : Nat) (H' : Hp), c ∈ z.cps.toList → Deck H' d g → Mv d g H H' → Q (.str ⟨#[c]⟩) H'
theorem at_in {α : Type} {xs : List α} {r : Int} (h0 : 0 ≤ r) (h1 : r < xs.length) : ∃ x, x ∈ xs ∧ atI xs r = some x := by
  obtain ⟨j, rfl⟩ : ∃ j : Nat, r = (j : Int) := ⟨r.toNat, by omega⟩
  have hj : j < xs.length := by omega
  exact ⟨xs[j], List.getElem_mem hj, atI_nat (List.getElem?_eq_getElem hj)⟩
theorem str_len (z : Str) : z.length = z.cps.toList.length := by
  rw [Array.length_toList]; rfl
theorem pop_at (L : List Int) (c : Int) : ((L ++ [c]).map V.int)[((L ++ [c]).map V.int).length - 1]? = some (.int c) := by
  rw [List.map_append, List.map_singleton, List.length_append, List.length_singleton, Nat.add_sub_cancel, List.getElem?_append_right (Nat.le_refl _), Nat.sub_self]
  rfl
theorem pop_left (L : List Int) (c : Int) : ((L ++ [c]).map V.int).dropLast = L.map V.int := by
  rw [List.map_append, List.map_singleton, List.dropLast_concat]
theorem snoc_of {L : List Int} (h : L ≠ []) : ∃ L0 c, L = L0 ++ [c] := ⟨L.dropLast, L.getLast h, (List.dropLast_concat_getLast h).symm⟩
theorem mul_small {i j : Int} (h0 : 0 ≤ i) (h1 : i < 2 ^ 64) : CMul i j := .inl ⟨by omega, h1⟩
theorem mul_smallR {i j : Int} (h0 : 0 ≤ j) (h1 : j < 2 ^ 64) : CMul i j := .inr ⟨by omega, h1⟩
theorem ty_l {K : PySem.W.Frag} {H : Hp} {a : Addr} {xs : List V} (h : SqL K H a xs) : tyV K "list" (.ref a) H := Or.inl ⟨rfl, xs, h⟩
theorem lt_c {a b : Int} (h : a < b) : a < b := h
theorem def_mk {P : Program} {w : World} {K : PySem.W.Frag} {mg : Str → Option Value} {base : Heap} {k : Nat} {x : Str} {st : Stmt} {f : Addr} {fd : FuncData} {ps : List Str} {sp : Sp} (F : Fun K x x st f fd) (gl : mg x = some (.ref f)) (b : Binds K fd ps []) (h : FnG P w K mg base CX0 k f fd ps sp) : DefG P w K mg base k x ps sp :=
  ⟨⟨f, fd, h, gl, F.kp, b⟩⟩
end GL
namespace GL
open PySem PySem.Spec PyProof.Rows L2 RZ
theorem truth_intsG {prog : Program} {w : World} {A : Around} {ns : List Int} {its : List Value} (r : Vals (ns.map V.int) its) :
    TruthOf prog w A (fun i v => its.toArray[i]? = some v) (fun i => (ns.map fun n => n != 0).getD i false) := by
  intro i v s Q E hv hq
  have hv' : its[i]? = some v := by simpa using hv
  have li : i < ns.length := by
    have := (List.getElem?_eq_some_iff.mp hv').1
    have e := r.length
    rw [List.length_map] at e
    omega
  have e1 : (ns.map V.int)[i]? = some (.int ns[i]) := by rw [List.getElem?_map, List.getElem?_eq_getElem li]; rfl
  obtain ⟨u, hu, ru⟩ := r.get e1
  rw [hv'] at hu
  cases hu
  obtain ⟨t, rfl⟩ := ru
  have hg : (ns.map fun n => n != 0).getD i false = (ns[i] != 0) := by
    rw [List.getD_eq_getElem?_getD, List.getElem?_map, List.getElem?_eq_getElem li]; rfl
  have hq' : Q ((ns.map fun n => n != 0).getD i false) s := hq
  rw [hg] at hq'
  exact PySem.P.truthy_int hq'
section
variable {X : Cx}
theorem walk_zipT {K : PySem.W.Frag} {a b : Addr} {xs ys : List V} {n : Nat} (hn : n = min xs.length ys.length) : Walk (ItzT K a b) n (fun H => SqT K H a xs ∧ SqT K H b ys) (YPair (fun i => xs[i]?) (fun i => ys[i]?)) where
  goes := fun i H hi h => ⟨xs, ys, xs[i]'(by omega), ys[i]'(by omega), h.1, h.2, List.getElem?_eq_getElem _, List.getElem?_eq_getElem _⟩
  stops := fun H h => ⟨xs, ys, h.1, h.2, by omega⟩
  yields := fun i H x H' _ h y => by
    obtain ⟨T, u, v, e1, e2, e3, f1, f2⟩ := y
    exact ⟨T, u, v, e1, e2, e3, f1 _ h.1, f2 _ h.2⟩
theorem op_inK {K : PySem.W.Frag} (h : X.K = K := by rfl) : OpR X (compareOp .In) (rIn K false) := h ▸ op_in_seq
theorem op_notInK {K : PySem.W.Frag} (h : X.K = K := by rfl) : OpR X (compareOp .NotIn) (rIn K true) := h ▸ op_notIn_seq
/-- any of a list of ints -/
def rAnyI (K : PySem.W.Frag) : List V → Hp → VK → Prop := fun vs H Q => ∃ (a : Addr) (ns : List Int), vs = [V.ref a] ∧ SqL K H a (ns.map V.int) ∧ Q (.bl (ns.any fun n => n != 0)) H
theorem cr_anyI (calm : X.calm = true) : CallR X (.builtin "any") (rAnyI X.K) := by
  intro pins s σ H vs us Q I r h
  obtain ⟨a, ns, rfl, hs, q⟩ := h
  obtain ⟨its, rv, hl, _⟩ := I.list hs
  have en : its.length = ns.length := by rw [← rv.length, List.length_map]
  rw [Vals.ref1 r]
  refine call_any_walk (iter_any hl.isList ?_)
  rintro s₂ rfl st hne
  refine ⟨_, _, _, _, _, _, _, rfl, Walks.list (A := X.A.in1) (I.ok.hd calm) _ a hne its.toArray, st, truth_intsG rv, ?_⟩
  intro h' tk hk
  refine ⟨.bl _, H, I.kept (fun b o eo => hk b o (fun hm => ?_) (Heap.get?_push_of_some _ eo)), ?_, q⟩
  · rcases List.mem_cons.mp hm with e1 | hm
    · exact absurd (e1 ▸ Heap.lt_size eo) (Nat.lt_irrefl _)
    · cases hm
  · have ea := any_range (ns.map fun n => n != 0)
    rw [List.length_map] at ea
    show Value.bool _ = Value.bool _
    rw [List.size_toArray, en, ea, List.any_map]
    rfl
end

/-! ### data that may be shown: at most B signs, at most k deep -/
structure Nice (B k : Nat) (d : PyData) : Prop where
  sh : d.showable = true
  nd : d.hasDict = false
  dp : d.depth ≤ k
  sz : d.shown.length ≤ B
theorem Nice.mono {B B' k k' : Nat} {d : PyData} (h : Nice B k d) (hb : B ≤ B') (hk : k ≤ k') : Nice B' k' d := ⟨h.sh, h.nd, Nat.le_trans h.dp hk, Nat.le_trans h.sz hb⟩
theorem shownAll_len : ∀ ds : List PyData, (PyData.shownAll ds).length = ds.length
  | [] => rfl
  | d :: r => by
    show (PyData.shownAll r).length + 1 = r.length + 1
    rw [shownAll_len r]
theorem shownAll_sum {B : Nat} : ∀ ds : List PyData, (∀ d ∈ ds, d.shown.length ≤ B) → ((PyData.shownAll ds).map (·.length)).sum ≤ ds.length * B
  | [], _ => by simp [PyData.shownAll]
  | d :: r, h => by
    have ih := shownAll_sum (B := B) r fun x hx => h x (List.mem_cons_of_mem _ hx)
    have h1 := h d List.mem_cons_self
    show ((d.shown :: PyData.shownAll r).map (·.length)).sum ≤ (r.length + 1) * B
    rw [List.map_cons, List.sum_cons, Nat.succ_mul]
    omega
theorem showableAll_of : ∀ ds : List PyData, (∀ d ∈ ds, d.showable = true) → PyData.showableAll ds = true
  | [], _ => rfl
  | d :: r, h => by
    show (d.showable && PyData.showableAll r) = true
    rw [h d List.mem_cons_self, showableAll_of r fun x hx => h x (List.mem_cons_of_mem _ hx)]; rfl
theorem hasDictAll_of : ∀ ds : List PyData, (∀ d ∈ ds, d.hasDict = false) → PyData.hasDictAll ds = false
  | [], _ => rfl
  | d :: r, h => by
    show (d.hasDict || PyData.hasDictAll r) = false
    rw [h d List.mem_cons_self, hasDictAll_of r fun x hx => h x (List.mem_cons_of_mem _ hx)]; rfl
theorem depthAll_of {k : Nat} : ∀ ds : List PyData, (∀ d ∈ ds, d.depth ≤ k) → PyData.depthAll ds ≤ k
  | [], _ => Nat.zero_le _
  | d :: r, h => by
    show max d.depth (PyData.depthAll r) ≤ k
    have h1 := h d List.mem_cons_self
    have h2 := depthAll_of (k := k) r fun x hx => h x (List.mem_cons_of_mem _ hx)
    omega
theorem Nice.tup {B k n : Nat} {ds : List PyData} (h : ∀ d ∈ ds, Nice B k d) (hn : ds.length ≤ n) : Nice (n * (B + 2) + 3) (k + 1) (.tuple ds) where
  sh := showableAll_of ds fun d hd => (h d hd).sh
  nd := hasDictAll_of ds fun d hd => (h d hd).nd
  dp := by
    show PyData.depthAll ds + 1 ≤ k + 1
    have := depthAll_of ds fun d hd => (h d hd).dp
    omega
  sz := by
    show (tupleText (PyData.shownAll ds)).length ≤ _
    have h1 := tupleText_len_le (PyData.shownAll ds)
    have h2 := shownAll_sum ds fun d hd => (h d hd).sz
    rw [shownAll_len] at h1
    have h3 : ds.length * B + 2 * ds.length ≤ n * (B + 2) := by
      have : ds.length * (B + 2) ≤ n * (B + 2) := Nat.mul_le_mul_right _ hn
      rw [Nat.mul_add] at this
      omega
    omega
theorem Nice.lst {B k n : Nat} {ds : List PyData} (h : ∀ d ∈ ds, Nice B k d) (hn : ds.length ≤ n) : Nice (n * (B + 2) + 3) (k + 1) (.list ds) where
  sh := showableAll_of ds fun d hd => (h d hd).sh
  nd := hasDictAll_of ds fun d hd => (h d hd).nd
  dp := by
    show PyData.depthAll ds + 1 ≤ k + 1
    have := depthAll_of ds fun d hd => (h d hd).dp
    omega
  sz := by
    show (listText (PyData.shownAll ds)).length ≤ _
    have h1 := listText_len_le (PyData.shownAll ds)
    have h2 := shownAll_sum ds fun d hd => (h d hd).sz
    rw [shownAll_len] at h1
    have h3 : ds.length * B + 2 * ds.length ≤ n * (B + 2) := by
      have : ds.length * (B + 2) ≤ n * (B + 2) := Nat.mul_le_mul_right _ hn
      rw [Nat.mul_add] at this
      omega
    omega
theorem Nice.bl (b : Bool) : Nice 5 0 (.bool b) := by
  cases b
  · exact ⟨rfl, rfl, Nat.le_refl _, by decide +kernel⟩
  · exact ⟨rfl, rfl, Nat.le_refl _, by decide +kernel⟩
theorem small_ints : ∀ i : Fin 401, (Str.ofString (toString ((i.val : Int) - 200))).length ≤ 5 ∧ ((i.val : Int) - 200).natAbs.log2 < 1920 := by decide +kernel
theorem Nice.int {i : Int} (h0 : -200 ≤ i) (h1 : i ≤ 200) : Nice 5 0 (.int i) := by
  have h := small_ints ⟨(i + 200).toNat, by omega⟩
  have e : (((i + 200).toNat : Nat) : Int) - 200 = i := by omega
  simp only [e] at h
  exact ⟨decide_eq_true h.2, rfl, Nat.le_refl _, h.1⟩
theorem Nice.str {z : Str} {n : Nat} (hl : z.cps.toList.length ≤ n) (hc : ∀ c ∈ z.cps.toList, c < 128) : Nice (10 * n + 2) 0 (.str z) := by
  refine ⟨rfl, rfl, Nat.le_refl _, ?_⟩
  have h := StrLaws.reprText_len z fun c hm => Nat.lt_trans (hc c hm) (by decide)
  rw [str_len z] at h
  show (reprText z).length ≤ _
  omega
section
variable {X : Cx}
theorem call_reprN (hc : Calm X.A) (hu : X.A.units + 100 < cLine) : CallR X (.builtin "repr") (fun xs H Q => ∃ (a : Addr) (d : PyData) (B k : Nat), xs = [.ref a] ∧ Dp X.K H (.ref a) d ∧ Nice B k d ∧ B ≤ 100000 ∧ k ≤ 60 ∧ Q (.str d.shown) H) := by
  intro pins s σ H xs us Q I r h
  obtain ⟨a, d, B, k, e, hd, hn, hb, hk, q⟩ := h
  exact call_reprD hc hu pins s σ H xs us Q I r ⟨a, d, e, hd, hn.sh, hn.nd, Nat.le_trans hn.dp (by omega), small (Nat.le_trans hn.sz hb), q⟩
end
theorem sq_mv {K : PySem.W.Frag} {H H' : Hp} {d g a : Addr} {xs : List V} (D : Deck H d g) (m : Mv d g H H') (h : SqT K H a xs) : SqT K H' a xs := by
  obtain ⟨k, L, h1, h2, _⟩ := D.ex
  rcases h with (h | ⟨o, h⟩) | h
  · exact .inl (.inl (m.keep _ _ h (ne_of h h1 (fun z => nomatch z)) (ne_of h h2 (fun z => nomatch z))))
  · exact .inl (.inr ⟨o, m.keep _ _ h (ne_of h h1 (fun z => nomatch z)) (ne_of h h2 (fun z => nomatch z))⟩)
  · exact .inr h
/-- t + u, whatever they are -/
theorem catA_of {K : PySem.W.Frag} {H : Hp} {a b : Addr} {xs ys : List V} {Q : VK} (ha : SqT K H a xs) (hb : SqT K H b ys) (hl : xs.length + ys.length ≤ 100000) (q : ∀ p H', Same H H' → SqT K H' p (xs ++ ys) → Q (.ref p) H') : rCatA K (.ref a) (.ref b) H Q := by
  refine ⟨a, b, xs, ys, rfl, rfl, ha, hb, small hl, fun e => ?_, fun _ e => ?_, fun _ _ p np => ?_⟩
  · refine q b H (Same.refl H) ?_
    rw [e, List.nil_append]; exact hb
  · refine q a H (Same.refl H) ?_
    rw [e, List.append_nil]; exact ha
  · exact q p _ (Same.new np) (tofT upd_same)
theorem slA_of {K : PySem.W.Frag} {H : Hp} {a : Addr} {xs : List V} {lo hi : Option Int} {Q : VK} (ha : SqT K H a xs) (q : ∀ p H', Same H H' → SqT K H' p (cutV xs lo hi) → Q (.ref p) H') : rSlA K (.ref a) lo hi H Q := by
  refine ⟨a, xs, rfl, ha, fun e => ?_, fun _ p np => ?_⟩
  · refine q a H (Same.refl H) ?_
    unfold cutV
    rw [e.1, e.2, Nat.sub_zero, List.drop_zero, List.take_length]; exact ha
  · exact q p _ (Same.new np) (tofT upd_same)
end GL
/-! the deck of the later laws: a dict of a list of ints and two ints, the second one counts the draws -/
namespace G3
open PySem PySem.Spec PyProof.Rows L2 GL
structure Keys where
  c : Str
  b : Str
  n : Str
  cb : ¬ c = b
  cn : ¬ c = n
  bn : ¬ b = n
theorem inr_ne {x y : Str} (h : ¬ x = y) : ¬ ((Sum.inr x : Key) = (Sum.inr y : Key)) := fun e => by
  injection e with e1
  exact h e1
def deckD (k : Keys) (g : Addr) (m n : Int) : List (Key × V) := [(Sum.inr k.c, .ref g), (Sum.inr k.b, .int m), (Sum.inr k.n, .int n)]
theorem deck_c (k : Keys) (g : Addr) (m n : Int) : valV (deckD k g m n) (Sum.inr k.c : Key) = some (.ref g) := valV_pos rfl
theorem deck_b (k : Keys) (g : Addr) (m n : Int) : valV (deckD k g m n) (Sum.inr k.b : Key) = some (.int m) := by
  unfold deckD
  rw [valV_neg (inr_ne k.cb), valV_pos rfl]
theorem deck_n (k : Keys) (g : Addr) (m n : Int) : valV (deckD k g m n) (Sum.inr k.n : Key) = some (.int n) := by
  unfold deckD
  rw [valV_neg (inr_ne k.cn), valV_neg (inr_ne k.bn), valV_pos rfl]
theorem deck_put (k : Keys) (g : Addr) (m n n' : Int) : putK (deckD k g m n) (Sum.inr k.n : Key) (.int n') = deckD k g m n' := by
  unfold putK deckD
  simp only [List.any_cons, List.any_nil, List.map_cons, List.map_nil, decide_eq_false (inr_ne k.cn), decide_eq_false (inr_ne k.bn), decide_true, Bool.or_true, Bool.false_or, Bool.or_false, if_true]
  rw [if_neg (inr_ne k.cn), if_neg (inr_ne k.bn)]
theorem get_c {k : Keys} {H : Hp} {d g : Addr} {m n : Int} (h : H d = some (.dK (deckD k g m n))) : DGet H d (.str k.c) (some (.ref g)) := deck_c k g m n ▸ DGet.k (k := Sum.inr k.c) h
theorem get_b {k : Keys} {H : Hp} {d g : Addr} {m n : Int} (h : H d = some (.dK (deckD k g m n))) : DGet H d (.str k.b) (some (.int m)) := deck_b k g m n ▸ DGet.k (k := Sum.inr k.b) h
theorem get_n {k : Keys} {H : Hp} {d g : Addr} {m n : Int} (h : H d = some (.dK (deckD k g m n))) : DGet H d (.str k.n) (some (.int n)) := deck_n k g m n ▸ DGet.k (k := Sum.inr k.n) h
theorem put_n {k : Keys} {H : Hp} {d g : Addr} {m n n' : Int} (h : H d = some (.dK (deckD k g m n))) : DPut H d (.str k.n) (.int n') (upd H d (.dK (deckD k g m n'))) := deck_put k g m n n' ▸ DPut.k (k := Sum.inr k.n) h (show 3 < sizeLine from smallt (by omega))
theorem deck_merge (k : Keys) (g : Addr) (m n : Int) : mergeK [] (deckD k g m n) = deckD k g m n := by
  have e1 : putK ([] : List (Key × V)) (Sum.inr k.c : Key) (V.ref g) = [((Sum.inr k.c : Key), V.ref g)] := rfl
  have e2 : putK [((Sum.inr k.c : Key), V.ref g)] (Sum.inr k.b : Key) (V.int m) = [((Sum.inr k.c : Key), V.ref g), ((Sum.inr k.b : Key), V.int m)] := by
    unfold putK
    simp only [List.any_cons, List.any_nil, decide_eq_false (inr_ne k.cb), Bool.or_false]
    rfl
  have e3 : putK [((Sum.inr k.c : Key), V.ref g), ((Sum.inr k.b : Key), V.int m)] (Sum.inr k.n : Key) (V.int n) = deckD k g m n := by
    unfold putK
    simp only [List.any_cons, List.any_nil, decide_eq_false (inr_ne k.cn), decide_eq_false (inr_ne k.bn), Bool.or_false]
    rfl
  show putK (putK (putK ([] : List (Key × V)) (Sum.inr k.c : Key) (V.ref g)) (Sum.inr k.b : Key) (V.int m)) (Sum.inr k.n : Key) (V.int n) = _
  rw [e1, e2, e3]
section
variable {K : PySem.W.Frag} {H H' : Hp} {k : Keys} {d g : Addr} {b b' : Nat}
/-- the deck, from which b more draws may be made -/
structure Dk (k : Keys) (H : Hp) (d g : Addr) (b : Nat) : Prop where
  ex : ∃ (m n : Int) (L : List Int), H d = some (.dK (deckD k g m n)) ∧ H g = some (.lst (L.map V.int)) ∧ L.length ≤ 63 ∧ 0 ≤ m ∧ m < 2147483587 ∧ 0 ≤ n ∧ n + b ≤ 1000000000000
theorem Dk.ne (D : Dk k H d g b) : d ≠ g := by
  obtain ⟨m, n, L, h1, h2, _⟩ := D.ex
  exact ne_of h1 h2 (fun z => nomatch z)
theorem Dk.same (D : Dk k H d g b) (s : Same H H') : Dk k H' d g b := by
  obtain ⟨m, n, L, h1, h2, r⟩ := D.ex
  exact ⟨⟨m, n, L, s _ _ h1, s _ _ h2, r⟩⟩
theorem Dk.mono (D : Dk k H d g b) (h : b' ≤ b) : Dk k H d g b' := by
  obtain ⟨m, n, L, h1, h2, h3, h4, h5, h6, h7⟩ := D.ex
  exact ⟨⟨m, n, L, h1, h2, h3, h4, h5, h6, by omega⟩⟩
theorem Dk.off {p : Addr} (D : Dk k H d g b) (h : H p = none) : p ≠ d ∧ p ≠ g := by
  obtain ⟨m, n, L, h1, h2, r⟩ := D.ex
  exact ⟨(ne_of_none h1 h).symm, (ne_of_none h2 h).symm⟩
theorem Dk.new {p : Addr} {o : HO} (D : Dk k H d g b) (h : H p = none) : Dk k (upd H p o) d g b := D.same (Same.new h)
theorem Dk.mut {p : Addr} {o : HO} (D : Dk k H d g b) (n : p ≠ d ∧ p ≠ g) : Dk k (upd H p o) d g b := by
  obtain ⟨m, n', L, h1, h2, r⟩ := D.ex
  exact ⟨⟨m, n', L, by rw [upd_ne n.1.symm]; exact h1, by rw [upd_ne n.2.symm]; exact h2, r⟩⟩
theorem Mv.free3 {p : Addr} (m : Mv d g H H') (D' : Dk k H' d g b) (h : H' p = none) : H p = none := by
  have n := D'.off h
  cases e : H p with
  | none => rfl
  | some o => rw [m.keep p o e n.1 n.2] at h; cases h
def spDrw (k : Keys) : Sp := fun vs H Q _ => ∃ (d g : Addr) (n : Int) (b : Nat), vs = [.ref d, .int n] ∧ Dk k H d g (b + 1) ∧ 0 < n ∧ n.natAbs < 2 ^ 8000 ∧
  ∀ (r : Int) (H' : Hp), 0 ≤ r → r < n → Dk k H' d g b → Mv d g H H' → Q (.int r) H'
def spDck (K : PySem.W.Frag) (k : Keys) : Sp := fun vs H Q _ => ∃ (a : Addr) (ns : List Int), vs = [.ref a] ∧ SqL K H a (ns.map V.int) ∧ ns.length ≤ 63 ∧
  ∀ (d g : Addr) (H' : Hp), Same H H' → H d = none → H g = none → Dk k H' d g 1000000000000 → Q (.ref d) H'
def spPck (k : Keys) : Sp := fun vs H Q _ => ∃ (d g a : Addr) (xs : List V) (b : Nat), vs = [.ref d, .ref a] ∧ Dk k H d g (b + 1) ∧ H a = some (.lst xs) ∧ a ≠ g ∧ xs ≠ [] ∧ xs.length ≤ 1000 ∧
  ∀ (x : V) (H' : Hp), x ∈ xs → Dk k H' d g b → Mv d g H H' → Q x H'
theorem cut_map (ns : List Int) (lo hi : Option Int) : cutV (ns.map V.int) lo hi = ((ns.drop (HT.sIx ns.length 0 lo)).take (HT.sIx ns.length ns.length hi - HT.sIx ns.length 0 lo)).map V.int := by
  unfold cutV
  rw [List.length_map, List.map_take, List.map_drop]
theorem cut_ints (ns : List Int) (lo hi : Option Int) : ∃ ms : List Int, cutV (ns.map V.int) lo hi = ms.map V.int ∧ ms.length ≤ ns.length := by
  refine ⟨_, cut_map ns lo hi, ?_⟩
  rw [List.length_take, List.length_drop]
  omega
theorem ints_at {ns : List Int} {i : Nat} {x : V} (h : (ns.map V.int)[i]? = some x) : ∃ n, x = .int n ∧ i < ns.length := by
  rw [List.getElem?_map] at h
  cases e : ns[i]? with
  | none => rw [e] at h; cases h
  | some n =>
    rw [e] at h
    exact ⟨n, (Option.some.inj h).symm, (List.getElem?_eq_some_iff.mp e).1⟩
theorem vals_rev : ∀ {xs : List V} {us : List Value}, Vals xs us → Vals xs.reverse us.reverse
  | _, _, .nil => .nil
  | _, _, .cons r t => by
    rw [List.reverse_cons, List.reverse_cons]
    exact Vals.append (vals_rev t) (.cons r .nil)
def spLaw (K : PySem.W.Frag) : Sp := fun vs H Q _ => ∃ (a : Addr) (ns : List Int), vs = [.ref a] ∧ SqL K H a (ns.map V.int) ∧ ns.length ≤ 63 ∧ ∀ H', Q (.bl true) H'
theorem walk {l : PySem.W.OpenLaw} {k : Nat} {q : Program} {loose : List Str} {XP : (Str → Option Value) → Heap → Prop} {YP : World → Heap → Prop} {d : DefRec} {K : Params → PySem.W.Frag} (hn : l.most = some 63) (hdf : d.params.defaults = []) (hr : Room k callerA)
    (hY : ∀ (w : World) (h : Heap), YP w h → (K w.params).In h)
    (F : ∀ (w : World) (mg : Str → Option Value) (fa : Addr) (h : Heap), (K w.params).In h → h.Ns mainGlobals mg → mg d.name = some (.ref fa) →
      ∃ fd : FuncData, (∀ (s : Shared) (u : Value), BindsTo s fd ⟨[u], []⟩ [("_law_script", u)]) ∧ ∀ base : Heap, (K w.params).In base → base.Ns mainGlobals mg → FnG l.prog w (K w.params) mg base CX0 k fa fd ["_law_script"] (spLaw (K w.params))) :
    PySem.W.WalkO q loose XP YP l.row.toRowW d [] (fun f vs => PySem.call f vs) :=
  walkG (n := 63) (k := k) (x := "_law_script") (sp := spLaw) hn (by decide) hdf hr hY F (fun _ _ a ns hl _ hS => ⟨a, ns, rfl, hS, hl, fun _ => rfl⟩)
end
section
variable {X : Cx} {k n : Nat} {f : Addr} {fd : FuncData} {ps ks : List Str} {sp : Sp} {x : Str} {p pos : Pos} {e : Expr} {es : List Expr} {t tk : TA} {kws : List Keyword} {g : List Value → List Value → List Value} {gV : List V → List V → List V}
/-- what is known of a def that is called with keywords -/
structure DefKG (P : Program) (w : World) (K : PySem.W.Frag) (mg : Str → Option Value) (base : Heap) (k : Nat) (x : Str) (ps : List Str) (n : Nat) (ks : List Str) (gV : List V → List V → List V) (sp : Sp) : Prop where
  ex : ∃ (f : Addr) (fd : FuncData) (g : List Value → List Value → List Value), FnG P w K mg base CX0 k f fd ps sp ∧ mg x = some (.ref f) ∧ PySem.W.keepIn K (.ref f) = true ∧ KBn K fd ps n ks g gV
def tCallKG (sp : Sp) (n m : Nat) (gV : List V → List V → List V) (E : XK) (ta tk : TA) : TE := fun σ H Q => ta σ H fun vs H1 => tk σ H1 fun zs H2 => vs.length = n ∧ zs.length = m ∧ sp (gV vs zs) H2 Q E
/-- f(a=.., b=..) -/
theorem pe_defK0 (D : DefKG X.prog X.w X.K X.mg X.base k x ps 0 ks gV sp) (hr : Room k X.A) (hc : Calm X.A) (hg : Gl X x) (hkw : PK X kws tk)
    (hall : (backToKw pos (keywordEach kws X.env)).all (·.1.isSome) = true := by rfl) (hks : (backToKw pos (keywordEach kws X.env)).filterMap (·.1) = ks := by rfl) (hdb : (x == ("__debug__" : Str)) = false := by decide)
    (hpl : ((backTo pos (starEach [] X.env)).any (·.1) || (backToKw pos (keywordEach kws X.env)).any (·.1.isNone)) = false := by rfl) :
    PE X (.Call (.Name x p) [] kws pos) (tCallKG sp 0 ks.length gV E0 tNil tk) := by
  obtain ⟨f, fd, g, F, hm, hk, hb⟩ := D.ex
  constructor
  intro pins s σ H Q I h
  refine wpAny_Call_Name_kw (ld_glob I hg hm (PySem.W.callWith_KW0 (h₀ := X.base) I.ok.mod.kin hk hall (thn (hkw.run pos pins s σ H _ I h) ?_) hpl) hdb)
  rintro ws s2 ⟨zs, H2, I2, rz, l1, l2, q2⟩
  refine ⟨I2.kIn, ?_⟩
  rw [hks]
  exact runKG (us := []) (vs := []) F hr hc hb pass0 I2 .nil rz rfl l2 q2
end
theorem Nice.intW {i : Int} (h : i.natAbs < 2 ^ 1920) : Nice 1921 0 (.int i) := by
  have l : i.natAbs.log2 < 1920 := PySem.Flt.log2_lt_of (by decide) h
  exact ⟨decide_eq_true l, rfl, Nat.le_refl _, PyProof.Rows.int_text_len_1921 l⟩
theorem Nice.natW {n : Nat} (h : n < 2 ^ 1920) : Nice 1921 0 (.int (n : Int)) := Nice.intW (by rw [Int.natAbs_natCast]; exact h)
theorem defK_mk {P : Program} {w : World} {K : PySem.W.Frag} {mg : Str → Option Value} {base : Heap} {k n : Nat} {x : Str} {st : Stmt} {f : Addr} {fd : FuncData} {ps ks : List Str} {gV : List V → List V → List V} {g : List Value → List Value → List Value} {sp : Sp} (F : Fun K x x st f fd) (gl : mg x = some (.ref f)) (b : KBn K fd ps n ks g gV) (h : FnG P w K mg base CX0 k f fd ps sp) : DefKG P w K mg base k x ps n ks gV sp :=
  ⟨⟨f, fd, g, h, gl, F.kp, b⟩⟩
end G3
namespace GL
open PySem PySem.Spec PyProof.Rows L2 PySem.W PySem.Calls
/-! ### tuples whose own methods are called: it is known that they have no dict -/
def SqZ (K : PySem.W.Frag) (H : Hp) (a : Addr) (xs : List V) : Prop :=
  (∃ o : Obj, H a = some (.frz o (.tup xs)) ∧ o.dict = none) ∨
    ∃ (o : Obj) (its : Array Value) (n : Nat), K.lookup a = some o ∧ o.cls = .type "tuple" ∧ o.dict = none ∧ o.data = .seq its n ∧ its.size ≤ sizeLine ∧ Vals xs its.toList
theorem SqZ.t {K : PySem.W.Frag} {H : Hp} {a : Addr} {xs : List V} (h : SqZ K H a xs) : SqT K H a xs := by
  rcases h with ⟨o, h, _⟩ | ⟨o, its, n, h1, h2, _, h3, h4, h5⟩
  · exact .inl (.inr ⟨o, h⟩)
  · exact .inr ⟨o, its, n, h1, h2, h3, h4, h5⟩
theorem SqZ.to {K : PySem.W.Frag} {H H' : Hp} {a : Addr} {xs : List V} (k : ∀ o, H a = some (.frz o (.tup xs)) → H' a = some (.frz o (.tup xs))) (h : SqZ K H a xs) : SqZ K H' a xs :=
  h.imp (fun ⟨o, h, d⟩ => ⟨o, k o h, d⟩) id
theorem SqZ.same {K : PySem.W.Frag} {H H' : Hp} {a : Addr} {xs : List V} (s : Same H H') (h : SqZ K H a xs) : SqZ K H' a xs := h.to fun _ e => s _ _ e
/-- what is said of a new tuple -/
def NewZ (H : Hp) (xs : List V) (Q : VK) : Prop := ∀ (p : Addr) (o : Obj), H p = none → o.dict = none → Q (.ref p) (upd H p (.frz o (.tup xs)))
section
variable {X : Cx} {pins : List (Addr × Obj)} {σ : L2.St} {H : Hp} {s : Shared}
theorem newZ {xs : List V} {its : List Value} {Q : VK} (I : Inv X pins σ H s) (r : Vals xs its) (hz : xs.length ≤ sizeLine) (q : NewZ H xs Q) : EP X pins σ Q (.ref s.heap.objs.size) { s with heap := s.heap.push { cls := .type "tuple", data := .seq its.toArray } } :=
  ⟨.ref s.heap.objs.size, upd H s.heap.objs.size (.frz ({ cls := .type "tuple", data := .seq its.toArray } : Obj) (.tup xs)),
    I.laid (t' := s.toks) (fun b ob e => Heap.get?_push_of_some _ e) (Nat.le_refl _) (show ObjOk X.prog X.w _ _ _ (.frz _ (.tup xs)) from ⟨Heap.get?_push_size _ rfl, hz, its, r, IsTup.new _ _⟩), rfl, q _ _ (I.hok.fresh (Nat.le_refl _)) rfl⟩
/-- tuple(a list) -/
def kTupZ (K : PySem.W.Frag) : V → Hp → VK → Prop := fun x H Q => ∃ p xs, x = .ref p ∧ SqL K H p xs ∧ NewZ H xs Q
theorem pe_tupleZ {a : Expr} {ta : TE} {p pos : Pos} (hg : Gl X "tuple") (hm : X.mg "tuple" = none) (ha : PE X a ta) (na : starEach [a] X.env = (false, eval a X.env) :: starEach [] X.env := by rfl) :
    PE X (.Call (.Name "tuple" p) [a] [] pos) (tThen ta (kTupZ X.K)) := by
  constructor
  intro pins s σ H Q I h
  refine Call_ (ld_blt I hg hm boot_tuple (PyProof.Rows.callWith_type1 (one_arg ha I h (fun v s2 x H2 I2 r q => ?_) na) na))
  obtain ⟨p, xs, rfl, hs, q⟩ := q
  obtain rfl : v = .ref p := r
  obtain ⟨its, rv, pl, hz⟩ := I2.list hs
  refine call_tuple_list pl.isList (fun h' hk => ?_) (by rw [List.size_toArray, ← rv.length]; exact hz)
  exact newZ (s := { s2 with heap := h' }) (I2.kept (t' := s2.toks) hk) rv hz q
/-- t + u -/
def rCatZ (K : PySem.W.Frag) : R2 := fun x y H Q => ∃ a b xs ys, x = .ref a ∧ y = .ref b ∧ SqT K H a xs ∧ SqT K H b ys ∧ xs.length + ys.length ≤ sizeLine ∧ (xs = [] → Q (.ref b) H) ∧ (xs ≠ [] → ys = [] → Q (.ref a) H) ∧ (xs ≠ [] → ys ≠ [] → NewZ H (xs ++ ys) Q)
theorem op_catZ : OpR X (binaryOp .Add) (rCatZ X.K) := by
  intro pins s σ H x y v u Q I rx ry h
  obtain ⟨a, b, xs, ys, rfl, rfl, ha, hb, hz, q0, q1, q2⟩ := h
  obtain rfl : v = .ref a := rx
  obtain rfl : u = .ref b := ry
  obtain ⟨its, r1, p1, _⟩ := I.tuple ha
  obtain ⟨its2, r2, p2, _⟩ := I.tuple hb
  by_cases hx : xs = []
  · subst hx
    cases r1
    exact cat_tup0 p1 p2 ⟨.ref b, H, I, rfl, q0 rfl⟩
  · refine HT.cat_tup p1 p2 (fun z => hx (r1.nil_iff.mp z)) (fun z => ⟨.ref a, H, I, rfl, q1 hx (r2.nil_iff.mp z)⟩) (fun z => ?_) (by rw [← r1.length, ← r2.length]; exact hz)
    exact newZ I (r1.append r2) (by rw [List.length_append]; exact hz) (q2 hx fun w => z (r2.nil_iff.mpr w))
/-- t[lo:hi] -/
def rSlZ (K : PySem.W.Frag) : V → Option Int → Option Int → Hp → VK → Prop := fun x lo hi H Q => ∃ a xs, x = .ref a ∧ SqT K H a xs ∧
  (HT.sIx xs.length 0 lo = 0 ∧ HT.sIx xs.length xs.length hi = xs.length → Q (.ref a) H) ∧ (¬ (HT.sIx xs.length 0 lo = 0 ∧ HT.sIx xs.length xs.length hi = xs.length) → NewZ H (cutV xs lo hi) Q)
theorem sl_tupZ : SlR X (rSlZ X.K) := by
  intro pins s σ H x v vl vu lo hi sl Q I rx hs pl pu h
  obtain ⟨a, xs, rfl, hx, q1, q2⟩ := h
  obtain rfl : v = .ref a := rx
  obtain ⟨its, r, ht, hz⟩ := I.tuple hx
  have hlen : its.toArray.size = xs.length := by rw [List.size_toArray]; exact r.length.symm
  refine ⟨"tuple", _, PyProof.Rows.slot_tuple_getitem.lookup, ht.typeIs, ?_⟩
  by_cases hw : HT.sIx xs.length 0 lo = 0 ∧ HT.sIx xs.length xs.length hi = xs.length
  · exact getItem_tuple_whole ht hs pl pu (by rw [hlen]; exact hw) ⟨.ref a, H, I, rfl, q1 hw⟩
  · refine HT.getItem_tuple_cut ht hs pl pu (by rw [hlen]; exact hw) ?_ (by rw [hlen]; exact hz)
    rw [hlen]
    exact newZ I ((r.drop (HT.sIx xs.length 0 lo)).take (HT.sIx xs.length xs.length hi - HT.sIx xs.length 0 lo)) (Nat.le_trans (cutV_length xs lo hi) hz) (q2 hw)
variable {o e : Expr} {es : List Expr} {to : TE} {t : TA} {name : Str} {apos cpos : Pos} {id : String} {r : V → List V → Hp → VK → Prop}
/-- t.m(e, ..), m a method of tuples -/
def tBMZ (K : PySem.W.Frag) (r : V → List V → Hp → VK → Prop) (to : TE) (t : TA) : TE := fun σ H Q => to σ H fun x H1 => (∃ a xs, x = .ref a ∧ SqZ K H1 a xs) ∧ t σ H1 fun xs H2 => r x xs H2 Q
theorem pe_bmZ (slot : Slot "tuple" name id) (hty : typeOf (.builtin id) = pure (.type "method_descriptor")) (hm : MtR X id r) (ho : PE X o to) (ha : PA X (e :: es) t)
    (hbase : attributeBase o name X.env (eval o X.env) = eval o X.env := by rfl)
    (hfew : ((backTo cpos (starEach (e :: es) X.env)).all (fun x => !x.1) && (backToKw cpos (keywordEach [] X.env)).all (fun x => x.1.isSome)
      && decide ((e :: es).length + ([] : List Keyword).length + (if ([] : List Keyword).isEmpty then 0 else 1) < 30)) = true := by rfl)
    (hline : (apos.endLine == cpos.line) = true := by rfl) (hs : starEach (e :: es) X.env = (false, eval e X.env) :: starEach es X.env := by rfl) (hplain : (backTo cpos (starEach es X.env)).any (·.1) = false := by rfl) :
    PE X (.Call (.Attribute o name apos) (e :: es) [] cpos) (tBMZ X.K r to t) := by
  constructor
  intro pins s σ H Q I h
  refine wpAny_Call_method_late hbase hfew hline rfl (thn (ho.run pins s σ H _ I h) fun v s1 ⟨x, H1, I1, r1, ty, q1⟩ => ?_)
  obtain ⟨a, xs, rfl, hz⟩ := ty
  obtain rfl : v = .ref a := r1
  have tp : s1.TypeIs (.ref a) "tuple" ∧ ∃ ob, s1.heap.get? a = some ob ∧ ob.dict = none := by
    obtain ⟨its, _, ht, _⟩ := I1.tuple hz.t
    refine ⟨ht.typeIs, ?_⟩
    rcases hz with ⟨ob, e, d⟩ | ⟨ob, _, _, e, _, d, _⟩
    · exact ⟨ob, ((show ObjOk X.prog X.w H1 s1.heap a (.frz ob (.tup xs)) from I1.hok a _ e)).1, d⟩
    · exact ⟨ob, I1.kIn a ob e, d⟩
  refine ⟨"tuple", id, PySem.F.plainAttrs_tuple, slot, hty, tp.1, fun b e => ?_, ?_⟩
  · cases e
    exact tp.2
  have hA := ha.run cpos pins s1 σ H1 _ I1 q1
  rw [hs] at hA ⊢
  refine Calls.callWith_builtin (by show (false || (backTo cpos (starEach es X.env)).any (·.1)) = false; rw [hplain] <;> rfl) (Calls.evalArgs_plain ?_)
  exact thn hA fun us s2 ⟨vs, H2, I2, r2, q2⟩ => hm pins s2 σ H2 (V.ref a) vs _ us Q I2 rfl r2 q2
end

/-! ### t[::-1] -/
section
variable {prog : Program} {w : World} {A : Around} {E : Value → Shared → Prop} {s : Shared}
theorem fm_congr {α β : Type} {f g : α → Option β} : ∀ l : List α, (∀ k ∈ l, f k = g k) → l.filterMap f = l.filterMap g
  | [], _ => rfl
  | a :: r, h => by
    rw [List.filterMap_cons, List.filterMap_cons, h a List.mem_cons_self, fm_congr r fun k hk => h k (List.mem_cons_of_mem _ hk)]
theorem back_list (xs : Array Value) : ((List.range xs.size).filterMap fun (k : Nat) => xs[((xs.size : Int) - 1 + (k : Int) * (-1)).toNat]?).toArray = xs.toList.reverse.toArray := by
  congr 1
  have e : (List.range xs.size).filterMap (fun (k : Nat) => xs[((xs.size : Int) - 1 + (k : Int) * (-1)).toNat]?) = ((List.range xs.size).map fun k => xs.size - 1 - k).filterMap (xs[·]?) := by
    rw [List.filterMap_map]
    refine fm_congr _ fun k hk => ?_
    have := List.mem_range.mp hk
    show xs[((xs.size : Int) - 1 + (k : Int) * (-1)).toNat]? = xs[xs.size - 1 - k]?
    rw [show ((xs.size : Int) - 1 + (k : Int) * (-1)).toNat = xs.size - 1 - k by omega]
  rw [e, krv_range, List.filterMap_reverse, krv_all]
theorem getItem_tuple_back {t sl : Addr} {items : Array Value} {vs : Value} {Q : Value → Shared → Prop} (ht : IsTup s.heap t items) (hs : s.heap.IsSliceOf sl .none .none vs) (ps : IsPart vs (some (-1)))
    (h : Q (.ref s.heap.objs.size) { s with heap := s.heap.push { cls := .type "tuple", data := .seq items.toList.reverse.toArray } })
    (hsz : items.size ≤ sizeLine) : wpAny (model prog w) A (getItem (.ref t) (.ref sl)) Q E s := by
  have fit : sizeOk (.seq items.toList.reverse.toArray) := by
    show items.toList.reverse.toArray.size ≤ sizeLine
    rw [List.size_toArray, List.length_reverse, Array.length_toList]
    exact hsz
  obtain ⟨os, hos, hcs, hds⟩ := id hs
  have hTs : s.TypeIs (.ref sl) "slice" := ⟨os, hos, hcs⟩
  unfold getItem
  try with_reducible refine wpAny_holding ?_
  first | refine wpAny_bind (wpAny_pure ?_) | skip
  refine wpAny_bind (wpAny_sequenceKey ht.typeIs (by decide) ?_)
  refine wpAny_bind (wpAny_callSpecial?_slot (name := Str.ofString "__getitem__") ht.typeIs PyProof.Rows.slot_tuple_getitem
    (wpAny_call_entry PyProof.Rows.slot_tuple_getitem ht.typeIs entry_tuple_getitem ?_ (args_tuple_getitem _ _)))
  show wpAny _ _ (Builtin.Tuple.tupleItemsOf (.ref t) >>= _) _ _ s
  refine wpAny_bind (tupleItemsOf_ ht (wpAny_bind (wpAny_typeOf hTs ?_)))
  rw [if_pos (by decide)]
  have places : Builtin.Slice.slicePlaces ((items.size : Int) - 1) (-1) (-1) = items.size := by
    unfold Builtin.Slice.slicePlaces
    rw [if_neg (by decide)]
    by_cases z : items.size = 0
    · rw [z]; decide
    · rw [if_pos (by omega), show (-(-1 : Int)) = 1 by decide, Int.ediv_one]
      omega
  have app : wpAny (model prog w) A.in1 (Builtin.Slice.sliceApplied (.ref sl) (pure (items.size : Int))) (fun r s' => r = (((items.size : Int) - 1), -1, items.size) ∧ s' = s) (fun _ _ => False) s := by
    unfold Builtin.Slice.sliceApplied Builtin.Slice.sliceFields
    refine wpAny_bind (wpAny_bind (wpAny_field hos hds (x := .none) rfl (wpAny_bind (wpAny_field hos hds (x := .none) rfl (wpAny_bind (wpAny_field hos hds (x := vs) rfl (wpAny_pure ?_)))))))
    refine wpAny_bind (HT.slicePart_ ps ?_)
    show wpAny _ _ (if ((-1 : Int) == 0) = true then _ else _) _ _ s
    rw [if_neg (by decide)]
    refine wpAny_bind (slicePart_none (wpAny_bind (slicePart_none (wpAny_bind (wpAny_pure ?_)))))
    show wpAny _ _ (pure (((items.size : Int) - 1), (-1 : Int), Builtin.Slice.slicePlaces ((items.size : Int) - 1) (-1) (-1))) _ _ s
    rw [places]
    exact wpAny_pure ⟨rfl, rfl⟩
  refine wpAny_bind (wpAny_mono app (fun r s' hr => ?_) fun _ _ z => z.elim)
  obtain ⟨rfl, rfl⟩ := hr
  have no : ¬ ((((items.size : Int) - 1) == 0 && (-1 : Int) == 1 && items.size == items.size) = true) := by
    intro q
    rw [Bool.and_eq_true, Bool.and_eq_true] at q
    exact absurd q.1.2 (by decide)
  show wpAny _ _ (if (((items.size : Int) - 1) == 0 && (-1 : Int) == 1 && items.size == items.size) = true then _ else _) _ _ s'
  rw [if_neg no, back_list]
  first
    | exact wpAny_bind (m := Builtin.Tuple.tupleExact _) (wpAny_newObj_type (wpAny_pure ⟨_, rfl, wpAny_pure h⟩) fit)
    | exact wpAny_bind (m := Builtin.Tuple.tupleExact _) (wpAny_newObj_type (wpAny_bind (wpAny_pure (wpAny_pure ⟨_, rfl, wpAny_pure h⟩))) fit)
    | exact wpAny_bind (wpAny_bind (m := Builtin.Tuple.tupleExact _) (wpAny_newObj_type (wpAny_pure (wpAny_pure ⟨_, rfl, wpAny_pure h⟩)) fit))
    | exact wpAny_bind (wpAny_bind (m := Builtin.Tuple.tupleExact _) (wpAny_newObj_type (wpAny_pure ⟨_, rfl, wpAny_pure h⟩) fit))
end
section
variable {X : Cx}
def tRevZ (K : PySem.W.Frag) (te : TE) : TE := fun σ H Q => te σ H fun x H1 => ∃ a xs, x = .ref a ∧ SqT K H1 a xs ∧ NewZ H1 xs.reverse Q
theorem pe_revZ {e : Expr} {te : TE} {k : Nat} {p1 p2 p3 pos : Pos} (he : PE X e te) : PE X (.Subscript e (.Slice none none (some (.UnaryOp .USub (.Constant (.int 1) k p1) p2)) p3) pos) (tRevZ X.K te) := by
  constructor
  intro pins s σ H Q I h
  refine Subscript_ (thn (he.run pins s σ H _ I h) fun v s1 hv => ?_)
  obtain ⟨x, H1, I1, r1, a, xs, rfl, hx, q⟩ := hv
  obtain rfl : v = .ref a := r1
  have part : PO X (some (.UnaryOp .USub (.Constant (.int 1) k p1) p2)) (tPart (tUn (rU fun i => .int (-i)) (tC (.int 1)))) := po_some (pe_un un_neg pe_int)
  refine wpAny_Slice (thn (po_none.run pins s1 σ H1 (fun o H2 => o = none ∧ H2 = H1) I1 ⟨rfl, rfl⟩) fun vl s2 hl => ?_)
  obtain ⟨l, H2, I2, pl, rfl, rfl⟩ := hl
  refine thn (po_none.run pins s2 σ H2 (fun o H3 => o = none ∧ H3 = H2) I2 ⟨rfl, rfl⟩) fun vu s3 hu => ?_
  obtain ⟨u, H3, I3, pu, rfl, rfl⟩ := hu
  refine thn (part.run pins s3 σ H3 (fun o H4 => o = some (-1) ∧ H4 = H3) I3 ⟨1, rfl, -1, rfl, rfl, rfl⟩) fun vs s4 hp => ?_
  obtain ⟨o, H4, I4, ps, rfl, rfl⟩ := hp
  cases pl
  cases pu
  have I5 : Inv X pins σ H4 { s4 with heap := s4.heap.push { cls := .type "slice", data := .fields #[.none, .none, vs] } } := I4.kept (t' := s4.toks) fun b ob q => Heap.get?_push_of_some _ q
  obtain ⟨its, r, ht, hz⟩ := I5.tuple hx
  show wpAny (model X.prog X.w) X.A (subscriptTail e (.Slice none none (some (.UnaryOp .USub (.Constant (.int 1) k p1) p2)) p3) (.ref a) (.ref s4.heap.objs.size)) (EP X pins σ Q) X.xe { s4 with heap := s4.heap.push { cls := .type "slice", data := .fields #[.none, .none, vs] } }
  refine tail_any (ops := [.ref a, .ref s4.heap.objs.size]) ht.typeIs (PyProof.Rows.slot_tuple_getitem.lookup) ?_ (by with_unfolding_all rfl)
  refine getItem_tuple_back ht (Heap.IsSliceOf.new _ .none .none vs) ps ?_ (by rw [List.size_toArray, ← r.length]; exact hz)
  have e1 : its.toArray.toList.reverse.toArray = its.reverse.toArray := by simp
  rw [e1]
  exact newZ I5 r.reverse (by rw [List.length_reverse]; exact hz) q
end
/-! ### t * 0, t * 1 -/
section
theorem tuple_mul1 (l : Addr) (items : Array Value) (n : Nat) (dd : Option Addr) (sl : Array (Option Value)) (u : Tok) :
    Meets (Builtin.«tuple.__mul__» ⟨[.ref l, .int 1 u], []⟩) (fun _ R s => s.heap.get? l = some { cls := .type "tuple", dict := dd, data := .seq items n, slots := sl } ∧ R (.ok (.ret (Value.ref l))) s) :=
  .of_wp fun prog w A R s h => by
    obtain ⟨hp, g, d, tk, os⟩ := s
    obtain ⟨hl, h⟩ := h
    have f1 := AutoSeq1.idx_int
    have c1 : (items.isEmpty || (1 : Int) == 1) = true := by rw [Bool.or_eq_true]; exact Or.inr (by decide)
    wp_walk using wpAny_loadPart' hl
    repeat (first
      | (refine wpAny_ite_true (decide_eq_true c1) ?_; wp_walk using wpAny_loadPart' hl)
      | (refine wpAny_ite_false (by decide) ?_; wp_walk using wpAny_loadPart' hl))
    exact ⟨_, rfl, h⟩
theorem tuple_mul0 (l : Addr) (items : Array Value) (n : Nat) (dd : Option Addr) (sl : Array (Option Value)) (u : Tok) (ne : items.isEmpty = false) :
    Meets (Builtin.«tuple.__mul__» ⟨[.ref l, .int 0 u], []⟩) (fun _ R s => s.heap.get? l = some { cls := .type "tuple", dict := dd, data := .seq items n, slots := sl } ∧
      R (.ok (.ret (Value.ref s.heap.objs.size))) { s with heap := s.heap.push { cls := Value.type "tuple", data := Data.seq #[] }, toks := s.toks }) :=
  .of_wp fun prog w A R s h => by
    obtain ⟨hp, g, d, tk, os⟩ := s
    obtain ⟨hl, h⟩ := h
    have f1 := AutoSeq1.idx_int
    have c1 : (items.isEmpty || (0 : Int) == 1) = false := by rw [ne, Bool.false_or]; decide
    have c2 : (decide ((0 : Int) ≤ 0) || items.isEmpty) = true := by rw [Bool.or_eq_true]; exact Or.inl (by decide)
    wp_walk using wpAny_loadPart' hl
    repeat (first
      | (refine wpAny_ite_false (decide_eq_false (by rw [c1]; exact Bool.false_ne_true)) ?_; wp_walk using wpAny_loadPart' hl)
      | (refine wpAny_ite_true (decide_eq_true c2) ?_; wp_walk using wpAny_loadPart' hl)
      | (refine wpAny_ite_false (by decide) ?_; wp_walk using wpAny_loadPart' hl))
    exact ⟨_, rfl, h⟩
end
section
variable {X : Cx}
def rRep01 (K : PySem.W.Frag) : R2 := fun x y H Q => ∃ l k xs, x = .ref l ∧ y = .int k ∧ SqT K H l xs ∧ xs ≠ [] ∧ (k = 0 ∨ k = 1) ∧ (k = 0 → NewZ H [] Q) ∧ (k = 1 → Q (.ref l) H)
theorem op_rep01 : OpR X (binaryOp .Mult) (rRep01 X.K) := by
  intro pins s σ H x y v u Q I rx ry h
  obtain ⟨l, k, xs, rfl, rfl, hT, ne, hk, q0, q1⟩ := h
  obtain rfl : v = .ref l := rx
  obtain ⟨t, rfl⟩ := ry
  obtain ⟨its, r, ⟨⟨cls, dd, data, sl⟩, ho, hc, n, hd⟩, hs⟩ := I.tuple hT
  simp only at hc hd
  subst hc hd
  have em : its.toArray.isEmpty = false := by
    cases its with
    | nil => cases r; exact absurd rfl ne
    | cons a b => rfl
  refine wpAny_binaryOp_repeat_ref (T := "tuple") (U := "int") (by decide) ⟨_, ho, rfl⟩ (fun s' => typeIs_int s' k t) noFill_tuple_mul F.fills_int_mul F.slot_int_rmul repeat_tuple F.slot_int_index.lookup
    (call_meets F.slot_int_rmul (typeIs_int s k t) F.entry_int_rmul (F.args_int_rmul_2 _ _) (int_rmul_tuple k t l its.toArray n dd sl) ⟨ho, rfl, ⟨_, ho, rfl⟩, ?_⟩)
  rcases hk with rfl | rfl
  · exact call_meets F.slot_tuple_mul ⟨_, ho, rfl⟩ F.entry_tuple_mul (F.args_tuple_mul_2 _ _) (tuple_mul0 l its.toArray n dd sl t em) ⟨ho, newZ I (its := []) .nil (Nat.zero_le _) (q0 rfl)⟩
  · exact call_meets F.slot_tuple_mul ⟨_, ho, rfl⟩ F.entry_tuple_mul (F.args_tuple_mul_2 _ _) (tuple_mul1 l its.toArray n dd sl t) ⟨ho, ⟨.ref l, H, I, rfl, q1 rfl⟩⟩
end
end GL
/-! an instance that is called: own __call__, where nothing that guards itself is under way -/
namespace G3
open PySem PySem.Spec PyProof.Rows L2 GL StX PySem.W PySem.Calls
theorem callO_ofK {M : Model} {A : Around} {E : Value → Shared → Prop} {s : Shared} {a : Addr} {pos : Pos} {Q : Value → Shared → Prop} {args : List (Bool × Sem Value)} {kws : List (Option Str × Sem Value)} (hplain : (args.any (·.1) || kws.any (·.1.isNone)) = false)
    (h : wpAny M A (evalArgs (.ref a) true args kws) (fun z s₁ => (∃ C ox od, PySem.W.InstAt s₁.heap a ox C od ∧ ox.data = .plain) ∧ wpAny M A (call (.ref a) ([] ++ z.pos) z.kw) Q E s₁) E s) : wpAny M A (callWith pos (.ref a) [] args kws) Q E s := by
  unfold callWith
  refine wpAny_bind (wpAny_holding (wpAny_mono h (fun z s₁ h₁ => wpAny_bind (wpAny_standAt ?_)) fun _ _ y => y))
  obtain ⟨⟨C, ox, od, J, hd⟩, h₁⟩ := h₁
  have L := PySem.W.kco_keeper (M := M) J hd
  simp only [hplain]
  refine wpAny_bind (L.here ?_)
  have tail : ∀ {t : Sem Value}, wpAny M A t Q E s₁ → wpAny M A (t >>= fun r => holding [r] point >>= fun _ => pure r) Q E s₁ :=
    fun ht => wpAny_bind (wpAny_mono ht (fun r s₂ hr => wpAny_bind (wpAny_holding (wpAny_point (wpAny_pure hr)))) fun _ _ y => y)
  exact tail (wpAny_operateT h₁)
section
variable {X : Cx} {CX : CXT} {k n : Nat} {f C : Addr} {fd : FuncData} {ps ks : List Str} {sp : Sp} {E : XK} {e fe : Expr} {es : List Expr} {tf : TE} {t tk : TA} {p pos : Pos} {ds : List Value} {dvs : List V} {kws : List Keyword} {g : List Value → List Value → List Value} {gV : List V → List V → List V}
def tCallOG (C : Addr) (sp : Sp) (E : XK) (tf : TE) (t : TA) : TE := fun σ H Q => tf σ H fun y H1 => ∃ a, y = V.ref a ∧ t σ H1 fun vs H2 => (∃ dx fs, H2 a = some (.ins C dx fs)) ∧ sp (V.ref a :: vs) H2 Q E
/-- f(e, ..), f an expression that gives an instance -/
theorem pe_callOG (hf : PE X fe tf) (c : CallO X.K C f) (F : FnG X.prog X.w X.K X.mg X.base CX k f fd ps sp) (hb : Binds X.K fd ps []) (hr : Room k X.A) (hc : Calm X.A) (hx : Passes CX X E) (ha : PA X (e :: es) t)
    (ht : eval (.Call fe (e :: es) [] pos) X.env = (do callWith pos (← eval fe X.env) [] (backTo pos (starEach (e :: es) X.env)) (backToKw pos (keywordEach [] X.env))) := by rfl)
    (he : starEach (e :: es) X.env = (false, eval e X.env) :: starEach es X.env := by rfl) (hpl : (backTo pos (starEach es X.env)).any (·.1) = false := by rfl) : PE X (.Call fe (e :: es) [] pos) (tCallOG C sp E tf t) := by
  refine ⟨fun pins s σ H Q I h => ?_⟩
  refine Call_ (thn (hf.run pins s σ H _ I h) fun u s1 ⟨y, H1, I1, ry, a, ey, q⟩ => ?_) ht
  subst ey
  obtain rfl : u = Value.ref a := ry
  refine callO_with (thn (ha.run pos pins s1 σ H1 _ I1 q) fun us s2 ⟨vs, H2, I2, r, hi, q2⟩ => ?_) he hpl
  obtain ⟨ox, od, J, hd⟩ := insC_at I2 (.inr hi)
  refine ⟨⟨C, ox, od, J, hd⟩, ?_⟩
  have both : Vals (V.ref a :: vs) (Value.ref a :: us) := .cons rfl r
  have long : (Value.ref a :: us).length = ps.length := both.length.symm.trans (F.len _ _ _ _ q2)
  have go := F.run X.A X.stack s2 H2 ⟨Value.ref a :: us, []⟩ (Value.ref a :: us) (V.ref a :: vs) Q E hr hc I2.env0 (by simpa using hb s2 (Value.ref a :: us) I2.kIn (by simpa using long)) both q2
  refine wpAny_call (PySem.W.kco_code (a := ⟨us, []⟩) I2.kIn J hd c.at_ c.fn c.fi (codeAny_mono go fun r' s' q => ?_))
  have z := out_of hx I2 r' s' q
  match r', z with
  | .error _, z => exact z
  | .ok (.ret _), z => exact z
def tCallOKG (C : Addr) (sp : Sp) (n : Nat) (gV : List V → List V → List V) (E : XK) (tf : TE) (tk : TA) : TE := fun σ H Q => tf σ H fun y H1 => ∃ a, y = V.ref a ∧ tk σ H1 fun zs H2 => zs.length = n ∧ (∃ dx fs, H2 a = some (.ins C dx fs)) ∧ sp (gV [V.ref a] zs) H2 Q E
/-- f(k=e, ..) -/
theorem pe_callOKG (hf : PE X fe tf) (c : CallO X.K C f) (F : FnG X.prog X.w X.K X.mg X.base CX k f fd ps sp) (hb : KBn X.K fd ps 1 ks g gV) (hr : Room k X.A) (hc : Calm X.A) (hx : Passes CX X E) (hkw : PK X kws tk)
    (hall : (backToKw pos (keywordEach kws X.env)).all (·.1.isSome) = true := by rfl) (hks : (backToKw pos (keywordEach kws X.env)).filterMap (·.1) = ks := by rfl)
    (hpl : ((backTo pos (starEach [] X.env)).any (·.1) || (backToKw pos (keywordEach kws X.env)).any (·.1.isNone)) = false := by rfl)
    (ht : eval (.Call fe [] kws pos) X.env = (do callWith pos (← eval fe X.env) [] (backTo pos (starEach [] X.env)) (backToKw pos (keywordEach kws X.env))) := by rfl) : PE X (.Call fe [] kws pos) (tCallOKG C sp ks.length gV E tf tk) := by
  refine ⟨fun pins s σ H Q I h => ?_⟩
  rw [ht]
  refine wpAny_bind (thn (hf.run pins s σ H _ I h) fun u s1 ⟨y, H1, I1, ry, a, ey, q⟩ => ?_)
  subst ey
  obtain rfl : u = Value.ref a := ry
  refine callO_ofK hpl (evalArgs_kw2_nil hall (thn (hkw.run pos pins s1 σ H1 _ I1 q) fun ws s2 ⟨zs, H2, I2, rz, l2, hi, q2⟩ => ?_))
  obtain ⟨ox, od, J, hd⟩ := insC_at I2 (.inr hi)
  refine ⟨⟨C, ox, od, J, hd⟩, ?_⟩
  rw [hks]
  have go := F.run X.A X.stack s2 H2 ⟨[Value.ref a], ks.zip ws⟩ (g [Value.ref a] ws) (gV [V.ref a] zs) Q E hr hc I2.env0 (hb.to s2 [Value.ref a] ws I2.kIn rfl (rz.length.symm.trans l2)) (hb.rel (.cons rfl .nil) rz) q2
  refine wpAny_call (PySem.W.kco_code (a := ⟨[], ks.zip ws⟩) I2.kIn J hd c.at_ c.fn c.fi (codeAny_mono go fun r' s' q => ?_))
  have z := out_of hx I2 r' s' q
  match r', z with
  | .error _, z => exact z
  | .ok (.ret _), z => exact z
end
/-! ### C.m(..), m a static method of the class at C -/
structure StatM (K : PySem.W.Frag) (C : Addr) (m : Str) (f : Addr) : Prop where
  ga : PySem.W.specialIn K (.ref C) "__getattribute__" = some (some (.builtin "type.__getattribute__"))
  rd : PySem.W.readsIn K C (.type "type") = true
  fc : ∃ (p : Addr) (rest : List Value), PySem.W.findCls K (.ref C) (.type "type") m = some (.get (.builtin "staticmethod.__get__") (.ref p) .none (.ref C)) ∧ PySem.W.recIn K p "staticmethod" = some (.ref f :: rest)
  kp : PySem.W.keepIn K (.ref f) = true
theorem getstat {X : Cx} {pins : List (Addr × Obj)} {σ : L2.St} {H : Hp} {s : Shared} {A : Around} {E : Value → Shared → Prop} {C f : Addr} {m : Str} {pl : Sem Bool} {Q : Value × List Value → Shared → Prop} (I : Inv X pins σ H s) (S : StatM X.K C m f)
    (h : ∀ s', Inv X pins σ H s' → Q (.ref f, []) s') : wpAny (model X.prog X.w) A (getMethod (.ref C) m pl) Q E s := by
  obtain ⟨p, rest, e1, e2⟩ := S.fc
  refine PySem.W.method_cls I.kIn S.ga (PySem.W.cls_bind (mc := .type "type") I.kIn S.rd e1 (wpAny_call (PySem.W.sm_get (s := { s with toks := s.toks + 1 }) I.kIn e2 (PySem.W.handed_on rfl ?_))))
  exact h _ (I.tok _)
section
variable {X : Cx} {CX : CXT} {k n : Nat} {f C : Addr} {fd : FuncData} {ps ks : List Str} {sp : Sp} {x m : Str} {e : Expr} {es : List Expr} {t tk : TA} {p pos apos : Pos} {ds : List Value} {dvs : List V} {kws : List Keyword} {g : List Value → List Value → List Value} {gV : List V → List V → List V}
theorem pe_statG {pl : Sem Bool} (S : StatM X.K C m f) (F : FnG X.prog X.w X.K X.mg X.base CX0 k f fd ps sp) (hb : Binds X.K fd ps ds) (hd : Vals dvs ds) (hr : Room k X.A) (hc : Calm X.A) (hg : Gl X x) (hm : X.mg x = some (.ref C)) (ha : PA X (e :: es) t) (hdb : (x == ("__debug__" : Str)) = false := by decide)
    (hst : starEach (e :: es) X.env = (false, eval e X.env) :: starEach es X.env := by rfl) (hpl : (backTo pos (starEach es X.env)).any (·.1) = false := by rfl)
    (ht : eval (.Call (.Attribute (.Name x p) m apos) (e :: es) [] pos) X.env = (eval (.Name x p) X.env >>= fun ov => standAt apos.atName >>= fun _ => holding [ov] (getMethod ov m pl) >>= fun fx =>
      callWith pos fx.1 fx.2 (backTo pos (starEach (e :: es) X.env)) (backToKw pos (keywordEach [] X.env))) := by rfl) :
    PE X (.Call (.Attribute (.Name x p) m apos) (e :: es) [] pos) (tCall sp dvs E0 t) := by
  constructor
  intro pins s σ H Q I h
  refine PySem.W.methodCall_KW (pl := pl) (ld_glob I hg hm ?_ hdb) ht
  refine getstat I S fun s1 I1 => ?_
  refine PySem.W.callWith_K (first := []) (h₀ := X.base) I1.ok.mod.kin S.kp (thn (ha.run pos pins s1 σ H _ I1 h) ?_) hst hpl
  rintro us s2 ⟨vs, H2, I2, r, q2⟩
  exact ⟨I2.kIn, runG F hr hc hb hd pass0 I2 r q2⟩
theorem pe_statKG0 {pl : Sem Bool} (S : StatM X.K C m f) (F : FnG X.prog X.w X.K X.mg X.base CX0 k f fd ps sp) (hb : KBn X.K fd ps 0 ks g gV) (hr : Room k X.A) (hc : Calm X.A) (hg : Gl X x) (hm : X.mg x = some (.ref C)) (hkw : PK X kws tk) (hdb : (x == ("__debug__" : Str)) = false := by decide)
    (hall : (backToKw pos (keywordEach kws X.env)).all (·.1.isSome) = true := by rfl) (hks : (backToKw pos (keywordEach kws X.env)).filterMap (·.1) = ks := by rfl)
    (hpl : ((backTo pos (starEach [] X.env)).any (·.1) || (backToKw pos (keywordEach kws X.env)).any (·.1.isNone)) = false := by rfl)
    (ht : eval (.Call (.Attribute (.Name x p) m apos) [] kws pos) X.env = (eval (.Name x p) X.env >>= fun ov => standAt apos.atName >>= fun _ => holding [ov] (getMethod ov m pl) >>= fun fx =>
      callWith pos fx.1 fx.2 (backTo pos (starEach [] X.env)) (backToKw pos (keywordEach kws X.env))) := by rfl) :
    PE X (.Call (.Attribute (.Name x p) m apos) [] kws pos) (tCallKG sp 0 ks.length gV E0 tNil tk) := by
  constructor
  intro pins s σ H Q I h
  refine PySem.W.methodCall_KW (pl := pl) (ld_glob I hg hm ?_ hdb) ht
  refine getstat I S fun s1 I1 => ?_
  refine PySem.W.callWith_KW0 (first := []) (h₀ := X.base) I1.ok.mod.kin S.kp hall (thn (hkw.run pos pins s1 σ H _ I1 h) ?_) hpl
  rintro ws s2 ⟨zs, H2, I2, rz, l1, l2, q2⟩
  refine ⟨I2.kIn, ?_⟩
  rw [hks]
  exact runKG (us := []) (vs := []) F hr hc hb pass0 I2 .nil rz rfl l2 q2
theorem pe_statKG1 {pl : Sem Bool} (S : StatM X.K C m f) (F : FnG X.prog X.w X.K X.mg X.base CX0 k f fd ps sp) (hb : KBn X.K fd ps n ks g gV) (hr : Room k X.A) (hc : Calm X.A) (hg : Gl X x) (hm : X.mg x = some (.ref C)) (ha : PA X (e :: es) t) (hkw : PK X kws tk) (hdb : (x == ("__debug__" : Str)) = false := by decide)
    (hall : (backToKw pos (keywordEach kws X.env)).all (·.1.isSome) = true := by rfl) (hks : (backToKw pos (keywordEach kws X.env)).filterMap (·.1) = ks := by rfl)
    (hpl : ((backTo pos (starEach (e :: es) X.env)).any (·.1) || (backToKw pos (keywordEach kws X.env)).any (·.1.isNone)) = false := by rfl)
    (hst : starEach (e :: es) X.env = (false, eval e X.env) :: starEach es X.env := by rfl)
    (ht : eval (.Call (.Attribute (.Name x p) m apos) (e :: es) kws pos) X.env = (eval (.Name x p) X.env >>= fun ov => standAt apos.atName >>= fun _ => holding [ov] (getMethod ov m pl) >>= fun fx =>
      callWith pos fx.1 fx.2 (backTo pos (starEach (e :: es) X.env)) (backToKw pos (keywordEach kws X.env))) := by rfl) :
    PE X (.Call (.Attribute (.Name x p) m apos) (e :: es) kws pos) (tCallKG sp n ks.length gV E0 t tk) := by
  constructor
  intro pins s σ H Q I h
  refine PySem.W.methodCall_KW (pl := pl) (ld_glob I hg hm ?_ hdb) ht
  refine getstat I S fun s1 I1 => ?_
  refine PySem.W.callWith_KW (first := []) (h₀ := X.base) I1.ok.mod.kin S.kp hall (thn (ha.run pos pins s1 σ H _ I1 h) ?_) hpl hst
  rintro us s2 ⟨vs, H2, I2, r, q2⟩
  refine thn (hkw.run pos pins s2 σ H2 _ I2 q2) ?_
  rintro ws s3 ⟨zs, H3, I3, rz, l1, l2, q3⟩
  refine ⟨I3.kIn, ?_⟩
  rw [hks]
  exact runKG (us := us) (vs := vs) F hr hc hb pass0 I3 r rz l1 l2 q3
end
/-! ### rules told with the written part itself: a comprehension's element may then use them -/
section
variable {X : Cx} {K : PySem.W.Frag} {a e o : Expr} {ta : TE} {p pos : Pos} {f : Str}
theorem ix_tupK (h : X.K = K := by rfl) : IxR X (rIxT K) := h ▸ ix_tup
theorem ix_listK (h : X.K = K := by rfl) : IxR X (rIxL K) := h ▸ ix_list
theorem pe_fldK (he : PE X e ta) (hb : attributeBase e f X.env (eval e X.env) = eval e X.env) (h : X.K = K := by rfl) : PE X (.Attribute e f pos) (tFld K ta f) := h ▸ pe_fld he hb
theorem pe_tupleOfK (hg : Gl X "tuple") (hm : X.mg "tuple" = none) (ha : PE X a ta) (h : X.K = K := by rfl) (na : starEach [a] X.env = (false, eval a X.env) :: starEach [] X.env := by rfl) :
    PE X (.Call (.Name "tuple" p) [a] [] pos) (tThen ta (kTup K)) := h ▸ pe_tupleOf hg hm ha na
theorem op_catAK (h : X.K = K := by rfl) : OpR X (binaryOp .Add) (rCatA K) := h ▸ op_catA
/-- t * k, k from 1 on -/
def rRepP (K : PySem.W.Frag) : R2 := fun x y H Q => ∃ l k xs, x = .ref l ∧ y = .int k ∧ SqT K H l xs ∧ xs ≠ [] ∧ 1 ≤ k ∧ k ≤ 1000 ∧ xs.length ≤ 1000 ∧ (k = 1 → Q (.ref l) H) ∧ (2 ≤ k → ∀ p, H p = none → Q (.ref p) (upd H p (.tup (List.replicate k.toNat xs).flatten)))
theorem op_repPK (h : X.K = K := by rfl) : OpR X (binaryOp .Mult) (rRepP K) := by
  subst h
  intro pins s σ H x y v u Q I rx ry hh
  obtain ⟨l, k, xs, rfl, rfl, hT, ne, h1, h2, hl, q1, q2⟩ := hh
  by_cases e : k = 1
  · exact op_rep01 pins s σ H _ _ v u Q I rx ry ⟨l, k, xs, rfl, rfl, hT, ne, .inr e, fun z => absurd z (by omega), q1⟩
  · exact op_repT pins s σ H _ _ v u Q I rx ry ⟨l, k, xs, rfl, rfl, hT, ne, by omega, h2, hl, q2 (by omega)⟩
def rLenSeq (K : PySem.W.Frag) : List V → Hp → VK → Prop := fun xs H Q => ∃ p ys, xs = [.ref p] ∧ (SqL K H p ys ∨ SqT K H p ys) ∧ Q (.int (ys.length : Nat)) H
theorem call_len_seqK (h : X.K = K := by rfl) : CallR X (.builtin "len") (rLenSeq K) := h ▸ call_len_seq
end
end G3
namespace GL
open PySem PySem.Spec PyProof.Rows L2 PySem.W PySem.Calls

/-! ### a target list with a star: (a, .., *b, .., c) -/
section
variable {prog : Program} {w : World} {A : Around} {E : Value → Shared → Prop} {s : Shared}
/-- a tuple told out to n targets, the one at i starred: the middle becomes a new list behind all there is -/
theorem star_items {a : Addr} {xs : Array Value} {n i : Nat} {Q : List Value → Shared → Prop} (ht : IsTup s.heap a xs) (hh : A.handled = none) (hi : i < n) (hn : n ≤ xs.size + 1) (hz : xs.size ≤ 16384)
    (h : ∀ (h' : Heap) (tk : Nat), (∀ b o, s.heap.get? b = some o → h'.get? b = some o) →
      Q (xs.toList.take i ++ [.ref h'.objs.size] ++ (xs.toList.drop i).drop (xs.size + 1 - n)) { s with heap := h'.push { cls := .type "list", data := .seq ((xs.toList.drop i).take (xs.size + 1 - n)).toArray }, toks := tk }) :
    wpAny (model prog w) A (unpackItems (.ref a) n (some i)) Q E s := by
  have la : a < s.heap.objs.size := by obtain ⟨o, ho, _⟩ := ht; exact Heap.lt_size ho
  have na : a ≠ s.heap.objs.size := Nat.ne_of_lt la
  unfold unpackItems notIterableAtAll
  refine wpAny_bind (wpAny_bind (wpAny_specialOf ht.typeIs slot_tuple_iter.lookup (wpAny_pure ?_)))
  simp only [Bool.false_eq_true, if_false]
  refine wpAny_bind (wpAny_holding (iter_tuple ht (wpAny_bind (wpAny_holding (draw_tuple na i 0 _ _ ⟨_, Heap.get?_push_size _ rfl, rfl, rfl⟩ (ht.push _) (by omega) fun h1 it1 sb1 => ?_)))))
  rw [Nat.zero_add] at it1
  have t1 : IsTup h1 a xs := (ht.push _).extBut sb1.extBut na
  have lI : s.heap.objs.size < h1.objs.size := by obtain ⟨o, ho, _⟩ := it1; exact Heap.lt_size ho
  have la1 : a < h1.objs.size := by obtain ⟨o, ho, _⟩ := t1; exact Heap.lt_size ho
  rw [List.drop_zero]
  have l1 : (xs.toList.take i).length = i := by rw [List.length_take, Array.length_toList]; omega
  rw [if_neg (by omega : ¬ (xs.toList.take i).length < i)]
  refine wpAny_bind (wpAny_holding (kun_collect (s := { s with heap := h1 }) (T := "tuple_iterator") (.inr (.inr (.inr rfl))) (Walks.tuple (A := A.in1) hh s.heap.objs.size a na xs) (fun j u st => st.1.typeIs) (k := i) (by omega) ⟨it1, t1⟩ lI la1 (fun h2 tk k2 => ?_) (by rw [sizeLine_eq]; omega)))
  have l2 : (xs.toList.drop i).length = xs.size - i := by rw [List.length_drop, Array.length_toList]
  have l3 : (xs.toList.drop i).length - (n - 1 - i) = xs.size + 1 - n := by omega
  show wpAny _ _ (if (xs.toList.drop i).length < n - 1 - i then _ else _) _ _ _
  rw [if_neg (by omega)]
  show wpAny _ _ (newList ((xs.toList.drop i).take ((xs.toList.drop i).length - (n - 1 - i))) >>= fun d => pure (xs.toList.take i ++ [d] ++ (xs.toList.drop i).drop ((xs.toList.drop i).length - (n - 1 - i)))) _ _ _
  rw [l3]
  have kp : ∀ b o, s.heap.get? b = some o → h2.get? b = some o := fun b o e => k2 b o (Nat.ne_of_lt (Heap.lt_size e)) (sb1.extBut b o (Nat.ne_of_lt (Heap.lt_size e)) (Heap.get?_push_of_some _ e))
  exact wpAny_bind (wpAny_newList (s := { s with heap := h2, toks := tk }) (wpAny_pure (h h2 tk kp)) (by rw [List.length_take, l2, sizeLine_eq]; omega))
end
section
variable {X : Cx} {es : List Expr} {t : TGs} {m n i k : Nat} {pos : Pos}
/-- (a, .., *b, .., c) = a tuple -/
def gStar (K : PySem.W.Frag) (n i : Nat) (t : TGs) : TG := fun v σ H Q => ∃ a xs, v = .ref a ∧ SqT K H a xs ∧ n ≤ xs.length + 1 ∧ xs.length ≤ 1000 ∧
  ∀ D, H D = none → t (xs.take i ++ [.ref D] ++ (xs.drop i).drop (xs.length + 1 - n)) σ (upd H D (.lst ((xs.drop i).take (xs.length + 1 - n)))) Q
theorem pg_star (hc : X.calm = true) (h : PGs X es t) (hn : (assignEach es X.env).length = n := by rfl) (hst : (assignEach es X.env).findIdx? (·.1) = some i := by rfl) (hi : i < n := by decide) : PG X (.Tuple es k pos) (gStar X.K n i t) := by
  constructor
  intro pins s σ H v u Q I r hw
  obtain ⟨a, xs, rfl, hq, h1, h2, hw⟩ := hw
  cases r
  obtain ⟨its, rv, ht, hz⟩ := I.tuple hq
  have el : its.length = xs.length := rv.length.symm
  rw [assign_Tuple]
  refine wpAny_bind (wpAny_standAt ?_)
  unfold unpack
  rw [hn, hst]
  refine wpAny_bind (wpAny_holding (star_items ht (I.ok.hd hc) hi (by rw [List.size_toArray, el]; exact h1) (by rw [List.size_toArray, el]; omega) fun h' tk kp => ?_))
  have I1 : Inv X pins σ H { s with heap := h', toks := tk } := I.kept kp
  have e3 : its.toArray.toList = its := by simp
  have e4 : its.toArray.size = xs.length := by rw [List.size_toArray, el]
  rw [e3, e4]
  have rd : ∀ j, Vals (xs.drop j) (its.drop j) := fun j => rv.drop j
  have rt : Vals ((xs.drop i).take (xs.length + 1 - n)) ((its.drop i).take (xs.length + 1 - n)) := (rd i).take _
  have I2 : Inv X pins σ (upd H h'.objs.size (.lst ((xs.drop i).take (xs.length + 1 - n)))) ({ s with heap := h'.push { cls := .type "list", data := .seq ((its.drop i).take (xs.length + 1 - n)).toArray }, toks := tk } : Shared) :=
    I1.laid (t' := tk) (fun b o e => Heap.get?_push_of_some _ e) (Nat.le_refl _) ⟨by rw [List.length_take, List.length_drop, sizeLine_eq]; omega, _, 0, rt, Heap.get?_push_size _ rfl⟩
  have r1 : Vals [V.ref h'.objs.size] [Value.ref h'.objs.size] := .cons rfl .nil
  exact h.run pins _ σ _ _ _ Q I2 (((rv.take i).append r1).append ((rd i).drop _)) (hw h'.objs.size (I1.hok.fresh (Nat.le_refl _)))
end

section
variable {X : Cx} {t : TG} {u : TGs} {e : Expr} {es : List Expr} {p : Pos}
theorem pgs_consS (h1 : PG X e t) (h2 : PGs X es u) (hs : (assignEach (.Starred e p :: es) X.env).map (·.2) = assign e X.env :: (assignEach es X.env).map (·.2) := by rfl) : PGs X (.Starred e p :: es) (gCons t u) := by
  constructor
  intro pins s σ H vs us Q I r h
  obtain ⟨v, vr, rfl, h⟩ := h
  cases r with
  | cons r rr =>
    rw [hs]
    exact assignInOrder_cons (thn (h1.run pins s σ H _ _ _ I r h) fun _ s1 ⟨σ1, H1, I1, q1⟩ => h2.run pins s1 σ1 H1 _ _ Q I1 rr q1)
end
/-! ### an own operator: x & y by the class's def -/
section
variable {X : Cx} {CX : CXT} {k : Nat} {f C : Addr} {fd : FuncData} {ps : List Str} {sp : Sp} {E : XK} {op : Operator}
/-- what the class must say of an operator's def -/
structure OpK (K : PySem.W.Frag) (C f : Addr) (d : Str) : Prop where
  sf : PySem.W.selfFirst K C = true
  at_ : PySem.W.findIn K (.ref C) d = some (some (.ref f))
  fn : PySem.W.isFn K (.ref f) = true
/-- both sides instances of the class at C; the answer is an object -/
def rOwn (C : Addr) (sp : Sp) (E : XK) : R2 := fun x y H Q => ∃ a dx fs b dy gs, x = .ref a ∧ y = .ref b ∧ H a = some (.ins C dx fs) ∧ H b = some (.ins C dy gs) ∧ sp [.ref a, .ref b] H (fun v H2 => (∃ r, v = .ref r) ∧ Q v H2) E
theorem op_own {d : Str} (o : OpK X.K C f d) (hd : (PySem.dunder op.info.2 : Str) = d) (F : FnG X.prog X.w X.K X.mg X.base CX k f fd ps sp) (hr : Room k X.A) (hc : Calm X.A) (hb : Binds X.K fd ps []) (hx : Passes CX X E) : OpR X (binaryOp op) (rOwn C sp E) := by
  intro pins s σ H x y v u Q I rx ry h
  obtain ⟨a, dx, fs, b, dy, gs, rfl, rfl, ha, hbb, q⟩ := h
  obtain rfl : v = .ref a := rx
  obtain rfl : u = .ref b := ry
  obtain ⟨mA, OA, _⟩ := ins_get I.hok ha
  obtain ⟨mB, OB, _⟩ := ins_get I.hok hbb
  obtain ⟨odA, IA, _⟩ := OA.look
  obtain ⟨odB, IB, _⟩ := OB.look
  obtain ⟨m, fr⟩ := I.fr
  refine PySem.W.binop_K fr I.ok.mod.kin IA (IB.type) o.sf (hd ▸ o.at_) o.fn ?_
  refine wpAny_mono (runG (us := [.ref a, .ref b]) (vs := [.ref a, .ref b]) F hr hc hb .nil hx I (.cons rfl (.cons rfl .nil)) q) (fun u s1 hu => ?_) fun _ _ z => z
  obtain ⟨v, H1, I1, rv, ⟨r, rfl⟩, q1⟩ := hu
  obtain rfl : u = .ref r := rv
  exact ⟨V.ref r, H1, I1, rfl, q1⟩
end

/-! ### defs with *names, where no guard is under way -/
def FnRG (P : Program) (w : World) (K : PySem.W.Frag) (mg : Str → Option Value) (base : Heap) (CX : CXT) (k : Nat) (f : Addr) (sp : Sp) : Prop :=
  ∀ (A : Around) (outer : List Env) (s : Shared) (H : Hp) (us : List Value) (vs : List V) (Q : VK) (E : XK), Room k A → Calm A → Env0 P w K mg base A outer s H → Vals vs us → sp vs H Q E →
    codeAny (model P w) A (.call (.ref f) ⟨us, []⟩) (CR CX outer P w H s Q E) s
section
variable {P : Program} {w : World} {K : PySem.W.Frag} {mg : Str → Option Value} {base : Heap} {k : Nat} {f : Addr} {name qual pv : Str} {params : Arguments} {body : List Stmt} {scope : Scope} {dV kV doc pm cdv ct oc : Value} {an od : Option Addr}
  {osl : Array (Option Value)} {N ps : List Str} {sp : Sp}
/-- def f(a, .., *v) -/
theorem fn_starG (lk : K.lookup f = some ⟨oc, od, .func (PySem.W.fnOf name qual params body scope dV kV doc pm an cdv ct), osl⟩) (hcd : PySem.W.codeIn K cdv qual = true) (S : FnScope N (ps ++ [pv]) scope)
    (hb : ∀ us rest : List Value, us.length = ps.length → bindArgs (PySem.W.fnOf name qual params body scope dV kV doc pm an cdv ct) ⟨us ++ rest, []⟩ = (newTuple rest >>= fun t => pure (ps.zip us ++ [(pv, t)])))
    (walk : ∀ (cdv : Value) (A : Around) (outer : List Env) (s : Shared) (H : Hp) (vs : List V) (Q : VK) (E : XK), Room k (A.deeper (envOfC qual scope s.heap.objs.size f cdv)) → Calm (A.deeper (envOfC qual scope s.heap.objs.size f cdv)) → sp vs H Q E →
      ∃ t, PSs (cxOf CX0 P w K mg base N qual scope f cdv A outer s H E).nox body t ∧ t { nx := fun _ H' => Q .non H', rt := Q } (start N vs) H) :
    FnRG P w K mg base CX0 (k + 1) f (fun vs H Q E => ∃ ws rest, vs = ws ++ rest ∧ ws.length = ps.length ∧ rest.length ≤ sizeLine ∧ ∀ p, H p = Option.none → sp (ws ++ [V.ref p]) (upd H p (.tup rest)) Q E) := by
  intro A outer s H us vs Q E hr hc e0 r hsp
  obtain ⟨ws, rest, rfl, hl, hz, hq⟩ := hsp
  obtain ⟨u1, u2, rfl, r1, r2⟩ := StX.vals_split r
  have free : H s.heap.objs.size = Option.none := e0.hok.fresh (Nat.le_refl _)
  have m1 : u1.length = ps.length := r1.length.symm.trans hl
  have m2 : u2.length ≤ sizeLine := r2.length ▸ hz
  refine StX.run_bnd lk hcd S hr e0 (G := fun xs H2 => ∃ p, H p = Option.none ∧ xs = ws ++ [V.ref p] ∧ H2 = upd H p (.tup rest)) (fun A' Ex Q' h => ?_) fun s2 H2 xs g hr' => ?_
  · rw [hb u1 u2 m1]
    refine wpAny_bind (wpAny_newTuple (wpAny_pure ?_) m2)
    have new : ObjOk P w (upd H s.heap.objs.size (.tup rest)) (s.heap.push ({ cls := .type "tuple", data := .seq u2.toArray } : Obj)) s.heap.objs.size (.tup rest) := ⟨hz, u2, r2, ⟨_, Heap.get?_push_size _ rfl, rfl, _, rfl⟩⟩
    have rr : Vals (ws ++ [V.ref s.heap.objs.size]) (u1 ++ [Value.ref s.heap.objs.size]) := r1.append (.cons rfl .nil)
    have z := h _ _ _ _ (StX.env0_laid e0 new) (StX.un_laid free) rfl (fun e s' f => f) rr (by rw [List.length_append, List.length_append, hl] <;> rfl) ⟨_, free, rfl, rfl⟩
    rw [List.zip_append m1.symm] at z
    exact z
  · obtain ⟨p, hp, rfl, rfl⟩ := g
    obtain ⟨t, d, q⟩ := walk cdv A outer s2 _ _ Q E hr' (hc.deeper _) (hq p hp)
    exact ⟨t, d.nox, q⟩
end
section
variable {X : Cx} {CX : CXT} {k : Nat} {f C : Addr} {sp : Sp} {E : XK} {m : Str} {pos apos : Pos} {e o : Expr} {es : List Expr} {ta : TE} {t : TA}
theorem FnRG.up {P : Program} {w : World} {K : PySem.W.Frag} {mg : Str → Option Value} {base : Heap} {j : Nat} (F : FnRG P w K mg base CX j f sp) (h : j ≤ k) : FnRG P w K mg base CX k f sp := fun A outer s H us vs Q E r => F A outer s H us vs Q E (r.mono h)
theorem runRG {pins : List (Addr × Obj)} {σ : L2.St} {H : Hp} {s : Shared} {Q : VK} {us : List Value} {vs : List V} (F : FnRG X.prog X.w X.K X.mg X.base CX k f sp) (hr : Room k X.A) (hc : Calm X.A) (hx : Passes CX X E) (I : Inv X pins σ H s) (r : Vals vs us) (h : sp vs H Q E) :
    wpAny (model X.prog X.w) X.A (call (.ref f) us) (EP X pins σ Q) X.xe s := by
  refine wpAny_call (codeAny_mono (F X.A X.stack s H us vs Q E hr hc I.env0 r h) fun r' s' q => ?_)
  have z := out_of hx I r' s' q
  match r', z with
  | .error _, z => exact z
  | .ok (.ret _), z => exact z
/-- o.m(e, ..), m with *names -/
theorem pe_methRG {pl : Sem Bool} (he : PE X o ta) (c : Cls X.K C) (hm : Meth X.K C m f) (F : FnRG X.prog X.w X.K X.mg X.base CX k f sp) (hr : Room k X.A) (hc : Calm X.A) (hx : Passes CX X E)
    (ha : PA X (e :: es) t) (hst : starEach (e :: es) X.env = (false, eval e X.env) :: starEach es X.env := by rfl) (hpl : (backTo pos (starEach es X.env)).any (·.1) = false := by rfl)
    (ht : eval (.Call (.Attribute o m apos) (e :: es) [] pos) X.env = (eval o X.env >>= fun ov => standAt apos.atName >>= fun _ => holding [ov] (getMethod ov m pl) >>= fun fx =>
      callWith pos fx.1 fx.2 (backTo pos (starEach (e :: es) X.env)) (backToKw pos (keywordEach [] X.env))) := by rfl) :
    PE X (.Call (.Attribute o m apos) (e :: es) [] pos) (tMeth C m sp [] E ta t) := by
  constructor
  intro pins s σ H Q I h
  refine PySem.W.methodCall_KW (pl := pl) (thn (he.run pins s σ H _ I h) ?_) ht
  rintro u s1 ⟨_, H1, I1, rx, a, dx, fs, rfl, ea, l, q⟩
  obtain rfl : u = .ref a := rx
  refine getmeth_ok I1 ea c hm l (PySem.W.callWith_K (first := [.ref a]) (h₀ := X.base) I.ok.mod.kin hm.kp (thn (ha.run pos pins s1 σ H1 _ I1 q) ?_) hst hpl)
  rintro us s2 ⟨vs, H2, I2, r, q2⟩
  rw [List.append_nil] at q2
  exact ⟨I2.kIn, runRG (us := .ref a :: us) (vs := .ref a :: vs) F hr hc hx I2 (.cons rfl r) q2⟩
/-- o.m() -/
theorem pe_methRG0 {pl : Sem Bool} (he : PE X o ta) (c : Cls X.K C) (hm : Meth X.K C m f) (F : FnRG X.prog X.w X.K X.mg X.base CX k f sp) (hr : Room k X.A) (hc : Calm X.A) (hx : Passes CX X E)
    (ht : eval (.Call (.Attribute o m apos) [] [] pos) X.env = (eval o X.env >>= fun ov => standAt apos.atName >>= fun _ => holding [ov] (getMethod ov m pl) >>= fun fx =>
      callWith pos fx.1 fx.2 (backTo pos (starEach [] X.env)) (backToKw pos (keywordEach [] X.env))) := by rfl) :
    PE X (.Call (.Attribute o m apos) [] [] pos) (tMeth C m sp [] E ta tNil) := by
  constructor
  intro pins s σ H Q I h
  refine PySem.W.methodCall_KW (pl := pl) (thn (he.run pins s σ H _ I h) ?_) ht
  rintro u s1 ⟨_, H1, I1, rx, a, dx, fs, rfl, ea, l, q⟩
  obtain rfl : u = .ref a := rx
  exact getmeth_ok I1 ea c hm l (PySem.W.callWith_K0 (first := [.ref a]) I1.kIn hm.kp (runRG (us := [.ref a]) (vs := [.ref a]) F hr hc hx I1 (.cons rfl .nil) q))
end
end GL
namespace GL
open PySem PySem.Spec PyProof.Rows L2
/-! ### rules told with the written part itself: a comprehension's element may then use them -/
section
variable {X : Cx} {K : PySem.W.Frag} {a e o : Expr} {es : List Expr} {ta to : TE} {t : TA} {p pos apos cpos : Pos} {f name : Str} {id : String} {r : V → List V → Hp → VK → Prop}
theorem pe_tupleOfK (hg : Gl X "tuple") (hm : X.mg "tuple" = none) (ha : PE X a ta) (h : X.K = K := by rfl) (na : starEach [a] X.env = (false, eval a X.env) :: starEach [] X.env := by rfl) :
    PE X (.Call (.Name "tuple" p) [a] [] pos) (tThen ta (kTup K)) := h ▸ pe_tupleOf hg hm ha na
theorem pe_tupleZK (hg : Gl X "tuple") (hm : X.mg "tuple" = none) (ha : PE X a ta) (h : X.K = K := by rfl) (na : starEach [a] X.env = (false, eval a X.env) :: starEach [] X.env := by rfl) :
    PE X (.Call (.Name "tuple" p) [a] [] pos) (tThen ta (kTupZ K)) := h ▸ pe_tupleZ hg hm ha na
theorem pe_fldK (he : PE X e ta) (hb : attributeBase e f X.env (eval e X.env) = eval e X.env) (h : X.K = K := by rfl) : PE X (.Attribute e f pos) (tFld K ta f) := h ▸ pe_fld he hb
theorem pa_starK (he : PE X e to) (hr : PA X es t) (h : X.K = K := by rfl) (hs : starEach (.Starred e p :: es) X.env = (true, eval e X.env) :: starEach es X.env := by rfl) : PA X (.Starred e p :: es) (StX.tStar K to t) := h ▸ StX.pa_star he hr hs
theorem pi_tupK {tg : Expr} (he : PE X e ta) (h : X.K = K := by rfl) : PI X tg e (iTup K ta) := h ▸ pi_tup he
theorem ix_tupK (h : X.K = K := by rfl) : IxR X (rIxT K) := h ▸ ix_tup
theorem mt_tup_indexK (h : X.K = K := by rfl) : MtR X "tuple.index" (fun x xs H Q => ∃ p, ∃ ys : List Str, ∃ z j, x = .ref p ∧ xs = [.str z] ∧ SqT K H p (ys.map V.str) ∧ ys[j]? = some z ∧ (∀ m, m < j → ys[m]? ≠ some z) ∧ Q (.int (j : Nat)) H) := h ▸ mt_tup_index
theorem pe_bmZK (slot : Slot "tuple" name id) (hty : typeOf (.builtin id) = pure (.type "method_descriptor")) (hm : MtR X id r) (ho : PE X o to) (ha : PA X (e :: es) t) (h : X.K = K := by rfl)
    (hbase : attributeBase o name X.env (eval o X.env) = eval o X.env := by rfl)
    (hfew : ((backTo cpos (starEach (e :: es) X.env)).all (fun x => !x.1) && (backToKw cpos (keywordEach [] X.env)).all (fun x => x.1.isSome)
      && decide ((e :: es).length + ([] : List Keyword).length + (if ([] : List Keyword).isEmpty then 0 else 1) < 30)) = true := by rfl)
    (hline : (apos.endLine == cpos.line) = true := by rfl) (hs : starEach (e :: es) X.env = (false, eval e X.env) :: starEach es X.env := by rfl) (hplain : (backTo cpos (starEach es X.env)).any (·.1) = false := by rfl) :
    PE X (.Call (.Attribute o name apos) (e :: es) [] cpos) (tBMZ K r to t) := h ▸ pe_bmZ slot hty hm ho ha hbase hfew hline hs hplain
end
end GL
namespace GL
open PySem PySem.Spec PyProof.Rows L2 PySem.W PySem.Calls
/-! ### enumerate(a tuple) -/
section
variable {prog : Program} {w : World} {A : Around} {E : Value → Shared → Prop} {s : Shared}
theorem nextOf_tup_item {it t : Addr} {i : Nat} {items : Array Value} {x : Value} {Q : Value → Shared → Prop} (hit : IsTupIter s.heap it t i) (ht : IsTup s.heap t items) (hx : items[i]? = some x)
    (hQ : ∀ h', IsTupIter h' it t (i + 1) → Heap.SameBut it s.heap h' → Q x { s with heap := h' }) : wpAny (model prog w) A (Builtin.SmallTypes.nextOf (.ref it)) Q E s := by
  obtain ⟨o, ho, hc, hd⟩ := id hit
  obtain ⟨ol, hol, _, nl, hdl⟩ := ht
  unfold Builtin.SmallTypes.nextOf
  refine wpAny_bind (wpAny_callSpecial?_slot (name := Str.ofString "__next__") hit.typeIs slot_tupleiter_next (wpAny_call_entry slot_tupleiter_next hit.typeIs entry_tupleiter_next ?_ (args_tupleiter_next _)))
  show wpAny _ _ (field (.ref it) 0 >>= _) _ _ s
  refine wpAny_bind (wpAny_field ho hd (x := .ref t) rfl ?_)
  show wpAny _ _ (if (Value.ref t == Value.none) = true then _ else _) _ _ s
  rw [if_neg (show ¬ ((Value.ref t == Value.none) = true) from Bool.false_ne_true)]
  show wpAny _ _ (field (.ref it) 1 >>= _) _ _ s
  refine wpAny_bind (wpAny_field ho hd (x := .int i 0) rfl ?_)
  show wpAny _ _ (seqItems? (.ref t) >>= _) _ _ s
  refine wpAny_bind (wpAny_seqItems hol hdl ?_)
  simp only [Int.toNat_natCast, hx]
  refine wpAny_bind (wpAny_setField ho hd (by simp) (wpAny_pure ⟨x, rfl, wpAny_pure (hQ _ ⟨_, Heap.get?_update_self _ ho (Obj.isFreed_of_fields (Obj.data_mapFields hd _)), (Obj.cls_mapFields ..).trans hc, ?_⟩ (Heap.SameBut.update ..))⟩))
  rw [Obj.data_mapFields hd]
  simp [rawInt]
theorem nextOf_tup_end {it t : Addr} {i : Nat} {items : Array Value} {Q : Value → Shared → Prop} (hh : A.handled = none) (hit : IsTupIter s.heap it t i) (ht : IsTup s.heap t items) (hx : items[i]? = none)
    (hE : ∀ h' e, Heap.ExtBut it s.heap h' → (∃ o, h'.get? e = some o ∧ o.cls = .type "StopIteration") → E (.ref e) { s with heap := h' }) : wpAny (model prog w) A (Builtin.SmallTypes.nextOf (.ref it)) Q E s := by
  obtain ⟨o, ho, hc, hd⟩ := id hit
  obtain ⟨ol, hol, _, nl, hdl⟩ := ht
  unfold Builtin.SmallTypes.nextOf
  refine wpAny_bind (wpAny_callSpecial?_slot (name := Str.ofString "__next__") hit.typeIs slot_tupleiter_next (wpAny_call_entry slot_tupleiter_next hit.typeIs entry_tupleiter_next ?_ (args_tupleiter_next _)))
  show wpAny _ _ (field (.ref it) 0 >>= _) _ _ s
  refine wpAny_bind (wpAny_field ho hd (x := .ref t) rfl ?_)
  show wpAny _ _ (if (Value.ref t == Value.none) = true then _ else _) _ _ s
  rw [if_neg (show ¬ ((Value.ref t == Value.none) = true) from Bool.false_ne_true)]
  show wpAny _ _ (field (.ref it) 1 >>= _) _ _ s
  refine wpAny_bind (wpAny_field ho hd (x := .int i 0) rfl ?_)
  show wpAny _ _ (seqItems? (.ref t) >>= _) _ _ s
  refine wpAny_bind (wpAny_seqItems hol hdl ?_)
  simp only [Int.toNat_natCast, hx]
  refine wpAny_bind (wpAny_rule (wpAny_bind (wpAny_setField ho hd (by simp) ?_)))
  show wpAny _ _ (newExc (.type "StopIteration") [] >>= _) _ _ _
  refine wpAny_bind ?_
  simp only [newExc, newTuple]
  refine wpAny_bind (wpAny_newObj_type ?_ (by size_fits))
  refine wpAny_bind (m := firstArgMember _ _) (wpAny_of_eq (a := Value.none) (by first | rfl | (simp only [firstArgMember]; rfl)) ?_)
  refine wpAny_newObj_type ?_ (by size_fits)
  simp only [raiseNew]
  refine wpAny_bind (wpAny_handled ?_)
  first | rw [show A.in1.handled = none from hh] | rw [hh]
  refine wpAny_bind (wpAny_pure (wpAny_throw ?_))
  exact hE _ _ (((Heap.SameBut.update ..).extBut.push _).push _) ⟨_, Heap.get?_push_size _ rfl, rfl⟩
theorem draws_tup (hh : A.handled = none) (it t : Addr) (hne : t ≠ it) (items : Array Value) : Draws prog w A it [it, t] items.size (fun i v => items[i]? = some v) (fun i h => IsTupIter h it t i ∧ IsTup h t items) where
  live := fun _ _ st => let ⟨o, ho, _⟩ := st.1; ⟨o, ho⟩
  frame := fun _ _ _ st hk => ⟨let ⟨o, ho, r⟩ := st.1; ⟨o, hk it (by simp) o ho, r⟩, let ⟨o, ho, r⟩ := st.2; ⟨o, hk t (by simp) o ho, r⟩⟩
  item := fun i s Q E hi st hQ => nextOf_tup_item st.1 st.2 (x := items[i]) (by simp [hi]) fun h' hit' hs' => hQ _ h' s.toks (by simp [hi]) ⟨hit', st.2.extBut hs'.extBut hne⟩ hs'
  done := fun s Q E st hE => nextOf_tup_end hh st.1 st.2 (by simp) hE
theorem meets_enum_newT (l : Addr) (items : Array Value) (n : Nat) (dct : Option Addr) (sl : Array (Option Value)) :
    Meets (Builtin.«enumerate.__new__» ⟨[.type "enumerate", .ref l], []⟩) (fun _ R s => s.heap.get? l = some { cls := .type "tuple", dict := dct, data := .seq items n, slots := sl } ∧
      R (.ok (.ret (.ref (s.heap.push { cls := .type "tuple_iterator", data := .fields #[.ref l, .int 0 0] }).objs.size)))
        { s with heap := (s.heap.push { cls := .type "tuple_iterator", data := .fields #[.ref l, .int 0 0] }).push { cls := .type "enumerate", data := .fields #[.none, .bool false, .ref s.heap.objs.size, rawInt 0, .none, .none] } }) :=
  .of_wp fun prog w A R s h => by
    obtain ⟨hp, g, d, tk, os⟩ := s
    obtain ⟨hl, h⟩ := h
    have hsub := sub_enumerate
    have hL : IsTup (Shared.heap ⟨hp, g, d, tk, os⟩) l items := ⟨_, hl, rfl, n, rfl⟩
    wp_walk using wpAny_loadPart' hl
    refine wpAny_stack_any fun st => wpAny_pure ?_
    split
    · rename_i c _ _ _ _ _
      cases (c == Value.type "enumerate")
      · wp_walk using wpAny_loadPart' hl, iter_tuple hL
        exact ⟨_, rfl, h⟩
      · wp_walk using wpAny_loadPart' hl, iter_tuple hL
        exact ⟨_, rfl, h⟩
    · wp_walk using wpAny_loadPart' hl, iter_tuple hL
      exact ⟨_, rfl, h⟩
theorem call_enum_tup {l : Addr} {items : Array Value} {Q : Value → Shared → Prop} (hL : IsTup s.heap l items)
    (h : ∀ h', IsEnum h' (s.heap.objs.size + 1) s.heap.objs.size 0 .none → IsTupIter h' s.heap.objs.size l 0 → (∀ b o, s.heap.get? b = some o → h'.get? b = some o) → Q (.ref (s.heap.objs.size + 1)) { s with heap := h' }) :
    wpAny (model prog w) A (call (.type "enumerate") [.ref l]) Q E s := by
  obtain ⟨⟨c, dct, dt, sl⟩, hl, hc, n, hd⟩ := hL
  replace hc : c = .type "tuple" := hc
  replace hd : dt = .seq items n := hd
  subst hc hd
  refine callType_new F.called_enumerate (by decide) (F.typeCall_enumerate_1 _) (F.newCall_enumerate_1 _) (fun obj => F.args_object_init_2 obj _) F.entry_enumerate_new (meets_enum_newT l items n dct sl) ⟨hl, ?_⟩
  have hz : (s.heap.push { cls := .type "tuple_iterator", data := .fields #[.ref l, .int 0 0] }).objs.size = s.heap.objs.size + 1 := Heap.size_push ..
  show _ ∧ _
  rw [hz]
  have he : IsEnum ((s.heap.push { cls := .type "tuple_iterator", data := .fields #[.ref l, .int 0 0] }).push { cls := .type "enumerate", data := .fields #[.none, .bool false, .ref s.heap.objs.size, rawInt 0, .none, .none] }) (s.heap.objs.size + 1) s.heap.objs.size 0 .none := by
    have := Heap.get?_push_size (s.heap.push { cls := .type "tuple_iterator", data := .fields #[.ref l, .int 0 0] }) (o := { cls := .type "enumerate", data := .fields #[.none, .bool false, .ref s.heap.objs.size, rawInt 0, .none, .none] }) rfl
    rw [hz] at this
    exact this
  exact ⟨⟨_, he, rfl⟩, h _ he ⟨_, Heap.get?_push_of_some _ (Heap.get?_push_size _ rfl), rfl, rfl⟩ fun b o x => Heap.get?_push_of_some _ (Heap.get?_push_of_some _ x)⟩
end
section
variable {prog : Program} {w : World} {A : Around} {E : Value → Shared → Prop} {s : Shared}
theorem enum_end_tup {e it t : Addr} {k i : Nat} {n : Int} {items : Array Value} {old : Value} {Q : Option Value → Shared → Prop} (hh : A.handled = none) (he : IsEnum s.heap e it n old) (hit : IsTupIter s.heap it t i) (ht : IsTup s.heap t items) (hx : items[i]? = none)
    (hQ : ∀ h', Heap.ExtBut it s.heap h' → Q none { s with heap := h' }) : wpAny (model prog w) A (pyNext (.ref e)) Q E s := by
  have hT : s.TypeIs (.ref e) "enumerate" := ⟨_, he, rfl⟩
  unfold pyNext
  refine wpAny_bind (wpAny_attempt (wpAny_callSpecial?_slot (name := Str.ofString "__next__") hT F.slot_enumerate_next (wpAny_call_entry F.slot_enumerate_next hT F.entry_enumerate_next ?_ (F.args_enumerate_next_1 _))))
  show wpAny _ _ (field (.ref e) 2 >>= _) _ _ _
  refine wpAny_bind (wpAny_field he rfl (x := .ref it) rfl (wpAny_bind (nextOf_tup_end (A := A.in1) hh hit ht hx fun h' x he' hx' => ?_)))
  obtain ⟨o, ho, hc⟩ := hx'
  exact wpAny_bind (wpAny_isInstance (T := "StopIteration") (b := true) ⟨o, ho, hc⟩ isSubtype_stop (wpAny_pure (hQ _ he')))
end
def Itet (K : PySem.W.Frag) (a : Addr) : It :=
  ⟨fun i H => ∃ (xs : List V) (x : V), SqT K H a xs ∧ xs[i]? = some x, fun i H v H' => ∃ T x, v = .ref T ∧ H T = none ∧ H' = upd H T (.tup [.int (i : Nat), x]) ∧ ∀ xs, SqT K H a xs → xs[i]? = some x, fun i H => ∃ xs : List V, SqT K H a xs ∧ xs.length ≤ i⟩
theorem turn_enumT {P : Program} {w : World} {K : PySem.W.Frag} {elts : List Expr} {kk : Nat} {tpos : Pos} (a e it : Addr) :
    Turn P w K (.Tuple elts kk tpos) (Itet K a) [e, it] e (fun i h => (∃ old, IsEnum h e it ((i : Nat) : Int) old) ∧ IsTupIter h it a i ∧ e ≠ it ∧ a ≠ it ∧ a ≠ e) where
  mem := by simp
  obj := fun i h st b hb => by
    obtain ⟨⟨old, he⟩, ⟨o, ho, hc, hd⟩, _⟩ := st
    rcases (by simpa using hb : b = e ∨ b = it) with rfl | rfl
    · exact ⟨_, he, fun v q => nomatch q⟩
    · exact ⟨o, ho, fun v q => by rw [hd] at q; cases q⟩
  keep := fun i h h' st k => let ⟨⟨old, he⟩, ⟨o, ho, r⟩, hne⟩ := st; ⟨⟨old, k e (by simp) _ he⟩, ⟨o, k it (by simp) o ho, r⟩, hne⟩
  item := by
    intro X hP hw hK hc i pins s σ H E I hf st hg
    subst hP hw hK
    obtain ⟨⟨old, he⟩, hit, hne, nai, nae⟩ := st
    obtain ⟨xs, x, hq, hx⟩ := hg
    obtain ⟨its, rv, p, hz⟩ := I.tuple hq
    obtain ⟨u, hu, ru⟩ := rv.get hx
    have hel : e < s.heap.objs.size := Heap.lt_size he
    have hil : it < s.heap.objs.size := by obtain ⟨_, q, _⟩ := hit; exact Heap.lt_size q
    have li : i < its.toArray.size := by rw [List.size_toArray]; exact (List.getElem?_eq_some_iff.mp hu).1
    refine wpAny_pyNext_enum_itemD (draws_tup (A := X.A.in1) (I.ok.hd hc) it a nai its.toArray) he ⟨hit, p⟩ li hne (by simp [hne, Ne.symm nae]) fun y h' tk hy ho st' hT hsz hk => ?_
    have ey : y = u := Option.some.inj (hy.symm.trans (by simpa using hu))
    subst ey
    refine ⟨_, rfl, wpAny_letOwnedTupleGo_enum (s := { s with heap := h', toks := tk + 1 }) ho fun h'' he' sb => ?_⟩
    have hT2 : h''.get? s.heap.objs.size = some { cls := .type "tuple", data := .seq #[.int i tk, y] } := (sb.2 _ (Nat.ne_of_gt hel)).trans hT
    have new : ObjOk X.prog X.w (upd H s.heap.objs.size (.tup [.int (i : Nat), x])) h'' s.heap.objs.size (.tup [.int (i : Nat), x]) :=
      ⟨by show 2 ≤ sizeLine; decide, [.int i tk, y], .cons ⟨_, rfl⟩ (.cons ru .nil), ⟨_, hT2, rfl, _, rfl⟩⟩
    have I1 : Inv X pins σ (upd H s.heap.objs.size (.tup [.int (i : Nat), x])) { s with heap := h'', toks := tk + 1 } :=
      I.turnedNew (ch := [e, it]) (fun b ob hb q => (sb.2 b (fun z => hb (by simp [z]))).trans (hk b ob (fun z => hb (by simp [z])) (fun z => hb (by simp [z])) q)) hf (Nat.le_refl _) new
    refine ⟨.ref s.heap.objs.size, _, I1, rfl, ⟨_, x, rfl, I.hok.fresh (Nat.le_refl _), rfl, fun ys hy => ?_⟩, ⟨⟨y, ?_⟩, ?_, hne, nai, nae⟩, fun b hb => ?_⟩
    · obtain ⟨its2, rv2, p2, _⟩ := I.tuple hy
      have e2 : its2 = its := by
        obtain ⟨o1, g1, _, n1, d1⟩ := p
        obtain ⟨o2, g2, _, n2, d2⟩ := p2
        rw [g1] at g2
        cases g2
        rw [d1] at d2
        injection d2 with d3 _
        exact (List.toArray_inj d3).symm
      rw [e2] at rv2
      rw [rv2.inj rv]
      exact hx
    · have e1 : ((i + 1 : Nat) : Int) = (i : Int) + 1 := by omega
      rw [e1]; exact he'
    · obtain ⟨o, ho', r⟩ := st'.1
      exact ⟨o, (sb.2 it (Ne.symm hne)).trans ho', r⟩
    · have hb' : b < s.heap.objs.size := by
        rcases (by simpa using hb : b = e ∨ b = it) with rfl | rfl
        · exact hel
        · exact hil
      rw [upd_ne (Nat.ne_of_lt hb')]
      exact (hf b hb).1
  done := by
    intro X hP hw hK hc i pins s σ H E I hf st hg
    subst hP hw hK
    obtain ⟨⟨old, he⟩, hit, hne, nai, nae⟩ := st
    obtain ⟨xs, hq, hx⟩ := hg
    obtain ⟨its, rv, p, hz⟩ := I.tuple hq
    obtain ⟨f0, f1, f2, f3, f4, f5⟩ := hf it (by simp)
    have hl := rv.length
    exact enum_end_tup (k := 0) (I.ok.hd hc) he hit p (by simp; omega) fun h' eb => ⟨rfl, I.turned (t' := s.toks) (fun b o hb q => eb b o hb q) f0 f1 f3 f4 f5⟩
  self := fun A i s Q E st h => let ⟨⟨_, he⟩, _⟩ := st; wpAny_pyIter_enum he h
def iEnumT (K : PySem.W.Frag) (ta : TA) : TI := fun σ H R => ta σ H fun vs H1 => ∃ a xs, vs = [.ref a] ∧ SqT K H1 a xs ∧ R (Itet K a) H1
theorem pi_enumT {X : Cx} {e : Expr} {ta : TA} {p pos tpos : Pos} {elts : List Expr} {kk : Nat} (hg : Gl X "enumerate") (hm : X.mg "enumerate" = none) (ha : PA X [e] ta) (hs : starEach [e] X.env = [(false, eval e X.env)] := by rfl) :
    PI X (.Tuple elts kk tpos) (.Call (.Name "enumerate" p) [e] [] pos) (iEnumT X.K ta) := by
  constructor
  intro pins s σ H R I h
  refine Call_ (ld_blt I hg hm boot_enumerate (PyProof.Rows.callWith_type1 (thn (ha.run pos pins s σ H _ I h) fun us s1 hv => ?_) hs rfl))
  obtain ⟨vs, H1, I1, r1, a, xs, rfl, hq, q⟩ := hv
  cases r1 with
  | cons r rr =>
    cases rr
    cases r
    obtain ⟨its, rv, p', hz⟩ := I1.tuple hq
    have la : a < s1.heap.objs.size := by obtain ⟨o, g, _⟩ := p'; exact Heap.lt_size g
    refine call_enum_tup p' fun h' he hit hk => wpAny_pyIter_enum he ?_
    have I2 : Inv X pins σ H1 { s1 with heap := h' } := I1.kept (t' := s1.toks) hk
    refine ⟨s1.heap.objs.size + 1, [s1.heap.objs.size + 1, s1.heap.objs.size], _, _, H1, rfl, I2, turn_enumT a (s1.heap.objs.size + 1) s1.heap.objs.size, ⟨⟨.none, he⟩, hit, Nat.succ_ne_self _, Nat.ne_of_lt la, Nat.ne_of_lt (Nat.lt_succ_of_lt la)⟩, fun b hb => ?_, q⟩
    have hle : s1.heap.objs.size ≤ b := by
      rcases (by simpa using hb : b = s1.heap.objs.size + 1 ∨ b = s1.heap.objs.size) with rfl | rfl
      · exact Nat.le_add_right _ _
      · exact Nat.le_refl _
    exact I1.fpOk hle (I1.hok.fresh hle)
theorem walk_enumT {K : PySem.W.Frag} {a : Addr} {xs : List V} : Walk (Itet K a) xs.length (fun H => SqT K H a xs) (YPair (fun i => some (.int (i : Nat))) (fun i => xs[i]?)) := by
  refine ⟨fun i _ hi q => ⟨xs, xs[i], q, by simp [hi]⟩, fun _ q => ⟨xs, q, Nat.le_refl _⟩, fun i H v H' _ q y => ?_⟩
  obtain ⟨T, x, h1, h2, h3, h4⟩ := y
  exact ⟨T, .int (i : Nat), x, h1, h2, h3, rfl, h4 xs q⟩
end GL
/-! set(xs) of a list of ints, any of them twice -/
namespace L2
open PySem PySem.Spec PyProof.Rows
/-- the set that has just been made -/
abbrev bare (w : World) : Obj := { cls := .type "set", dict := none, data := .set #[] 0 (.fresh 0 0 (!w.params.followText "set-order")) }
section
variable {P : Program} {w : World} {A : Around} {E : Value → Shared → Prop} {s : Shared}
set_option maxHeartbeats 3200000 in
theorem set_of_list {l : Addr} {vs : Array Value} (ns : List Int) {Q : Value → Shared → Prop} (nh : A.handled = none)
    (isL : s.heap.IsList l vs) (are : IntsAre vs.toList ns) (few : ns.length + 1 < scanBound)
    (q : ∀ (h' : Heap) (tk c : Nat), SetR w h' s.heap.objs.size (fun j => decide (j ∈ ns)) c → c ≤ ns.length →
      (∀ b o, s.heap.get? b = some o → h'.get? b = some o) → Q (.ref s.heap.objs.size) { s with heap := h', toks := tk }) :
    wpAny (model P w) A (call (.type "set") [.ref l]) Q E s := by
  have same : vs.size = ns.length := by
    have z := IntsAre.length are
    rw [Array.length_toList] at z
    exact z
  obtain ⟨c, tl, m0⟩ := PySem.F.called_set.mro
  have m1 := PySem.F.called_set.made
  have m2 := PySem.F.called_set.sub
  refine wpAny_call (codeAny_of_tree ?_)
  show wpAny _ _ (callAny (.type "set") _) _ _ _
  refine wpAny_pure ⟨Code.quiet_builtin _ (by decide +kernel),
    codeAny_builtin PySem.F.entry_type_call ?_⟩
  rw [Around.under_plain (weight_type_call_type "set" [.ref l] [])
    rfl]
  have m3 := PySem.F.called_set.notType
  have m4 := PySem.F.called_set.canCreate
  have m5 := PySem.F.typeCall_set_1 (.ref l)
  repeat (any_goals (first | assumption | wp_step))
  refine codeAny_mono (code_set_led1 (.ref l) (E := E)
    (Q₁ := fun ob t => ob = .ref s.heap.objs.size ∧ t = { s with heap := s.heap.push (bare w) }) ⟨rfl, rfl⟩) fun r t hr => ?_
  cases r with
  | error e => exact hr
  | ok fl =>
    cases fl with
    | ret ob =>
      obtain ⟨rfl, rfl⟩ := hr
      have atS : (s.heap.push (bare w)).get? s.heap.objs.size = some (bare w) := Heap.get?_push_size _ rfl
      have tyS : Shared.TypeIs { s with heap := s.heap.push (bare w) } (.ref s.heap.objs.size) "set" := ⟨_, atS, rfl⟩
      have i1 := PySem.F.called_set.init.lookup
      have i2 := PySem.F.called_set.init.bind (.ref s.heap.objs.size)
      repeat (any_goals (first | assumption | wp_step))
      refine codeAny_mono (codeAny_call_builtin (R := wants (fun r t => r = .none ∧ ∃ h' tk c, t = { s with heap := h', toks := tk } ∧
          SetR w h' s.heap.objs.size (fun j => decide (j ∈ ns)) c ∧ c ≤ ns.length ∧ (∀ b o, s.heap.get? b = some o → h'.get? b = some o)) E)
        PySem.F.called_set.init.plain PySem.F.entry_set_init (check_set_init_1 tyS ?_)) fun r2 t2 hr2 => ?_
      · obtain ⟨ol, e0, e1, nl, e2⟩ := isL
        obtain ⟨oc, od, dat, osl⟩ := ol
        simp only at e1 e2
        subst e1
        subst e2
        have e3 : (s.heap.push (bare w)).get? l = some { cls := .type "list", dict := od, data := .seq vs nl, slots := osl } := Heap.get?_push_of_some _ e0
        have b1 := PySem.F.sub_list_set
        have b2 := PySem.F.sub_list_frozenset
        have b3 : (Value.type "list" == Value.type "dict") = false := by decide
        have isL1 : (s.heap.push (bare w)).IsList l vs := ⟨_, e3, rfl, nl, rfl⟩
        unfold Builtin.«set.__init__» noKeywords
        unfold Builtin.Frozenset.updateFrom
        generalize hI : pyIter = PI
        wp_walk
        subst hI
        refine wpAny_pyIter_list isL1 ?_
        refine wpAny_bind (wpAny_runValue ?_)
        have ltS : l < s.heap.objs.size := Heap.lt_size e0
        have nh3 : A.in1.in1.in1.handled = none := by
          simp [nh]
        have nI : l ≠ (s.heap.push (bare w)).objs.size := by
          rw [Heap.size_push]
          exact Nat.ne_of_lt (Nat.lt_succ_of_lt ltS)
        have offS : s.heap.objs.size ∉ [(s.heap.push (bare w)).objs.size, l] := by
          rw [Heap.size_push]
          intro z
          rcases List.mem_cons.mp z with z | z
          · exact absurd z (Nat.ne_of_lt (Nat.lt_succ_self _))
          · exact absurd (List.mem_singleton.mp z) (Nat.ne_of_gt ltS)
        have val : ∀ (i : Nat) (v : Value), vs[i]? = some v → ∃ k t, ns[i]? = some k ∧ v = .int k t := fun i v hv => by
          have hi : i < ns.length := by
            rw [← same]
            exact (Array.getElem?_eq_some_iff.mp hv).1
          obtain ⟨t, e⟩ := PyProof.Rows.IntsAre.int_at are i v (by rw [Array.getElem?_toList]; exact hv)
          refine ⟨ns[i], t, List.getElem?_eq_getElem hi, ?_⟩
          rw [e, List.getD_eq_getElem?_getD, List.getElem?_eq_getElem hi] <;> rfl
        refine set_update_ints ((Walks.list nh3 _ l nI vs).toS) s.heap.objs.size offS ns same few val (vs.size - 0) 0 _ (by omega) (Nat.zero_le _)
          ⟨⟨_, Heap.get?_push_size _ rfl, rfl, rfl⟩, (isL1.push _)⟩ ?g0 ?gR
        case g0 =>
          exact ⟨0, Nat.le_refl 0, setR_new_at (Heap.get?_push_of_some _ atS)⟩
        case gR =>
          intro t' c' mv hc' hS'
          obtain ⟨h', g2, d', tk', os'⟩ := t'
          have z1 : g2 = s.gens := mv.gens
          have z2 : d' = s.drawn := mv.drawn
          have z3 : os' = s.os := mv.os
          subst z1
          subst z2
          subst z3
          show wpAny _ _ _ _ _ _
          refine wpAny_pure ?_
          show wpAny _ _ (ret Value.none) _ _ _
          rw [same] at hc'
          refine wpAny_pure ⟨rfl, h', tk', c', rfl, hS', hc', fun b o e => ?_⟩
          have lb : b < s.heap.objs.size := Heap.lt_size e
          have n2 : b ≠ (s.heap.push (bare w)).objs.size := by
            rw [Heap.size_push]
            exact Nat.ne_of_lt (Nat.lt_succ_of_lt lb)
          refine mv.heap b o (fun z => ?_) (Heap.get?_push_of_some _ (Heap.get?_push_of_some _ e))
          rcases List.mem_cons.mp z with z | z
          · exact absurd z (Nat.ne_of_lt lb)
          · exact absurd (List.mem_singleton.mp z) n2
      · cases r2 with
        | error e => exact hr2
        | ok fl2 =>
          cases fl2 with
          | ret r =>
            obtain ⟨rfl, h', tk, c', rfl, hS', hc', hk'⟩ := hr2
            repeat (any_goals (first | assumption | wp_step))
            exact q _ _ _ hS' hc' hk'
          | _ => exact hr2.elim
    | _ => exact hr.elim
end
section
variable {X : Cx}
def rSetI (K : PySem.W.Frag) (w : World) : List V → Hp → VK → Prop := fun xs H Q => ∃ (l : Addr) (ns : List Int), xs = [.ref l] ∧ SqL K H l (ns.map V.int) ∧ ns.length ≤ 1000 ∧
  ∀ (p : Addr) (c : Nat), H p = none → c ≤ ns.length → Q (.ref p) (upd H p (SetO w p (fun j => decide (j ∈ ns)) c))
theorem cr_setI (hc : X.calm = true) : CallR X (.type "set") (rSetI X.K X.w) := by
  intro pins s σ H xs us Q I r h
  obtain ⟨l, ns, rfl, hs, hl, q⟩ := h
  obtain ⟨its, rv, pl, _⟩ := I.list hs
  rw [Vals.ref1 r]
  refine set_of_list ns (I.ok.hd hc) pl.isList (show IntsAre its.toArray.toList ns from ints_of_vals rv) (by unfold scanBound; omega) fun h' tk c hS hcn hk => ?_
  exact ⟨.ref _, upd H s.heap.objs.size (SetO X.w s.heap.objs.size (fun j => decide (j ∈ ns)) c), I.laid (t' := tk) (fun b u e => hk b u e) (Nat.le_refl _) (setO_new hS), rfl, q _ c (I.hok.fresh (Nat.le_refl _)) hcn⟩
end
end L2
namespace GL
open PySem PySem.Spec PyProof.Rows L2
section
variable {X : Cx} {K : PySem.W.Frag} {o e : Expr} {es : List Expr} {to ta : TE} {t : TA} {name : Str} {apos cpos : Pos} {Ty id : String} {r : V → List V → Hp → VK → Prop}
theorem pe_bmK (pa : PlainAttrs Ty) (slot : Slot Ty name id) (hty : typeOf (.builtin id) = pure (.type "method_descriptor")) (hm : MtR X id r) (ho : PE X o to) (ha : PA X (e :: es) t) (h : X.K = K := by rfl)
    (hbase : attributeBase o name X.env (eval o X.env) = eval o X.env := by rfl)
    (hfew : ((backTo cpos (starEach (e :: es) X.env)).all (fun x => !x.1) && (backToKw cpos (keywordEach [] X.env)).all (fun x => x.1.isSome)
      && decide ((e :: es).length + ([] : List Keyword).length + (if ([] : List Keyword).isEmpty then 0 else 1) < 30)) = true := by rfl)
    (hline : (apos.endLine == cpos.line) = true := by rfl) (hs : starEach (e :: es) X.env = (false, eval e X.env) :: starEach es X.env := by rfl) (hplain : (backTo cpos (starEach es X.env)).any (·.1) = false := by rfl) :
    PE X (.Call (.Attribute o name apos) (e :: es) [] cpos) (tBM K Ty r to t) := h ▸ pe_bm pa slot hty hm ho ha hbase hfew hline hs hplain
theorem mt_indexK (h : X.K = K := by rfl) : MtR X "list.index" (rIndex K) := h ▸ mt_index
theorem pi_listK {tg : Expr} (he : PE X e ta) (h : X.K = K := by rfl) : PI X tg e (iList K ta) := h ▸ pi_list he
end
end GL
namespace L2
open PySem PySem.Spec PyProof.Rows
section
variable {X : Cx}
/-- sum of a tuple of ints -/
def rSumT (K : PySem.W.Frag) : List V → Hp → VK → Prop := fun vs H Q => ∃ (a : Addr) (ns : List Int), vs = [V.ref a] ∧ SqT K H a (ns.map V.int) ∧ Q (.int ns.sum) H
theorem cr_sumT (calm : X.calm = true) : CallR X (.builtin "sum") (rSumT X.K) := by
  intro pins s σ H vs us Q I r h
  obtain ⟨a, ns, rfl, hs, q⟩ := h
  obtain ⟨its, rv, pt, _⟩ := I.tuple hs
  have isI : IntsAre its ns := rv.ints
  rw [Vals.ref1 r]
  obtain ⟨xs, ex⟩ := isI.allInts.items
  have same : numsOf (intItems xs).toList = ns := by
    rw [← ex]
    exact isI.numsOf
  rw [nums_intItems] at same
  have pt2 : s.heap.IsTuple a (intItems xs) := by
    rw [← ex]
    exact pt
  refine PySem.W.ktm_sumG (I.ok.hd calm) pt2 fun h' tk t' hk => ?_
  rw [preSum_eq, List.take_of_length_le (by simp), same]
  exact ⟨.int _, H, I.kept hk, ⟨_, rfl⟩, q⟩
end
end L2
namespace GL
open PySem PySem.Spec PyProof.Rows L2
/-- sorted(set(xs)) of a name -/
def tSortSet (K : PySem.W.Frag) (i : Nat) : TE := fun σ H Q => ∃ v, σ[i]? = some (some v) ∧ ∃ (l : Addr) (ns : List Int), v = .ref l ∧ SqL K H l (ns.map V.int) ∧ ns.length ≤ 60 ∧
  ∀ (kinds : List Int) (Kd : Addr) (H2 : Hp), Same H H2 → H Kd = none → H2 Kd = some (.lst (kinds.map V.int)) → kinds.Pairwise (· < ·) → (∀ k, k ∈ kinds ↔ k ∈ ns) → Q (.ref Kd) H2
theorem pe_sortSet {X : Cx} {a : Expr} {i : Nat} {p p2 pos pos2 : Pos} (ha : PE X a (tVar i)) (h : PE X (.Call (.Name "sorted" p) [.Call (.Name "set" p2) [a] [] pos2] [] pos) (tCB (rSortedSet X.w) (tCons (tCB (rSetI X.K X.w) (tCons (tVar i) tNil)) tNil))) :
    PE X (.Call (.Name "sorted" p) [.Call (.Name "set" p2) [a] [] pos2] [] pos) (tSortSet X.K i) := by
  refine ⟨fun pins s σ H Q I hh => h.run pins s σ H Q I ?_⟩
  obtain ⟨v, hv, l, ns, rfl, hs, hl, q⟩ := hh
  refine ⟨_, hv, l, ns, rfl, hs, by omega, fun p1 c np1 hc1 => ⟨p1, _, c, rfl, upd_same, by omega, fun kinds Kd hpw hmem hkl nKd => ?_⟩⟩
  refine q kinds Kd _ ((Same.new np1).trans (Same.new nKd)) ((Same.new np1).free nKd) upd_same hpw fun k => ?_
  rw [hmem k, decide_eq_true_eq]
end GL
/-! match over a tuple: cases of a written word and names -/
namespace L2
open PySem PySem.Spec PyProof.Rows
section
variable {X : Cx}
/-- names that take what stands at their place -/
inductive PCap (X : Cx) : List Pattern → List Str → List Nat → Prop
  | nil : PCap X [] [] []
  | cons {ps : List Pattern} {ns : List Str} {is : List Nat} {n : Str} {i : Nat} {pos : Pos} : X.N[i]? = some n → Loc X.env.scope n → (X.fn n = true ∨ X.env.scope.names.lookup n = some .local) → PCap X ps ns is → PCap X (.MatchAs none (some n) pos :: ps) (n :: ns) (i :: is)
def setN : L2.St → List Nat → List V → L2.St
  | σ, i :: is, v :: vs => setN (σ.set i (some v)) is vs
  | σ, _, _ => σ
theorem PCap.len {ps : List Pattern} {ns : List Str} {is : List Nat} (h : PCap X ps ns is) : ns.length = ps.length := by
  induction h with
  | nil => rfl
  | cons _ _ _ _ ih => exact congrArg Nat.succ ih
theorem PCap.each {M : Model} {A : Around} {E : Value → Shared → Prop} {env : Env} {s : Shared} {ps : List Pattern} {ns : List Str} {is : List Nat} (h : PCap X ps ns is) :
    ∀ (us : List Value) (Q : Option (List (Str × Value)) → Shared → Prop), us.length = ps.length → Q (some (ns.zip us)) s → wpAny M A (matchEach ps env us) Q E s := by
  induction h with
  | nil =>
    intro us Q hl q
    exact wpAny_matchEach_nil (by simpa using q)
  | cons h1 h2 h3 t ih =>
    intro us Q hl q
    match us, hl with
    | u :: us, hl =>
      refine wpAny_matchEach_cons (wpAny_matchPattern_Capture ?_)
      exact ih us _ (by simpa using hl) q
theorem PCap.bind {M : Model} {A : Around} {E : Value → Shared → Prop} {pins : List (Addr × Obj)} {H : Hp} (hN : X.N.Nodup) {ps : List Pattern} {ns : List Str} {is : List Nat} (h : PCap X ps ns is) :
    ∀ (xs : List V) (us : List Value) (σ : L2.St) (s : Shared) (Q : Unit → Shared → Prop), Inv X pins σ H s → Vals xs us → us.length = ns.length → (∀ s', Inv X pins (setN σ is xs) H s' → Q () s') →
      wpAny M A (assignInOrder ((ns.zip us).map fun (n, _) => bindName X.env n) ((ns.zip us).map (·.2))) Q E s := by
  induction h with
  | nil =>
    intro xs us σ s Q I r hl q
    cases r with
    | nil => exact wpAny_assignInOrder_none (q s I)
    | cons _ _ => simp at hl
  | cons h1 h2 h3 t ih =>
    intro xs us σ s Q I r hl q
    cases r with
    | nil => simp at hl
    | cons r rr =>
      refine wpAny_assignInOrder_more (wpAny_bindName (store_ok I hN h1 h2 r (fun s' I' => ?_) h3))
      exact ih _ _ _ s' Q I' rr (by simpa using hl) q
/-- what cases do with a value -/
structure PMc (X : Cx) (cs : List MatchCase) (t : V → TS) : Prop where
  run : ∀ (pins : List (Addr × Obj)) (s : Shared) (σ : L2.St) (H : Hp) (D : Ends) (v : V) (u : Value) (first : Bool), Inv X pins σ H s → RelV v u → t v D σ H →
    wpAny (model X.prog X.w) X.A (matchCases cs X.env u first) (SP X pins D) X.xe s
theorem pmc_nil : PMc X [] (fun _ D σ H => D.nx σ H) :=
  ⟨fun _ _ σ H _ _ _ _ I _ h => wpAny_matchCases_nil ⟨σ, H, I, h⟩⟩
def tMatch (te : TE) (t : V → TS) : TS := fun D σ H => te σ H fun v H1 => t v D σ H1
theorem ps_match {e : Expr} {cs : List MatchCase} {pos : Pos} {te : TE} {t : V → TS} (he : PE X e te) (hm : PMc X cs t) : PS X (.Match e cs pos) (tMatch te t) :=
  ⟨fun pins s σ H D I h => wpAny_Match (thn (he.run pins s σ H _ I h) fun u s1 ⟨v, H1, I1, r, q⟩ => hm.run pins s1 σ H1 D v u true I1 r q)⟩
/-- case [word, a, b, ..] over a tuple that begins with a text -/
def tWord (K : PySem.W.Frag) (word : Str) (n : Nat) (is : List Nat) (u : TS) (t : V → TS) : V → TS := fun v D σ H => ∃ (a : Addr) (z : Str) (xs : List V), v = .ref a ∧ SqT K H a (.str z :: xs) ∧
  (if decide (xs.length = n) = true then (if decide (z = word) = true then u D (setN σ is xs) H else t v D σ H) else t v D σ H)
theorem pmc_word {word : Str} {k : Nat} {p1 p2 pos : Pos} {ps : List Pattern} {ns : List Str} {is : List Nat} {body : List Stmt} {rest : List MatchCase} {u : TS} {t : V → TS} (hc : X.calm = true) (hN : X.N.Nodup) (hp : PCap X ps ns is) (hb : PSs X body u) (hr : PMc X rest t)
    (hstar : (Pattern.MatchValue (.Constant (.str word) k p1) p2 :: ps).findIdx? (·.isStar) = none := by rfl) :
    PMc X (⟨.MatchSequence (.MatchValue (.Constant (.str word) k p1) p2 :: ps) pos, none, body⟩ :: rest) (tWord X.K word ps.length is u t) := by
  refine ⟨fun pins s σ H D v uv first I r h => ?_⟩
  obtain ⟨a, z, xs, rfl, hq, h⟩ := h
  obtain rfl : uv = .ref a := r
  obtain ⟨its, rv, ht, hz⟩ := I.tuple hq
  have il : its.length = xs.length + 1 := by rw [← rv.length]; rfl
  have isz : its.toArray.size = xs.length + 1 := by rw [List.size_toArray, il]
  refine wpAny_matchCases_cons (wpAny_matchPattern_Sequence (wpAny_collectionFlag (T := "tuple") (b := true) ht.typeIs flag_seq_tuple ?_) hstar rfl)
  rw [if_pos rfl]
  refine pyLen_tuple ht (by rw [isz]; have := hz; rw [List.length_cons] at this; unfold sizeLine at this; omega) ?_
  have J : Inv X pins σ H { s with toks := s.toks + 1 + 1 } := I.kept (t' := s.toks + 1 + 1) fun _ _ e => e
  by_cases hl : xs.length = ps.length
  · rw [if_neg (by rw [isz, List.length_cons, hl]; simp)]
    rw [if_pos (decide_eq_true hl)] at h
    have e1 : (Pattern.MatchValue (.Constant (.str word) k p1) p2 :: ps).length = its.toArray.size := by rw [isz, List.length_cons, hl]
    rw [e1]
    refine wpAny_unpackItems_tuple (s := { s with toks := s.toks + 1 + 1 }) (J.ok.hd hc) ht fun h' hx => ?_
    have I1 : Inv X pins σ H { heap := h', gens := s.gens, drawn := s.drawn, toks := s.toks + 1 + 1, os := s.os } := J.kept (t' := s.toks + 1 + 1) fun b o e => hx b o (Nat.ne_of_lt (Heap.lt_size e)) e
    cases rv with
    | @cons x0 u0 xs0 us0 r0 rr =>
      show wpAny _ _ (matchEach _ X.env (u0 :: us0)) _ _ _
      refine wpAny_matchEach_cons (wpAny_matchPattern_Value ?_)
      refine thn ((pe_str (X := X)).run pins _ σ H (fun y H2 => y = V.str word ∧ H2 = H) I1 ⟨rfl, rfl⟩) ?_
      rintro c s2 ⟨y, H2, I2, ry, ey, eH⟩
      subst ey eH
      refine thn (op_eq (X := X) pins s2 σ H2 (.str z) (.str word) u0 c (fun y H3 => y = V.bl (decide (z = word)) ∧ H3 = H2) I2 r0 ry ⟨rfl, ?_, rfl⟩) ?_
      · by_cases e : z = word
        · rw [decide_eq_true e, decide_eq_true (congrArg V.str e)]
        · rw [decide_eq_false e, decide_eq_false (fun q => e (V.str.inj q))]
      rintro c3 s3 ⟨y, H3, I3, ry3, ey, eH⟩
      subst ey eH
      obtain rfl : c3 = .bool (decide (z = word)) := ry3
      refine wpAny_pure ?_
      by_cases e : z = word
      · rw [if_pos (decide_eq_true e)] at h
        rw [if_pos (decide_eq_true e)]
        have lu : us0.length = ps.length := by
          have := rr.length
          omega
        refine hp.each us0 _ lu ?_
        refine hp.bind hN xs us0 σ s3 _ I3 rr (by rw [lu, hp.len]) fun s' I' => ?_
        exact hb.run pins s' _ _ D I' h
      · rw [if_neg (fun q => e (of_decide_eq_true q))] at h
        rw [if_neg (fun q => e (of_decide_eq_true q))]
        exact hr.run pins _ σ _ D (.ref a) (.ref a) false I3 rfl h
  · rw [if_pos (by rw [isz, List.length_cons]; simp; omega)]
    rw [if_neg (fun e => hl (of_decide_eq_true e))] at h
    exact hr.run pins _ σ H D (.ref a) (.ref a) false J rfl h
end
end L2
/-! defs with parameters by keyword only, which may lack -/
namespace G3
open PySem PySem.Spec PyProof.Rows L2 GL
structure DefNG (P : Program) (w : World) (K : PySem.W.Frag) (mg : Str → Option Value) (base : Heap) (k : Nat) (x : Str) (ps : List Str) (dvs : List V) (n : Nat) (ks : List Str) (gV : List V → List V → List V) (sp : Sp) : Prop where
  ex : ∃ (f : Addr) (fd : FuncData) (g : List Value → List Value → List Value) (ds : List Value), FnG P w K mg base CX0 k f fd ps sp ∧ mg x = some (.ref f) ∧ PySem.W.keepIn K (.ref f) = true ∧ Vals dvs ds ∧ Binds K fd ps ds ∧ KBn K fd ps n ks g gV
section
variable {X : Cx} {k n : Nat} {ps ks : List Str} {dvs : List V} {sp : Sp} {x : Str} {p pos : Pos} {e : Expr} {es : List Expr} {t tk : TA} {kws : List Keyword} {gV : List V → List V → List V}
/-- f(a, ..): what lacks has its default -/
theorem pe_defND (D : DefNG X.prog X.w X.K X.mg X.base k x ps dvs n ks gV sp) (hr : Room k X.A) (hc : Calm X.A) (hg : Gl X x) (ha : PA X (e :: es) t) (hdb : (x == ("__debug__" : Str)) = false := by decide)
    (he : starEach (e :: es) X.env = (false, eval e X.env) :: starEach es X.env := by rfl) (hpl : (backTo pos (starEach es X.env)).any (·.1) = false := by rfl) :
    PE X (.Call (.Name x p) (e :: es) [] pos) (tCall sp dvs E0 t) := by
  obtain ⟨f, fd, g, ds, F, hm, hk, hd, hb, hkb⟩ := D.ex
  constructor
  intro pins s σ H Q I h
  refine wpAny_Call_Name_kw (ld_glob I hg hm (PySem.W.callWith_K (h₀ := X.base) I.ok.mod.kin hk (thn (ha.run pos pins s σ H _ I h) ?_) he hpl) hdb)
  rintro us s1 ⟨vs, H1, I1, r, q⟩
  exact ⟨I1.kIn, runG F hr hc hb hd pass0 I1 r q⟩
/-- f(a, .., b=..) -/
theorem pe_defNK (D : DefNG X.prog X.w X.K X.mg X.base k x ps dvs n ks gV sp) (hr : Room k X.A) (hc : Calm X.A) (hg : Gl X x) (ha : PA X (e :: es) t) (hkw : PK X kws tk)
    (hall : (backToKw pos (keywordEach kws X.env)).all (·.1.isSome) = true := by rfl) (hks : (backToKw pos (keywordEach kws X.env)).filterMap (·.1) = ks := by rfl) (hdb : (x == ("__debug__" : Str)) = false := by decide)
    (he : starEach (e :: es) X.env = (false, eval e X.env) :: starEach es X.env := by rfl)
    (hpl : ((backTo pos (starEach (e :: es) X.env)).any (·.1) || (backToKw pos (keywordEach kws X.env)).any (·.1.isNone)) = false := by rfl) :
    PE X (.Call (.Name x p) (e :: es) kws pos) (tCallKG sp n ks.length gV E0 t tk) := by
  obtain ⟨f, fd, g, ds, F, hm, hk, hd, hb, hkb⟩ := D.ex
  constructor
  intro pins s σ H Q I h
  refine wpAny_Call_Name_kw (ld_glob I hg hm ?_ hdb)
  refine PySem.W.callWith_KW (h₀ := X.base) I.ok.mod.kin hk hall (thn (ha.run pos pins s σ H _ I h) ?_) hpl he
  rintro us s1 ⟨vs, H1, I1, r, q⟩
  refine thn (hkw.run pos pins s1 σ H1 _ I1 q) ?_
  rintro ws s2 ⟨zs, H2, I2, rz, l1, l2, q2⟩
  refine ⟨I2.kIn, ?_⟩
  rw [hks]
  exact runKG F hr hc hkb pass0 I2 r rz l1 l2 q2
end
end G3
namespace NK29
open PySem PySem.Spec PyProof.Rows L2 GL G3
def topS (i : Nat) : Stmt := PySem.Challenge.pw_whateverboxes_k29_right_forms_by_any_han.main.body.getD i (.Pass ⟨0, 0, 0, 0⟩)
def ks : Keys := ⟨"cells", "blend", "draws", by decide +kernel, by decide +kernel, by decide +kernel⟩
/-! the built-ins that the text uses are still the built-ins -/
structure Bl (mg : Str → Option Value) : Prop where
  int : mg "int" = none
  len : mg "len" = none
  range : mg "range" = none
  list : mg "list" = none
  repr : mg "repr" = none
  max : mg "max" = none
  tuple : mg "tuple" = none
  sum : mg "sum" = none
  abs : mg "abs" = none
  sorted : mg "sorted" = none
  set : mg "set" = none
  zip : mg "zip" = none
  enumerate : mg "enumerate" = none
  isinstance : mg "isinstance" = none
  any : mg "any" = none
  all : mg "all" = none
  bool : mg "bool" = none
section
variable {P : Program} {w : World} {K : PySem.W.Frag} {mg : Str → Option Value} {base : Heap}
abbrev s_draw : Stmt := topS 71
theorem sc_draw : FnScope ["_law_deck_here", "_law_many", "_law_turn", "_law_cell", "_law_held"] ["_law_deck_here", "_law_many"] (defScope s_draw) := ⟨rfl, rfl, rfl, by decide +kernel, rfl, by decide +kernel, by decide +kernel⟩
theorem ok_draw {f : Addr} {fd : FuncData} (F : Fun K "_law_draw" "_law_draw" s_draw f fd) (gl : mg "_law_draw" = some (.ref f)) (T : Bl mg) : DefG P w K mg base 1 "_law_draw" ["_law_deck_here", "_law_many"] (spDrw ks) := by
  refine def_mk F gl (F.binds fun _ _ _ _ _ _ us hl => match us, hl with | [_, _], _ => rfl) (okG F sc_draw (fun vs H Q E h => ?_) fun cdv A outer s H vs Q E hr hc h => ?_)
  · obtain ⟨d, g, n, b, rfl, _⟩ := h
    rfl
  · obtain ⟨d, g, many, b, rfl, D, n0, nB, q⟩ := h
    have nd := sc_draw.nd
    have hu := hu_of hr
    have hu64 := hr.units
    obtain ⟨m, n, L, hd, hg, hL, m0, mB, tn0, tnB⟩ := id D.ex
    have dg := D.ne
    refine ⟨_, (pss_cons (ps_dput hu (pv 0) pe_str (pe_op op_add (pe_dget hu (pv 0) pe_str (fun _ _ => rfl)) pe_int) rfl)
      (pss_cons (ps_par (i := 2) (j := 3) rfl nd rfl rfl (by decide) rfl rfl (pa_cons (pe_dget hu (pv 0) pe_str (fun _ _ => rfl)) (pa_cons (pe_dget hu (pv 0) pe_str (fun _ _ => rfl)) pa_nil)) rfl)
      (C8.pss_cut (ps_if (pt_cmpR (op_neD hu64) (pe_dget hu (pv 0) pe_str (fun _ _ => rfl)) (pe_lst pa_nil) (nomark _))
        (pss_cons (ps_set (i := 3) nd rfl (by first | exact Or.inl rfl | exact Or.inr rfl) (pe_bm0 PySem.F.plainAttrs_list PySem.F.slot_list_pop PySem.F.type_list_pop mt_pop (pe_dget hu (pv 0) pe_str (fun _ _ => rfl))))
        (pss_cons (ps_if (pt_cmpR op_ge (pv 3) (pe_op op_pow pe_int pe_int) (nomark _))
          (pss_cons (ps_expr (pe_bm PySem.F.plainAttrs_list PySem.F.slot_list_append PySem.F.type_list_append mt_append (pe_dget hu (pv 0) pe_str (fun _ _ => rfl)) (pa_cons (pe_op op_fdivW (pv 3) (pv 1)) pa_nil)))
          (pss_one (ps_ret (pe_op op_mod (pe_callTy call_int1 rfl T.int boot_int (pa_cons (pv 3) pa_nil)) (pv 1)))))
          pss_nil)
        (pss_one (ps_set (i := 3) nd rfl (by first | exact Or.inl rfl | exact Or.inr rfl) (pe_op op_add (pv 3) (pe_dget hu (pv 0) pe_str (fun _ _ => rfl)))))))
        pss_nil)
      (pss_cons (ps_set (i := 4) nd rfl (by first | exact Or.inl rfl | exact Or.inr rfl) (pe_op op_mod (pe_callTy call_int1 rfl T.int boot_int (pa_cons (pe_op op_mul (pe_op op_add (pe_op op_add (pe_op op_mod (pe_callTy call_int1 rfl T.int boot_int (pa_cons (pv 3) pa_nil)) pe_int) (pe_op op_mul (pe_op op_mul pe_int (pv 2)) (pv 2))) pe_int) pe_int) pa_nil)) pe_int))
      (pss_cons (ps_set (i := 4) nd rfl (by first | exact Or.inl rfl | exact Or.inr rfl) (pe_op op_mod (pe_callTy call_int1 rfl T.int boot_int (pa_cons (pe_op op_add (pe_op op_add (pe_op op_mul (pv 4) (pv 4)) (pe_op op_mul pe_int (pv 2))) pe_int) pa_nil)) pe_int))
      (pss_one (ps_ret (pe_op op_mod (pe_callTy call_int1 rfl T.int boot_int (pa_cons (pe_op op_fdivW (pe_op op_mod (pe_callTy call_int1 rfl T.int boot_int (pa_cons (pe_op op_mul (pv 4) pe_int) pa_nil)) pe_int) pe_int) pa_nil)) (pv 1))))))))), ?_⟩
    refine ⟨_, rfl, d, _, rfl, get_n hd, n, 1, rfl, rfl, _, rfl, d, _, rfl, put_n hd, ?_⟩
    have xd : upd H d (.dK (deckD ks g m (n + 1))) d = _ := upd_same
    have xg : upd H d (.dK (deckD ks g m (n + 1))) g = some (.lst (L.map V.int)) := by rw [upd_ne dg.symm]; exact hg
    have mv0 : Mv d g H (upd H d (.dK (deckD ks g m (n + 1)))) := ⟨fun p o hp n1 _ => by rw [upd_ne n1]; exact hp⟩
    generalize upd H d (.dK (deckD ks g m (n + 1))) = Hz at *
    refine ⟨_, rfl, d, _, rfl, get_n xd, _, rfl, d, _, rfl, get_b xd, _, _, rfl, ?_⟩
    refine ⟨fun σ Hx => ∃ (c t m' n' : Int) (L' : List Int), σ = [some (.ref d), some (.int many), some (.int t), some (.int c), none] ∧ 0 ≤ t ∧ t ≤ 1000000000001 ∧ Hx d = some (.dK (deckD ks g m' n')) ∧ Hx g = some (.lst (L'.map V.int)) ∧ L'.length ≤ 63 ∧ 0 ≤ m' ∧ m' < 2147483587 ∧ 0 ≤ n' ∧ n' + b ≤ 1000000000000 ∧ Mv d g H Hx, ?_, ?_⟩
    · refine ⟨_, rfl, d, _, rfl, get_c xd, Nat.zero_le _, fun o no => ?_⟩
      have sm : Same Hz (upd Hz o (.lst [])) := Same.new no
      have mv1 : Mv d g H (upd Hz o (.lst [])) := mv0.trans (Mv.of sm)
      refine ⟨_, _, .lst (tofL (sm _ _ xg)) (dpa_ints L), .lst (tofL upd_same) .nil, shaped_ints L, shaped_ints [], _, rfl, ?_⟩
      rw [eqv_ints_nil]
      have yd := sm _ _ xd
      have yg := sm _ _ xg
      generalize upd Hz o (.lst []) = Hy at *
      refine ite2 (fun e => ?_) (fun e => ?_)
      · have hne : L ≠ [] := fun z => by rw [z] at e; exact absurd e (by decide)
        obtain ⟨L0, c, rfl⟩ := snoc_of hne
        rw [List.length_append, List.length_singleton] at hL
        refine ⟨_, rfl, d, _, rfl, get_c yd, ty_l (tofL yg), g, _, _, rfl, rfl, yg, pop_at L0 c, ?_⟩
        rw [pop_left]
        have zd : upd Hy g (.lst (L0.map V.int)) d = some (.dK (deckD ks g m (n + 1))) := by rw [upd_ne dg]; exact yd
        have mv2 : ∀ u : HO, Mv d g H (upd Hy g u) := fun u => ⟨fun p o hp n1 n2 => by rw [upd_ne n2]; exact mv1.keep p o hp n1 n2⟩
        refine ⟨_, rfl, 10, 18, rfl, rfl, ⟨by decide, by decide, by decide⟩, _, _, rfl, rfl, _, rfl, ?_⟩
        refine ite2 (fun _ => ?_) (fun _ => ?_)
        · refine ⟨_, rfl, d, _, rfl, get_c zd, ty_l (tofL upd_same), _, rfl, _, rfl, c, many, rfl, rfl, wide_div (b := 8000) n0 nB (by decide) (by decide), g, _, _, rfl, rfl, upd_same, ?_, ?_⟩
          · rw [List.length_map]; exact smallt (by omega)
          · rw [upd_upd]
            refine ⟨_, rfl, .inl ⟨c, rfl, _, rfl, c, many, rfl, rfl, n0, ?_⟩⟩
            refine q _ _ (Int.emod_nonneg _ (by omega)) (Int.emod_lt_of_pos _ n0) ⟨m, n + 1, L0 ++ [c / many], by rw [upd_ne dg]; exact yd, ?_, ?_, m0, mB, by omega, by omega⟩ (mv2 _)
            · rw [upd_same, List.map_append, List.map_singleton]
            · rw [List.length_append, List.length_singleton]; exact hL
        · exact ⟨_, rfl, _, rfl, d, _, rfl, get_b zd, c, m, rfl, rfl, _, _, _, _, _, rfl, by omega, by omega, zd, upd_same, by omega, m0, mB, by omega, by omega, mv2 _⟩
      · exact ⟨_, _, _, _, _, rfl, by omega, by omega, yd, yg, hL, m0, mB, by omega, by omega, mv1⟩
    · rintro σ Hx ⟨c, t, m', n', L', rfl, t0, tB, xd, xg, xL, xm0, xmB, xn0, xnB, mv⟩
      have a0 := Int.emod_nonneg c (show ((2147483629 : Int)) ≠ 0 by decide)
      have a1 := Int.emod_lt_of_pos c (show (0 : Int) < 2147483629 by decide)
      have p1 : CMul (60497 : Int) t := mul_small (by decide) (by decide)
      have p2 : CMul (60497 * t) t := mul_smallR t0 (by omega)
      have p3 : CMul (c % 2147483629 + 60497 * t * t + 67) 40692 := mul_smallR (by decide) (by decide)
      refine ⟨_, rfl, .inl ⟨c, rfl, c, 2147483629, rfl, rfl, (show (0 : Int) < 2147483629 by decide), _, rfl, 60497, t, rfl, rfl, p1, _, rfl, _, t, rfl, rfl, p2, _, _, rfl, rfl, _, 67, rfl, rfl, _, 40692, rfl, rfl, p3, .inl ⟨_, rfl, _, 2147483647, rfl, rfl, (show (0 : Int) < 2147483647 by decide), ?_⟩⟩⟩
      have h0 := Int.emod_nonneg ((c % 2147483629 + 60497 * t * t + 67) * 40692) (show ((2147483647 : Int)) ≠ 0 by decide)
      have h1 := Int.emod_lt_of_pos ((c % 2147483629 + 60497 * t * t + 67) * 40692) (show (0 : Int) < 2147483647 by decide)
      have i0 := fun h : Int => Int.emod_nonneg (h * h + 69621 * t + 127) (show ((2147483587 : Int)) ≠ 0 by decide)
      have i1 := fun h : Int => Int.emod_lt_of_pos (h * h + 69621 * t + 127) (show (0 : Int) < 2147483587 by decide)
      refine ⟨_, rfl, _, rfl, _, _, rfl, rfl, mul_small h0 (Int.lt_trans h1 (by decide)), _, rfl, 69621, t, rfl, rfl, mul_small (by decide) (by decide), _, _, rfl, rfl, _, 127, rfl, rfl, .inl ⟨_, rfl, _, 2147483587, rfl, rfl, (show (0 : Int) < 2147483587 by decide), ?_⟩⟩
      refine ⟨_, rfl, _, 39373, rfl, rfl, mul_small (i0 _) (Int.lt_trans (i1 _) (by decide)), .inl ⟨_, rfl, _, 2147483563, rfl, rfl, (show (0 : Int) < 2147483563 by decide), _, 64, rfl, rfl, wide_div (b := 8) (by decide) (by decide) (by decide) (by decide), .inl ⟨_, rfl, _, rfl, _, many, rfl, rfl, n0, ?_⟩⟩⟩
      exact q _ _ (Int.emod_nonneg _ (by omega)) (Int.emod_lt_of_pos _ n0) ⟨m', n', L', xd, xg, xL, xm0, xmB, xn0, by omega⟩ mv

abbrev s_deck : Stmt := topS 70
theorem sc_deck : FnScope ["_law_script", "_law_cells", "_law_blend", "_law_cell"] ["_law_script"] (defScope s_deck) := ⟨rfl, rfl, rfl, by decide +kernel, rfl, by decide +kernel, by decide +kernel⟩
theorem ok_deck {f : Addr} {fd : FuncData} (F : Fun K "_law_deck" "_law_deck" s_deck f fd) (gl : mg "_law_deck" = some (.ref f)) (T : Bl mg) : DefG P w K mg base 1 "_law_deck" ["_law_script"] (spDck K ks) := by
  refine def_mk F gl (F.binds fun _ _ _ _ _ _ us hl => match us, hl with | [_], _ => rfl) (okG F sc_deck (fun vs H Q E h => ?_) fun cdv A outer s H vs Q E hr hc h => ?_)
  · obtain ⟨a, ns, rfl, _⟩ := h
    rfl
  · obtain ⟨a, ns, rfl, hS, hl, q⟩ := h
    have nd := sc_deck.nd
    refine ⟨_, (pss_cons (ps_par (i := 1) (j := 2) rfl nd rfl rfl (by decide) rfl rfl (pa_cons (pe_callTy call_list_of (by rfl) T.list boot_list (pa_cons (pe_slice sl_list (pv 0) po_none (po_some pe_int)) pa_nil)) (pa_cons pe_int pa_nil)) rfl)
      (pss_cons (ps_for PassesOwn.never rfl (pi_list (pv 1)) (pg_name (i := 3) nd rfl (by first | exact Or.inl rfl | exact Or.inr rfl))
        (pss_one (ps_set (i := 2) nd rfl (by first | exact Or.inl rfl | exact Or.inr rfl) (pe_op op_mod (pe_callTy call_int1 (by rfl) T.int boot_int (pa_cons (pe_op op_add (pe_op op_add (pe_op op_mul (pv 2) pe_int) (pe_op op_mod (pe_callTy call_int1 (by rfl) T.int boot_int (pa_cons (pv 3) pa_nil)) pe_int)) pe_int) pa_nil)) pe_int))))
      (pss_one (ps_ret (pe_disp (pps_cons pe_str (pe_revL (pv 1)) (pps_cons pe_str (pv 2) (pps_cons pe_str pe_int pps_nil))) rfl rfl (by decide) (by decide)))))), ?_⟩
    refine ⟨_, rfl, 63, rfl, a, _, rfl, hS, fun c nc => ?_⟩
    obtain ⟨ms, em, lm⟩ := cut_ints ns none (some 63)
    rw [em]
    have s1 : Same H (upd H c (.lst (ms.map V.int))) := Same.new nc
    refine ⟨c, _, rfl, .inl (tofL upd_same), fun l nl => ?_⟩
    have s2 : Same H (upd (upd H c (.lst (ms.map V.int))) l (.lst (ms.map V.int))) := s1.trans (Same.new nl)
    have xl : upd (upd H c (.lst (ms.map V.int))) l (.lst (ms.map V.int)) l = _ := upd_same
    have fl : H l = none := s1.free nl
    revert s2 xl
    generalize upd (upd H c (.lst (ms.map V.int))) l (.lst (ms.map V.int)) = Hy
    intro s2 xl
    refine ⟨_, _, rfl, _, rfl, l, rfl, ⟨_, tofL xl⟩, for_list (K := K) (a := l) (xs := ms.map V.int) (fun i σ H2 => ∃ (m : Int) (v : Option V), σ = [some (.ref a), some (.ref l), some (.int m), v] ∧ H2 = Hy ∧ 0 ≤ m ∧ m < 2147483587)
      ⟨_, none, rfl, rfl, by decide, by decide⟩ (fun i σ H2 _ ⟨_, _, _, e, _⟩ => by rw [e]; exact tofL xl) ?_ ?_⟩
    · rintro i y σ H2 hi ⟨m, v, rfl, rfl, m0, m1⟩
      obtain ⟨x, rfl, _⟩ := ints_at hi
      refine ⟨_, rfl, m, 48271, rfl, rfl, mul_small m0 (by omega), _, rfl, .inl ⟨x, rfl, x, 2147483629, rfl, rfl, (show (0 : Int) < 2147483629 by decide), _, _, rfl, rfl, _, _, rfl, rfl, .inl ⟨_, rfl, _, 2147483587, rfl, rfl, (show (0 : Int) < 2147483587 by decide), _, _, rfl, rfl, Int.emod_nonneg _ (by decide), Int.emod_lt_of_pos _ (by decide)⟩⟩⟩
    · rintro σ H2 ⟨m, v, rfl, rfl, m0, m1⟩
      intro p np
      have s3 : Same H (upd H2 p (.dK [])) := s2.trans (Same.new np)
      have npl : l ≠ p := ne_of_none xl np
      refine ⟨_, rfl, l, _, rfl, tofL (by rw [upd_ne npl]; exact xl), fun g ng => ⟨_, rfl, ?_, deckD ks g m 0, rfl, (show 3 ≤ 15 by decide), ?_⟩⟩
      · rw [upd_ne (ne_of_none upd_same ng)]; exact upd_same
      · rw [deck_merge]
        have npg : p ≠ g := ne_of_none upd_same ng
        refine q p g _ (fun b u hb => ?_) (s2.free np) (s3.free ng) ⟨m, 0, ms.reverse, upd_same, ?_, ?_, m0, m1, by decide, by decide⟩
        · rw [upd_ne (ne_of_none hb (s2.free np)), upd_ne (ne_of_none hb (s3.free ng))]
          exact s3 _ _ hb
        · rw [upd_ne npg.symm, upd_same, List.map_reverse]
        · rw [List.length_reverse]
          omega

abbrev s_pick : Stmt := topS 72
theorem sc_pick : FnScope ["_law_deck_here", "_law_some"] ["_law_deck_here", "_law_some"] (defScope s_pick) := ⟨rfl, rfl, rfl, by decide +kernel, rfl, by decide +kernel, by decide +kernel⟩
theorem ok_pick {f : Addr} {fd : FuncData} (F : Fun K "_law_pick" "_law_pick" s_pick f fd) (gl : mg "_law_pick" = some (.ref f)) (T : Bl mg) (D_draw : DefG P w K mg base 1 "_law_draw" ["_law_deck_here", "_law_many"] (spDrw ks)) :
    DefG P w K mg base 2 "_law_pick" ["_law_deck_here", "_law_some"] (spPck ks) := by
  refine def_mk F gl (F.binds fun _ _ _ _ _ _ us hl => match us, hl with | [_, _], _ => rfl) (okG F sc_pick (fun vs H Q E h => ?_) fun cdv A outer s H vs Q E hr hc h => ?_)
  · obtain ⟨d, g, a, xs, b, rfl, _⟩ := h
    rfl
  · obtain ⟨d, g, a, xs, b, rfl, D, ha, nag, hne, hl, q⟩ := h
    have nd := sc_pick.nd
    refine ⟨_, (pss_one (ps_ret (pe_ix ix_list (pv 1) (pe_def D_draw (hr.mono (by decide)) hc (by rfl) (pa_cons (pv 0) (pa_cons (pe_callB call_len_seq (by rfl) T.len boot_len (pa_cons (pv 1) pa_nil)) pa_nil))) (fun _ _ => rfl)))), ?_⟩
    have nad : a ≠ d ∧ a ≠ g := ⟨by obtain ⟨m, n, L, h1, _⟩ := D.ex; exact (ne_of h1 ha (fun z => nomatch z)).symm, nag⟩
    have h0 : 0 < xs.length := List.length_pos_iff.mpr hne
    refine ⟨_, rfl, _, rfl, _, rfl, a, xs, rfl, .inl (tofL ha), d, g, _, b, rfl, D, by omega, by omega, fun r H' r0 r1 D' M => ?_⟩
    obtain ⟨x, hx, e⟩ := at_in (xs := xs) r0 r1
    exact ⟨a, xs, r, x, rfl, rfl, tofL (M.at ha nad), e, q x H' hx D' M⟩
end
end NK29
namespace NK29
/-! ### sums of products -/
def prods (ns ms : List Int) : List Int := List.zipWith (fun a b => a * b) ns ms
def dotI (ns ms : List Int) : Int := (prods ns ms).sum
theorem dot_nil (ms : List Int) : dotI [] ms = 0 := by unfold dotI prods; simp
theorem dot_cons (a b : Int) (ns ms : List Int) : dotI (a :: ns) (b :: ms) = a * b + dotI ns ms := by unfold dotI prods; simp
theorem prods_at {ns ms : List Int} {i : Nat} {a b : Int} (h1 : ns[i]? = some a) (h2 : ms[i]? = some b) : (prods ns ms)[i]? = some (a * b) := by
  unfold prods
  rw [List.getElem?_zipWith, h1, h2]
theorem prods_len (ns ms : List Int) : (prods ns ms).length = min ns.length ms.length := by
  unfold prods
  rw [List.length_zipWith]
theorem dot_comm : ∀ ns ms : List Int, dotI ns ms = dotI ms ns
  | [], ms => by rw [dot_nil]; cases ms with
    | nil => rfl
    | cons b r => unfold dotI prods; simp
  | a :: r, [] => by unfold dotI prods; simp
  | a :: r, b :: q => by rw [dot_cons, dot_cons, dot_comm r q, Int.mul_comm]
/-- xs + b ys -/
def addM (b : Int) (xs ys : List Int) : List Int := List.zipWith (fun x y => x + b * y) xs ys
theorem addM_len {b : Int} {xs ys : List Int} (h : ys.length = xs.length) : (addM b xs ys).length = xs.length := by
  unfold addM; rw [List.length_zipWith, h, Nat.min_self]
theorem addM_at {b : Int} {xs ys : List Int} {i : Nat} {x y : Int} (h1 : xs[i]? = some x) (h2 : ys[i]? = some y) : (addM b xs ys)[i]? = some (x + b * y) := by
  unfold addM; rw [List.getElem?_zipWith, h1, h2]
theorem dot_addM (b : Int) : ∀ fs xs ys : List Int, ys.length = xs.length → dotI fs (addM b xs ys) = dotI fs xs + b * dotI fs ys
  | [], xs, ys, _ => by rw [dot_nil, dot_nil, dot_nil]; omega
  | f :: r, [], [], _ => by unfold addM dotI prods; simp
  | f :: r, [], y :: q, h => by simp at h
  | f :: r, x :: p, [], h => by simp at h
  | f :: r, x :: p, y :: q, h => by
    have ih := dot_addM b r p q (by simpa using h)
    show dotI (f :: r) ((x + b * y) :: addM b p q) = _
    rw [dot_cons, dot_cons, dot_cons, ih, Int.mul_add, Int.mul_add, Int.mul_left_comm b f y]
    omega
theorem dot_mul (b : Int) : ∀ fs xs : List Int, dotI fs (xs.map fun x => b * x) = b * dotI fs xs
  | [], xs => by rw [dot_nil, dot_nil, Int.mul_zero]
  | f :: r, [] => by unfold dotI prods; simp
  | f :: r, x :: p => by
    rw [List.map_cons, dot_cons, dot_cons, dot_mul b r p, Int.mul_add, Int.mul_left_comm b f x]
theorem mulR (b : Int) (xs : List Int) : (xs.map fun x => x * b) = xs.map fun x => b * x := by
  congr 1; funext x; exact Int.mul_comm x b
theorem dot_zero : ∀ (fs : List Int) (n : Nat), dotI fs (List.replicate n 0) = 0
  | [], n => dot_nil _
  | f :: r, 0 => by unfold dotI prods; simp
  | f :: r, n + 1 => by rw [List.replicate_succ, dot_cons, dot_zero r n]; omega
theorem dot_set : ∀ (us xs : List Int) (a : Nat) (u x v : Int), us[a]? = some u → xs[a]? = some x → dotI us (xs.set a v) = dotI us xs + u * (v - x)
  | [], _, _, _, _, _, h, _ => by simp at h
  | _ :: _, [], _, _, _, _, _, h => by simp at h
  | p :: us, q :: xs, 0, u, x, v, h1, h2 => by
    simp at h1 h2
    subst h1 h2
    rw [List.set_cons_zero, dot_cons, dot_cons, Int.mul_sub]
    omega
  | p :: us, q :: xs, a + 1, u, x, v, h1, h2 => by
    rw [List.set_cons_succ, dot_cons, dot_cons, dot_set us xs a u x v (by simpa using h1) (by simpa using h2)]
    omega
theorem sum_app (xs ys : List Int) : (xs ++ ys).sum = xs.sum + ys.sum := by
  induction xs with
  | nil => simp
  | cons a r ih => rw [List.cons_append, List.sum_cons, List.sum_cons, ih]; omega
theorem sum_take1 {l : List Int} {i : Nat} {x : Int} (h : l[i]? = some x) : (l.take (i + 1)).sum = (l.take i).sum + x := by
  rw [List.take_add_one, h, Option.toList_some, sum_app]
  simp
/-! ### classes of names -/
def ind (j : Nat) (wh : List Nat) : List Int := wh.map fun w => if w = j then 1 else 0
theorem ind_at {wh : List Nat} {j k w : Nat} (h : wh[k]? = some w) : (ind j wh)[k]? = some (if w = j then 1 else 0) := by
  unfold ind; rw [List.getElem?_map, h]; rfl
theorem ind_len (j : Nat) (wh : List Nat) : (ind j wh).length = wh.length := by unfold ind; rw [List.length_map]
def ownTo (j : Nat) (wh : List Nat) (m : Nat) : List Nat := (List.range m).filter fun k => decide (wh[k]? = some j)
theorem ownTo_succ (j : Nat) (wh : List Nat) (m : Nat) : ownTo j wh (m + 1) = ownTo j wh m ++ (if wh[m]? = some j then [m] else []) := by
  unfold ownTo
  rw [List.range_succ, List.filter_append]
  congr 1
  by_cases h : wh[m]? = some j
  · simp [h]
  · simp [h]
theorem ownTo_mem {j : Nat} {wh : List Nat} {m k : Nat} : k ∈ ownTo j wh m ↔ k < m ∧ wh[k]? = some j := by
  unfold ownTo
  rw [List.mem_filter, List.mem_range, decide_eq_true_eq]
theorem own_sum {j : Nat} {wh : List Nat} {xs : List Int} (hl : xs.length = wh.length) : ∀ m, m ≤ wh.length → ((ownTo j wh m).map fun k => xs.getD k 0).sum = ((prods (ind j wh) xs).take m).sum
  | 0, _ => rfl
  | m + 1, h => by
    have ih := own_sum (j := j) hl m (by omega)
    have e1 : wh[m]? = some wh[m] := List.getElem?_eq_getElem (by omega)
    have e2 : xs[m]? = some xs[m] := List.getElem?_eq_getElem (by omega)
    rw [ownTo_succ, List.map_append, sum_app, ih, sum_take1 (prods_at (ind_at e1) e2)]
    by_cases hw : wh[m] = j
    · rw [e1, hw, if_pos rfl, if_pos rfl]
      simp [List.getD_eq_getElem?_getD, e2]
    · rw [e1, if_neg (fun z => hw (Option.some.inj z)), if_neg hw]
      simp
theorem own_all {j : Nat} {wh : List Nat} {xs : List Int} (hl : xs.length = wh.length) : ((ownTo j wh wh.length).map fun k => xs.getD k 0).sum = dotI (ind j wh) xs := by
  rw [own_sum hl _ (Nat.le_refl _), List.take_of_length_le (by rw [prods_len]; omega)]
  rfl
/-- the mix of a class stands on earlier classes alone -/
def Supp (wh : List Nat) (j : Nat) (mix : List Int) : Prop := mix.length = wh.length ∧ ∀ (k w : Nat), wh[k]? = some w → j ≤ w → mix[k]? = some 0
/-- the sum over each class is that of its mix -/
def Eqn (wh : List Nat) (mixes : List (List Int)) (i : Nat) (xs : List Int) : Prop := ∀ j mix, j < i → mixes[j]? = some mix → dotI (ind j wh) xs = dotI mix xs
theorem eqn_step {wh : List Nat} {mixes : List (List Int)} {i a : Nat} {xs mix : List Int} {x : Int} {own : List Nat} (hl : xs.length = wh.length) (hS : ∀ j m, mixes[j]? = some m → Supp wh j m)
    (he : Eqn wh mixes i xs) (hm : mixes[i]? = some mix) (ho : ownTo i wh wh.length = own ++ [a]) (hx : xs[a]? = some x) :
    Eqn wh mixes (i + 1) (xs.set a (dotI mix xs - (own.map fun k => xs.getD k 0).sum)) := by
  have ha : wh[a]? = some i := (ownTo_mem.mp (ho ▸ List.mem_append_right own List.mem_cons_self)).2
  intro j m hj hmj
  have s2 := (hS j m hmj).2 a i ha
  by_cases hji : j = i
  · subst hji
    rw [hm] at hmj
    cases hmj
    rw [dot_set _ _ _ _ _ _ (ind_at ha) hx, dot_set _ _ _ _ _ _ (s2 (Nat.le_refl _)) hx, if_pos rfl, Int.zero_mul]
    have h2 := own_all (j := j) hl
    rw [ho, List.map_append, sum_app] at h2
    have h3 : (([a] : List Nat).map fun k => xs.getD k 0).sum = x := by simp [List.getD_eq_getElem?_getD, hx]
    rw [h3] at h2
    omega
  · have hlt : j < i := by omega
    rw [dot_set _ _ _ _ _ _ (ind_at ha) hx, dot_set _ _ _ _ _ _ (s2 (by omega)) hx, if_neg (fun z => hji z.symm), Int.zero_mul]
    have := he j m hlt hmj
    omega
theorem eqn_zero (wh : List Nat) (mixes : List (List Int)) (i n : Nat) : Eqn wh mixes i (List.replicate n 0) := fun j m _ _ => by rw [dot_zero, dot_zero]
/-! ### forms -/
abbrev Rst := List Int × Int × Int
structure FOk (n : Nat) (lots : List (List Int)) (marks : List Rst) (F : Int) (wh : List Nat) (mvs : List (List Int)) : Prop where
  f1 : 1 ≤ F
  wl : wh.length = n
  ml : ∀ mv ∈ mvs, mv.length = n
  dl : ∀ mv ∈ mvs, ∀ fs ∈ lots, dotI fs mv = 0
  dm : ∀ mv ∈ mvs, ∀ r ∈ marks, dotI r.1 mv % r.2.2 = 0
  fr : ∀ (k w : Nat), wh[k]? = some w → ∃ mv, mvs[w]? = some mv ∧ mv[k]? = some F ∧ ∀ (j : Nat) (m' : List Int), j < w → mvs[j]? = some m' → m'[k]? = some 0
def Bd (B : Nat) (F : Int) (mvs : List (List Int)) : Prop := F.natAbs ≤ B ∧ ∀ mv ∈ mvs, ∀ x ∈ mv, x.natAbs ≤ B
def moveOf (b : Int) (wh : List Nat) (j : Nat) (mix : List Int) : List Int := List.zipWith (fun (w : Nat) (x : Int) => b * ((if w = j then 1 else 0) - x)) wh mix
theorem moveOf_len {b : Int} {wh : List Nat} {j : Nat} {mix : List Int} (h : mix.length = wh.length) : (moveOf b wh j mix).length = wh.length := by
  unfold moveOf; rw [List.length_zipWith, h, Nat.min_self]
theorem moveOf_at {b : Int} {wh : List Nat} {j k w : Nat} {mix : List Int} {x : Int} (h1 : wh[k]? = some w) (h2 : mix[k]? = some x) : (moveOf b wh j mix)[k]? = some (b * ((if w = j then 1 else 0) - x)) := by
  unfold moveOf; rw [List.getElem?_zipWith, h1, h2]
theorem dot_moveOf (b : Int) (j : Nat) : ∀ (fs : List Int) (wh : List Nat) (mix : List Int), mix.length = wh.length → dotI fs (moveOf b wh j mix) = b * (dotI (ind j wh) fs - dotI mix fs)
  | [], wh, mix, _ => by rw [dot_nil, dot_comm _ [], dot_comm mix [], dot_nil, dot_nil]; simp
  | f :: r, [], [], _ => by unfold moveOf ind dotI prods; simp
  | f :: r, [], y :: q, h => by simp at h
  | f :: r, x :: p, [], h => by simp at h
  | f :: r, w :: p, y :: q, h => by
    have ih := dot_moveOf b j r p q (by simpa using h)
    show dotI (f :: r) ((b * ((if w = j then 1 else 0) - y)) :: moveOf b p j q) = b * (dotI ((if w = j then 1 else 0) :: ind j p) (f :: r) - dotI (y :: q) (f :: r))
    rw [dot_cons, dot_cons, dot_cons, ih]
    generalize (if w = j then (1 : Int) else 0) = c
    generalize dotI (ind j p) r = A
    generalize dotI q r = B
    rw [Int.mul_left_comm f b, Int.mul_sub, Int.mul_sub, Int.mul_sub, Int.mul_sub, Int.mul_add, Int.mul_add, Int.mul_comm f c, Int.mul_comm f y]
    omega
def movesOf (b : Int) (wh : List Nat) (mixes : List (List Int)) (i : Nat) : List (List Int) := (List.range i).map fun j => moveOf b wh j (mixes.getD j [])
theorem movesOf_succ (b : Int) (wh : List Nat) (mixes : List (List Int)) (i : Nat) : movesOf b wh mixes (i + 1) = movesOf b wh mixes i ++ [moveOf b wh i (mixes.getD i [])] := by
  unfold movesOf; rw [List.range_succ, List.map_append]; rfl
theorem getD_of {α : Type} {l : List α} {i : Nat} {x d : α} (h : l[i]? = some x) : l.getD i d = x := by
  rw [List.getD_eq_getElem?_getD, h]; rfl
theorem movesOf_at {b : Int} {wh : List Nat} {mixes : List (List Int)} {i j : Nat} (h : j < i) : (movesOf b wh mixes i)[j]? = some (moveOf b wh j (mixes.getD j [])) := by
  unfold movesOf; rw [List.getElem?_map, List.getElem?_range h]; rfl
theorem own_fok {n : Nat} {lots : List (List Int)} {marks : List Rst} {b : Int} {wh : List Nat} {mixes : List (List Int)} (hb : 1 ≤ b) (hw : wh.length = n) (hS : ∀ j m, mixes[j]? = some m → Supp wh j m) (hk : ∀ (k w : Nat), wh[k]? = some w → w < mixes.length)
    (hl : ∀ fs ∈ lots, Eqn wh mixes mixes.length fs) (hm : ∀ r ∈ marks, r.2.2 ∣ b) : FOk n lots marks b wh (movesOf b wh mixes mixes.length) := by
  have each : ∀ mv ∈ movesOf b wh mixes mixes.length, ∃ j mix, mixes[j]? = some mix ∧ j < mixes.length ∧ mv = moveOf b wh j mix := by
    intro mv h
    unfold movesOf at h
    obtain ⟨j, hj, rfl⟩ := List.mem_map.mp h
    have hj' := List.mem_range.mp hj
    have e : mixes[j]? = some mixes[j] := List.getElem?_eq_getElem hj'
    exact ⟨j, _, e, hj', by rw [getD_of e]⟩
  refine ⟨hb, hw, fun mv h => ?_, fun mv h fs hf => ?_, fun mv h r hr => ?_, fun k w h => ?_⟩
  · obtain ⟨j, mix, e, _, rfl⟩ := each mv h
    rw [moveOf_len (hS j mix e).1, hw]
  · obtain ⟨j, mix, e, hj, rfl⟩ := each mv h
    rw [dot_moveOf b j fs wh mix (hS j mix e).1, hl fs hf j mix hj e, Int.sub_self, Int.mul_zero]
  · obtain ⟨j, mix, e, hj, rfl⟩ := each mv h
    rw [dot_moveOf b j r.1 wh mix (hS j mix e).1]
    exact Int.emod_eq_zero_of_dvd (Int.dvd_trans (hm r hr) (Int.dvd_mul_right _ _))
  · have hlt := hk k w h
    have e : mixes[w]? = some mixes[w] := List.getElem?_eq_getElem hlt
    refine ⟨_, movesOf_at hlt, ?_, fun j m' hj hm' => ?_⟩
    · rw [getD_of e, moveOf_at h ((hS w _ e).2 k w h (Nat.le_refl _)), if_pos rfl]
      simp
    · rw [movesOf_at (by omega)] at hm'
      cases hm'
      have e2 : mixes[j]? = some (mixes[j]'(by omega)) := List.getElem?_eq_getElem (by omega)
      rw [getD_of e2, moveOf_at h ((hS j _ e2).2 k w h (by omega)), if_neg (by omega)]
      simp
theorem set_at {α : Type} {l : List α} {i j : Nat} {x y : α} (h : (l.set i x)[j]? = some y) : (i = j ∧ y = x) ∨ (i ≠ j ∧ l[j]? = some y) := by
  rw [List.getElem?_set] at h
  by_cases e : i = j
  · rw [if_pos e] at h
    by_cases e2 : i < l.length
    · rw [if_pos e2] at h; exact .inl ⟨e, (Option.some.inj h).symm⟩
    · rw [if_neg e2] at h; cases h
  · rw [if_neg e] at h; exact .inr ⟨e, h⟩
theorem set_to {α : Type} {l : List α} {i j : Nat} {x y : α} (h : l[j]? = some y) : (l.set i x)[j]? = some (if i = j then x else y) := by
  rw [List.getElem?_set]
  by_cases e : i = j
  · have := (List.getElem?_eq_some_iff.mp h).1
    rw [if_pos e, if_pos e, if_pos (by omega)]
  · rw [if_neg e, if_neg e, h]
section
variable {n : Nat} {lots : List (List Int)} {marks : List Rst} {F : Int} {wh : List Nat} {mvs : List (List Int)}
theorem mem_set {α : Type} {l : List α} {i : Nat} {x y : α} (h : y ∈ l.set i x) : y ∈ l ∨ y = x := List.mem_or_eq_of_mem_set h
theorem FOk.add (h : FOk n lots marks F wh mvs) {k j : Nat} {b : Int} {x y : List Int} (hj : j < k) (hx : mvs[k]? = some x) (hy : mvs[j]? = some y) : FOk n lots marks F wh (mvs.set k (addM b x y)) := by
  have xm := List.mem_of_getElem? hx
  have ym := List.mem_of_getElem? hy
  have len : y.length = x.length := by rw [h.ml y ym, h.ml x xm]
  refine ⟨h.f1, h.wl, fun mv hm => ?_, fun mv hm fs hf => ?_, fun mv hm r hr => ?_, fun p w hp => ?_⟩
  · rcases mem_set hm with hm | rfl
    · exact h.ml mv hm
    · rw [addM_len len, h.ml x xm]
  · rcases mem_set hm with hm | rfl
    · exact h.dl mv hm fs hf
    · rw [dot_addM b fs x y len, h.dl x xm fs hf, h.dl y ym fs hf]; omega
  · rcases mem_set hm with hm | rfl
    · exact h.dm mv hm r hr
    · rw [dot_addM b r.1 x y len]
      exact Int.emod_eq_zero_of_dvd (Int.dvd_add (Int.dvd_of_emod_eq_zero (h.dm x xm r hr)) (Int.dvd_trans (Int.dvd_of_emod_eq_zero (h.dm y ym r hr)) (Int.dvd_mul_left _ _)))
  · obtain ⟨mv, e1, e2, e3⟩ := h.fr p w hp
    refine ⟨_, set_to e1, ?_, fun j' m' hj' hm' => ?_⟩
    · by_cases e : k = w
      · rw [if_pos e]
        subst e
        rw [hx] at e1
        cases e1
        rw [addM_at e2 (e3 j y hj hy)]
        simp
      · rw [if_neg e]; exact e2
    · rcases set_at hm' with ⟨e, rfl⟩ | ⟨_, hm'⟩
      · subst e
        rw [addM_at (e3 k x hj' hx) (e3 j y (by omega) hy)]
        simp
      · exact e3 j' m' hj' hm'
theorem FOk.scale (h : FOk n lots marks F wh mvs) {b : Int} (hb : 1 ≤ b) : FOk n lots marks (F * b) wh (mvs.map fun mv => mv.map fun x => x * b) := by
  have each : ∀ mv ∈ mvs.map fun mv => mv.map fun x => x * b, ∃ m ∈ mvs, mv = m.map fun x => b * x := fun mv hm => by
    obtain ⟨m, h1, rfl⟩ := List.mem_map.mp hm
    exact ⟨m, h1, mulR b m⟩
  refine ⟨?_, h.wl, fun mv hm => ?_, fun mv hm fs hf => ?_, fun mv hm r hr => ?_, fun p w hp => ?_⟩
  · have := Int.mul_le_mul h.f1 hb (by omega) (by have := h.f1; omega)
    omega
  · obtain ⟨m, h1, rfl⟩ := each mv hm
    rw [List.length_map, h.ml m h1]
  · obtain ⟨m, h1, rfl⟩ := each mv hm
    rw [dot_mul, h.dl m h1 fs hf, Int.mul_zero]
  · obtain ⟨m, h1, rfl⟩ := each mv hm
    rw [dot_mul]
    exact Int.emod_eq_zero_of_dvd (Int.dvd_trans (Int.dvd_of_emod_eq_zero (h.dm m h1 r hr)) (Int.dvd_mul_left _ _))
  · obtain ⟨mv, e1, e2, e3⟩ := h.fr p w hp
    refine ⟨mv.map fun x => x * b, by rw [List.getElem?_map, e1]; rfl, by rw [List.getElem?_map, e2]; rfl, fun j m' hj hm' => ?_⟩
    rw [List.getElem?_map] at hm'
    cases e : mvs[j]? with
    | none => rw [e] at hm'; cases hm'
    | some m =>
      rw [e] at hm'
      cases hm'
      rw [List.getElem?_map, e3 j m hj e]
      simp
def insL (at_ : Nat) (z : List Int) (mvs : List (List Int)) : List (List Int) := mvs.take at_ ++ [z] ++ mvs.drop at_
def bump (at_ : Nat) (wh : List Nat) : List Nat := wh.map fun w => w + (if at_ ≤ w then 1 else 0)
theorem insL_lt {a : Nat} {z : List Int} {mvs : List (List Int)} {i : Nat} (ha : a ≤ mvs.length) (h : i < a) : (insL a z mvs)[i]? = mvs[i]? := by
  unfold insL
  rw [List.getElem?_append_left (by simp; omega), List.getElem?_append_left (by rw [List.length_take]; omega), List.getElem?_take, if_pos h]
theorem insL_eq {a : Nat} {z : List Int} {mvs : List (List Int)} (ha : a ≤ mvs.length) : (insL a z mvs)[a]? = some z := by
  unfold insL
  rw [List.getElem?_append_left (by simp; omega), List.getElem?_append_right (by rw [List.length_take]; omega)]
  simp [ha]
theorem insL_gt {a : Nat} {z : List Int} {mvs : List (List Int)} {i : Nat} (ha : a ≤ mvs.length) (h : a ≤ i) : (insL a z mvs)[i + 1]? = mvs[i]? := by
  unfold insL
  rw [List.getElem?_append_right (by simp; omega), List.getElem?_drop]
  congr 1
  simp
  omega
theorem FOk.ins (h : FOk n lots marks F wh mvs) {a : Nat} (ha : a ≤ mvs.length) : FOk n lots marks F (bump a wh) (insL a (List.replicate n 0) mvs) := by
  have each : ∀ mv ∈ insL a (List.replicate n 0) mvs, mv ∈ mvs ∨ mv = List.replicate n 0 := fun mv hm => by
    unfold insL at hm
    rcases List.mem_append.mp hm with hm | hm
    · rcases List.mem_append.mp hm with hm | hm
      · exact .inl (List.mem_of_mem_take hm)
      · exact .inr (List.mem_singleton.mp hm)
    · exact .inl (List.mem_of_mem_drop hm)
  refine ⟨h.f1, ?_, fun mv hm => ?_, fun mv hm fs hf => ?_, fun mv hm r hr => ?_, fun p w hp => ?_⟩
  · unfold bump; rw [List.length_map]; exact h.wl
  · rcases each mv hm with hm | rfl
    · exact h.ml mv hm
    · rw [List.length_replicate]
  · rcases each mv hm with hm | rfl
    · exact h.dl mv hm fs hf
    · exact dot_zero fs n
  · rcases each mv hm with hm | rfl
    · exact h.dm mv hm r hr
    · rw [dot_zero]; exact Int.zero_emod _
  · unfold bump at hp
    rw [List.getElem?_map] at hp
    cases e : wh[p]? with
    | none => rw [e] at hp; cases hp
    | some w0 =>
      rw [e] at hp
      have hw : w0 + (if a ≤ w0 then 1 else 0) = w := Option.some.inj hp
      obtain ⟨mv, e1, e2, e3⟩ := h.fr p w0 e
      have pn : p < n := by have := (List.getElem?_eq_some_iff.mp e).1; have := h.wl; omega
      have zer : (List.replicate n (0 : Int))[p]? = some 0 := by rw [List.getElem?_replicate, if_pos pn]
      refine ⟨mv, ?_, e2, fun j m' hj hm' => ?_⟩
      · by_cases hc : a ≤ w0
        · rw [if_pos hc] at hw; rw [← hw, insL_gt ha hc]; exact e1
        · rw [if_neg hc] at hw; rw [← hw, insL_lt ha (by omega)]; exact e1
      · by_cases c1 : j < a
        · rw [insL_lt ha c1] at hm'
          refine e3 j m' ?_ hm'
          by_cases hc : a ≤ w0
          · omega
          · rw [if_neg hc] at hw; omega
        · by_cases c2 : j = a
          · rw [c2, insL_eq ha] at hm'
            cases hm'
            exact zer
          · obtain ⟨i, rfl⟩ : ∃ i, j = i + 1 := ⟨j - 1, by omega⟩
            rw [insL_gt ha (by omega)] at hm'
            refine e3 i m' ?_ hm'
            by_cases hc : a ≤ w0
            · rw [if_pos hc] at hw; omega
            · rw [if_neg hc] at hw; omega
theorem FOk.app (h : FOk n lots marks F wh mvs) {x : List Int} {b : Int} (hx : x ∈ mvs) : FOk n lots marks F wh (mvs ++ [x.map fun y => b * y]) := by
  refine ⟨h.f1, h.wl, fun mv hm => ?_, fun mv hm fs hf => ?_, fun mv hm r hr => ?_, fun p w hp => ?_⟩
  · rcases List.mem_append.mp hm with hm | hm
    · exact h.ml mv hm
    · rw [List.mem_singleton.mp hm, List.length_map, h.ml x hx]
  · rcases List.mem_append.mp hm with hm | hm
    · exact h.dl mv hm fs hf
    · rw [List.mem_singleton.mp hm, dot_mul, h.dl x hx fs hf, Int.mul_zero]
  · rcases List.mem_append.mp hm with hm | hm
    · exact h.dm mv hm r hr
    · rw [List.mem_singleton.mp hm, dot_mul]
      exact Int.emod_eq_zero_of_dvd (Int.dvd_trans (Int.dvd_of_emod_eq_zero (h.dm x hx r hr)) (Int.dvd_mul_left _ _))
  · obtain ⟨mv, e1, e2, e3⟩ := h.fr p w hp
    have wl := (List.getElem?_eq_some_iff.mp e1).1
    exact ⟨mv, by rw [List.getElem?_append_left wl]; exact e1, e2, fun j m' hj hm' => e3 j m' hj (by rw [List.getElem?_append_left (by omega)] at hm'; exact hm')⟩
theorem FOk.less (h : FOk n lots marks F wh mvs) {lots' : List (List Int)} (hs : ∀ fs ∈ lots', fs ∈ lots) : FOk n lots' marks F wh mvs :=
  ⟨h.f1, h.wl, h.ml, fun mv hm fs hf => h.dl mv hm fs (hs fs hf), h.dm, h.fr⟩
/-! bounds -/
theorem Bd.mono {B B' : Nat} (h : Bd B F mvs) (hb : B ≤ B') : Bd B' F mvs := ⟨Nat.le_trans h.1 hb, fun mv hm x hx => Nat.le_trans (h.2 mv hm x hx) hb⟩
theorem mul_bd {a b : Int} {A B : Nat} (ha : a.natAbs ≤ A) (hb : b.natAbs ≤ B) : (a * b).natAbs ≤ A * B := by
  rw [Int.natAbs_mul]; exact Nat.mul_le_mul ha hb
theorem Bd.add {B : Nat} (h : Bd B F mvs) {k j : Nat} {b : Int} {x y : List Int} (hb : b.natAbs ≤ 3) (hx : mvs[k]? = some x) (hy : mvs[j]? = some y) : Bd (B * 4) F (mvs.set k (addM b x y)) := by
  refine ⟨Nat.le_trans h.1 (by omega), fun mv hm z hz => ?_⟩
  rcases mem_set hm with hm | rfl
  · exact Nat.le_trans (h.2 mv hm z hz) (by omega)
  · obtain ⟨i, hi⟩ := List.mem_iff_getElem?.mp hz
    unfold addM at hi
    rw [List.getElem?_zipWith] at hi
    cases e1 : x[i]? with
    | none => rw [e1] at hi; simp at hi
    | some p =>
      cases e2 : y[i]? with
      | none => rw [e1, e2] at hi; simp at hi
      | some q =>
        rw [e1, e2] at hi
        have e : p + b * q = z := Option.some.inj hi
        have h1 := h.2 x (List.mem_of_getElem? hx) p (List.mem_of_getElem? e1)
        have h2 := h.2 y (List.mem_of_getElem? hy) q (List.mem_of_getElem? e2)
        have h3 := mul_bd hb h2
        rw [← e]
        omega
theorem Bd.scale {B : Nat} (h : Bd B F mvs) {b : Int} (hb : b.natAbs ≤ 2 ^ 20) : Bd (B * 2 ^ 20) (F * b) (mvs.map fun mv => mv.map fun x => x * b) := by
  refine ⟨mul_bd h.1 hb, fun mv hm z hz => ?_⟩
  obtain ⟨m, h1, rfl⟩ := List.mem_map.mp hm
  obtain ⟨x, h2, rfl⟩ := List.mem_map.mp hz
  exact mul_bd (h.2 m h1 x h2) hb
theorem Bd.ins {B : Nat} (h : Bd B F mvs) {a : Nat} : Bd B F (insL a (List.replicate n 0) mvs) := by
  refine ⟨h.1, fun mv hm z hz => ?_⟩
  unfold insL at hm
  rcases List.mem_append.mp hm with hm | hm
  · rcases List.mem_append.mp hm with hm | hm
    · exact h.2 mv (List.mem_of_mem_take hm) z hz
    · rw [List.mem_singleton.mp hm] at hz
      rw [(List.mem_replicate.mp hz).2]
      exact Nat.zero_le _
  · exact h.2 mv (List.mem_of_mem_drop hm) z hz
theorem Bd.app {B : Nat} (h : Bd B F mvs) {x : List Int} {b : Int} (hb : b.natAbs ≤ 4) (hx : x ∈ mvs) : Bd (B * 4) F (mvs ++ [x.map fun y => b * y]) := by
  refine ⟨Nat.le_trans h.1 (by omega), fun mv hm z hz => ?_⟩
  rcases List.mem_append.mp hm with hm | hm
  · exact Nat.le_trans (h.2 mv hm z hz) (by omega)
  · rw [List.mem_singleton.mp hm] at hz
    obtain ⟨y, h2, rfl⟩ := List.mem_map.mp hz
    have := mul_bd hb (h.2 x hx y h2)
    omega
end
/-! ### the kinds -/
theorem asc_len : ∀ (ns : List Int) (lo hi : Int), ns.Pairwise (· < ·) → (∀ x ∈ ns, lo ≤ x ∧ x < hi) → lo ≤ hi → (ns.length : Int) ≤ hi - lo
  | [], lo, hi, _, _, h => by simp; omega
  | a :: r, lo, hi, hp, hm, h => by
    have ha := hm a List.mem_cons_self
    obtain ⟨h1, h2⟩ := List.pairwise_cons.mp hp
    have := asc_len r (a + 1) hi h2 (fun x hx => ⟨h1 x hx, (hm x (List.mem_cons_of_mem _ hx)).2⟩) (by omega)
    rw [List.length_cons]
    omega
def whOf (kinds spots : List Int) : List Nat := spots.map fun k => kinds.idxOf k
theorem idx_factsI (z : Int) : ∀ ns : List Int, z ∈ ns → ns[ns.idxOf z]? = some z ∧ ∀ m, m < ns.idxOf z → ns[m]? ≠ some z
  | [], h => nomatch h
  | y :: r, h => by
    by_cases e : y = z
    · subst e
      rw [List.idxOf_cons_self]
      exact ⟨rfl, fun m hm => absurd hm (Nat.not_lt_zero m)⟩
    · have hr : z ∈ r := (List.mem_cons.mp h).resolve_left (fun q => e q.symm)
      obtain ⟨h1, h2⟩ := idx_factsI z r hr
      have ei : (y :: r).idxOf z = r.idxOf z + 1 := by
        rw [List.idxOf_cons, show (y == z) = false from beq_eq_false_iff_ne.mpr e]; rfl
      rw [ei]
      refine ⟨by rw [List.getElem?_cons_succ]; exact h1, fun m hm => ?_⟩
      cases m with
      | zero => simpa using e
      | succ m => rw [List.getElem?_cons_succ]; exact h2 m (by omega)
theorem wh_facts {kinds spots : List Int} (hp : kinds.Pairwise (· < ·)) (hm : ∀ k, k ∈ kinds ↔ k ∈ spots) :
    (∀ (k w : Nat), (whOf kinds spots)[k]? = some w → w < kinds.length) ∧ ∀ j, j < kinds.length → ∃ k : Nat, (whOf kinds spots)[k]? = some j := by
  constructor
  · intro k w h
    unfold whOf at h
    rw [List.getElem?_map] at h
    cases e : spots[k]? with
    | none => rw [e] at h; cases h
    | some z =>
      rw [e] at h
      have hz := (hm z).mpr (List.mem_of_getElem? e)
      have := (idx_factsI z kinds hz).1
      rw [← Option.some.inj h]
      exact (List.getElem?_eq_some_iff.mp this).1
  · intro j hj
    have hz : kinds[j] ∈ spots := (hm _).mp (List.getElem_mem hj)
    obtain ⟨k, hk⟩ := List.mem_iff_getElem?.mp hz
    refine ⟨k, ?_⟩
    unfold whOf
    rw [List.getElem?_map, hk]
    obtain ⟨h1, h2⟩ := idx_factsI kinds[j] kinds (List.getElem_mem hj)
    have hj2 : kinds[j]? = some kinds[j] := List.getElem?_eq_getElem hj
    have hlt := (List.getElem?_eq_some_iff.mp h1).1
    have hle : ¬ j < kinds.idxOf kinds[j] := fun z => h2 j z hj2
    by_cases e : kinds.idxOf kinds[j] = j
    · rw [Option.map_some, e]
    · have l : kinds.idxOf kinds[j] < j := by omega
      have a := List.pairwise_iff_getElem.mp hp _ _ hlt hj l
      have b := (List.getElem?_eq_some_iff.mp h1).2
      omega
end NK29
namespace NK29
open PySem PySem.Spec PyProof.Rows L2 GL RZ G3
theorem map_at {ns : List Int} {i : Nat} (h : i < ns.length) : (ns.map V.int)[i]? = some (.int ns[i]) := by
  rw [List.getElem?_map, List.getElem?_eq_getElem h]; rfl
def Small (ns : List Int) : Prop := ∀ n ∈ ns, -(2 ^ 64) < n ∧ n < 2 ^ 64
def spDot (K : PySem.W.Frag) : Sp := fun vs H Q _ => ∃ (a b : Addr) (ns ms : List Int), vs = [.ref a, .ref b] ∧ SqT K H a (ns.map V.int) ∧ SqT K H b (ms.map V.int) ∧ ns.length = ms.length ∧ ns.length ≤ 1000 ∧ Small ns ∧ ∀ H', Same H H' → Q (.int (dotI ns ms)) H'
def spLDot (K : PySem.W.Frag) : Sp := fun vs H Q _ => ∃ (a b : Addr) (ns ms : List Int), vs = [.ref a, .ref b] ∧ SqL K H a (ns.map V.int) ∧ H b = some (.lst (ms.map V.int)) ∧ (∃ l, H a = some (.lst l)) ∧ ns.length = ms.length ∧ ns.length ≤ 1000 ∧ Small ns ∧ ∀ H', Same H H' → Q (.int (dotI ns ms)) H'
section
variable {P : Program} {w : World} {K : PySem.W.Frag} {mg : Str → Option Value} {base : Heap}
abbrev s_dot : Stmt := topS 11
theorem sc_dot : FnScope ["row", "other", "one", "two"] ["row", "other"] (defScope s_dot) := ⟨rfl, rfl, rfl, by decide +kernel, rfl, by decide +kernel, by decide +kernel⟩
theorem ok_dot {f : Addr} {fd : FuncData} (F : Fun K "dot" "dot" s_dot f fd) (gl : mg "dot" = some (.ref f)) (T : Bl mg) : DefG P w K mg base 1 "dot" ["row", "other"] (spDot K) := by
  refine def_mk F gl (F.binds fun _ _ _ _ _ _ us hl => match us, hl with | [_, _], _ => rfl) (okG F sc_dot (fun vs H Q E h => ?_) fun cdv A outer s H vs Q E hr hc h => ?_)
  · obtain ⟨a, b, ns, ms, rfl, _⟩ := h
    rfl
  · obtain ⟨a, b, ns, ms, rfl, hA, hB, el, hl, sm, q⟩ := h
    have nd := sc_dot.nd
    refine ⟨_, (pss_one (ps_ret (pe_callB (cr_sum rfl) (by rfl) T.sum boot_sum (pa_cons (pe_lc (own := [("one", 2), ("two", 3)]) (g := (gTup K 2 (gCons (gName 2) (gCons (gName 3) gNil)))) (tt := tYes) rfl nd (pi_zipA (by rfl) T.zip (pa_cons (pv 0) (pa_cons (pv 1) pa_nil))) (blkOk_by (own := [("one", 2), ("two", 3)]) (N := ["row", "other", "one", "two"]) (sc := defScope s_dot) (by decide +kernel)) (fun _ _ _ _ _ => (pg_tup rfl (pgs_cons (pg_name (i := 2) nd rfl (by first | exact Or.inl rfl | exact Or.inr rfl)) (pgs_cons (pg_name (i := 3) nd rfl (by first | exact Or.inl rfl | exact Or.inr rfl)) pgs_nil)))) (fun _ _ _ _ _ => pts_nil) (fun _ _ _ _ _ => (pe_op op_mul (pv 2) (pv 3)))) pa_nil)))), ?_⟩
    refine ⟨_, rfl, _, rfl, a, b, _, _, rfl, .inr ⟨hA, hB, fun D nD => ?_⟩⟩
    refine lc_it (walk_zipT (K := K) (a := a) (b := b) (xs := ns.map V.int) (ys := ms.map V.int) (n := ns.length) (by rw [List.length_map, List.length_map]; omega))
      (fun i H2 => Same H H2 ∧ H2 D = some (.lst (((prods ns ms).take i).map V.int))) ⟨Same.new nD, upd_same⟩ (fun i H2 _ h => ⟨Same.tup h.1 hA, Same.tup h.1 hB⟩) ?_ ?_
    · rintro i x H2 H3 hi ⟨s2, hD⟩ ⟨t, u, v, rfl, nt, rfl, f1, f2⟩
      have m1 := map_at hi
      have m2 := map_at (show i < ms.length by omega)
      have e1 : u = .int ns[i] := Option.some.inj (f1.symm.trans m1)
      have e2 : v = .int ms[i] := Option.some.inj (f2.symm.trans m2)
      subst e1 e2
      have sx := sm ns[i] (List.getElem_mem hi)
      have nDt : D ≠ t := ne_of_none hD nt
      refine ⟨t, _, rfl, tofT upd_same, rfl, _, _, rfl, _, _, rfl, rfl, rfl, ?_⟩
      refine ⟨_, rfl, _, rfl, _, _, rfl, rfl, .inl sx, _, (by rw [upd_ne nDt]; exact hD), ?_, ?_, ?_⟩
      · rw [List.length_map, List.length_take]; exact smallt (by omega)
      · intro p o hp
        rw [upd_ne (ne_of_none hp nD), upd_ne (ne_of_none (s2 _ _ hp) nt)]
        exact s2 _ _ hp
      · rw [upd_same, List.take_add_one, prods_at (List.getElem?_eq_getElem hi) (List.getElem?_eq_getElem (show i < ms.length by omega)), List.map_append]
        rfl
    · rintro H2 ⟨s2, hD⟩
      rw [List.take_of_length_le (by rw [prods_len]; omega)] at hD
      exact ⟨D, _, rfl, tofL hD, q H2 s2⟩
abbrev s_ldot : Stmt := topS 73
theorem sc_ldot : FnScope ["_law_a", "_law_b", "_law_x", "_law_y"] ["_law_a", "_law_b"] (defScope s_ldot) := ⟨rfl, rfl, rfl, by decide +kernel, rfl, by decide +kernel, by decide +kernel⟩
theorem ok_ldot {f : Addr} {fd : FuncData} (F : Fun K "_law_dot" "_law_dot" s_ldot f fd) (gl : mg "_law_dot" = some (.ref f)) (T : Bl mg) : DefG P w K mg base 1 "_law_dot" ["_law_a", "_law_b"] (spLDot K) := by
  refine def_mk F gl (F.binds fun _ _ _ _ _ _ us hl => match us, hl with | [_, _], _ => rfl) (okG F sc_ldot (fun vs H Q E h => ?_) fun cdv A outer s H vs Q E hr hc h => ?_)
  · obtain ⟨a, b, ns, ms, rfl, _⟩ := h
    rfl
  · obtain ⟨a, b, ns, ms, rfl, hA, hB, ⟨la, hA'⟩, el, hl, sm, q⟩ := h
    have nd := sc_ldot.nd
    refine ⟨_, (pss_one (ps_ret (pe_callB (cr_sum rfl) (by rfl) T.sum boot_sum (pa_cons (pe_lc (own := [("_law_x", 2), ("_law_y", 3)]) (g := (gTup K 2 (gCons (gName 2) (gCons (gName 3) gNil)))) (tt := tYes) rfl nd (pi_zipA (by rfl) T.zip (pa_cons (pv 0) (pa_cons (pv 1) pa_nil))) (blkOk_by (own := [("_law_x", 2), ("_law_y", 3)]) (N := ["_law_a", "_law_b", "_law_x", "_law_y"]) (sc := defScope s_ldot) (by decide +kernel)) (fun _ _ _ _ _ => (pg_tup rfl (pgs_cons (pg_name (i := 2) nd rfl (by first | exact Or.inl rfl | exact Or.inr rfl)) (pgs_cons (pg_name (i := 3) nd rfl (by first | exact Or.inl rfl | exact Or.inr rfl)) pgs_nil)))) (fun _ _ _ _ _ => pts_nil) (fun _ _ _ _ _ => (pe_op op_mul (pv 2) (pv 3)))) pa_nil)))), ?_⟩
    refine ⟨_, rfl, _, rfl, a, b, _, _, rfl, .inl ⟨hA, tofL hB, fun D nD => ?_⟩⟩
    have same_seq : ∀ H2, Same H H2 → SqL K H2 a (ns.map V.int) := fun H2 s2 => s2.seq hA
    refine lc_it (walk_zip (K := K) (a := a) (b := b) (xs := ns.map V.int) (ys := ms.map V.int) (n := ns.length) (by rw [List.length_map, List.length_map]; omega))
      (fun i H2 => Same H H2 ∧ H2 D = some (.lst (((prods ns ms).take i).map V.int))) ⟨Same.new nD, upd_same⟩ (fun i H2 _ h => ⟨same_seq H2 h.1, tofL (h.1 _ _ hB)⟩) ?_ ?_
    · rintro i x H2 H3 hi ⟨s2, hD⟩ ⟨t, u, v, rfl, nt, rfl, f1, f2⟩
      have m1 := map_at hi
      have m2 := map_at (show i < ms.length by omega)
      have e1 : u = .int ns[i] := Option.some.inj (f1.symm.trans m1)
      have e2 : v = .int ms[i] := Option.some.inj (f2.symm.trans m2)
      subst e1 e2
      have sx := sm ns[i] (List.getElem_mem hi)
      have nDt : D ≠ t := ne_of_none hD nt
      refine ⟨t, _, rfl, tofT upd_same, rfl, _, _, rfl, _, _, rfl, rfl, rfl, ?_⟩
      refine ⟨_, rfl, _, rfl, _, _, rfl, rfl, .inl sx, _, (by rw [upd_ne nDt]; exact hD), ?_, ?_, ?_⟩
      · rw [List.length_map, List.length_take]; exact smallt (by omega)
      · intro p o hp
        rw [upd_ne (ne_of_none hp nD), upd_ne (ne_of_none (s2 _ _ hp) nt)]
        exact s2 _ _ hp
      · rw [upd_same, List.take_add_one, prods_at (List.getElem?_eq_getElem hi) (List.getElem?_eq_getElem (show i < ms.length by omega)), List.map_append]
        rfl
    · rintro H2 ⟨s2, hD⟩
      rw [List.take_of_length_le (by rw [prods_len]; omega)] at hD
      exact ⟨D, _, rfl, tofL hD, q H2 s2⟩
theorem ok_ldotT {f : Addr} {fd : FuncData} (F : Fun K "_law_dot" "_law_dot" s_ldot f fd) (gl : mg "_law_dot" = some (.ref f)) (T : Bl mg) : DefG P w K mg base 1 "_law_dot" ["_law_a", "_law_b"] (spDot K) := by
  refine def_mk F gl (F.binds fun _ _ _ _ _ _ us hl => match us, hl with | [_, _], _ => rfl) (okG F sc_ldot (fun vs H Q E h => ?_) fun cdv A outer s H vs Q E hr hc h => ?_)
  · obtain ⟨a, b, ns, ms, rfl, _⟩ := h
    rfl
  · obtain ⟨a, b, ns, ms, rfl, hA, hB, el, hl, sm, q⟩ := h
    have nd := sc_ldot.nd
    refine ⟨_, (pss_one (ps_ret (pe_callB (cr_sum rfl) (by rfl) T.sum boot_sum (pa_cons (pe_lc (own := [("_law_x", 2), ("_law_y", 3)]) (g := (gTup K 2 (gCons (gName 2) (gCons (gName 3) gNil)))) (tt := tYes) rfl nd (pi_zipA (by rfl) T.zip (pa_cons (pv 0) (pa_cons (pv 1) pa_nil))) (blkOk_by (own := [("_law_x", 2), ("_law_y", 3)]) (N := ["_law_a", "_law_b", "_law_x", "_law_y"]) (sc := defScope s_ldot) (by decide +kernel)) (fun _ _ _ _ _ => (pg_tup rfl (pgs_cons (pg_name (i := 2) nd rfl (by first | exact Or.inl rfl | exact Or.inr rfl)) (pgs_cons (pg_name (i := 3) nd rfl (by first | exact Or.inl rfl | exact Or.inr rfl)) pgs_nil)))) (fun _ _ _ _ _ => pts_nil) (fun _ _ _ _ _ => (pe_op op_mul (pv 2) (pv 3)))) pa_nil)))), ?_⟩
    refine ⟨_, rfl, _, rfl, a, b, _, _, rfl, .inr ⟨hA, hB, fun D nD => ?_⟩⟩
    refine lc_it (walk_zipT (K := K) (a := a) (b := b) (xs := ns.map V.int) (ys := ms.map V.int) (n := ns.length) (by rw [List.length_map, List.length_map]; omega))
      (fun i H2 => Same H H2 ∧ H2 D = some (.lst (((prods ns ms).take i).map V.int))) ⟨Same.new nD, upd_same⟩ (fun i H2 _ h => ⟨Same.tup h.1 hA, Same.tup h.1 hB⟩) ?_ ?_
    · rintro i x H2 H3 hi ⟨s2, hD⟩ ⟨t, u, v, rfl, nt, rfl, f1, f2⟩
      have m1 := map_at hi
      have m2 := map_at (show i < ms.length by omega)
      have e1 : u = .int ns[i] := Option.some.inj (f1.symm.trans m1)
      have e2 : v = .int ms[i] := Option.some.inj (f2.symm.trans m2)
      subst e1 e2
      have sx := sm ns[i] (List.getElem_mem hi)
      have nDt : D ≠ t := ne_of_none hD nt
      refine ⟨t, _, rfl, tofT upd_same, rfl, _, _, rfl, _, _, rfl, rfl, rfl, ?_⟩
      refine ⟨_, rfl, _, rfl, _, _, rfl, rfl, .inl sx, _, (by rw [upd_ne nDt]; exact hD), ?_, ?_, ?_⟩
      · rw [List.length_map, List.length_take]; exact smallt (by omega)
      · intro p o hp
        rw [upd_ne (ne_of_none hp nD), upd_ne (ne_of_none (s2 _ _ hp) nt)]
        exact s2 _ _ hp
      · rw [upd_same, List.take_add_one, prods_at (List.getElem?_eq_getElem hi) (List.getElem?_eq_getElem (show i < ms.length by omega)), List.map_append]
        rfl
    · rintro H2 ⟨s2, hD⟩
      rw [List.take_of_length_le (by rw [prods_len]; omega)] at hD
      exact ⟨D, _, rfl, tofL hD, q H2 s2⟩
end
end NK29
namespace NK29
open PySem PySem.Spec PyProof.Rows L2 GL RZ G3
abbrev Row := List Int × Int
inductive RowsAt (H : Hp) : List V → List Row → Prop
  | nil : RowsAt H [] []
  | cons {p q : Addr} {fs : List Int} {c : Int} {xs : List V} {rs : List Row} : H p = some (.tup [.ref q, .int c]) → H q = some (.tup (fs.map V.int)) → RowsAt H xs rs → RowsAt H (.ref p :: xs) ((fs, c) :: rs)
inductive RestsAt (H : Hp) : List V → List Rst → Prop
  | nil : RestsAt H [] []
  | cons {p q : Addr} {fs : List Int} {c m : Int} {xs : List V} {rs : List Rst} : H p = some (.tup [.ref q, .int c, .int m]) → H q = some (.tup (fs.map V.int)) → RestsAt H xs rs → RestsAt H (.ref p :: xs) ((fs, c, m) :: rs)
theorem RowsAt.len {H : Hp} : ∀ {xs : List V} {rs : List Row}, RowsAt H xs rs → xs.length = rs.length
  | _, _, .nil => rfl
  | _, _, .cons _ _ t => congrArg Nat.succ t.len
theorem RestsAt.len {H : Hp} : ∀ {xs : List V} {rs : List Rst}, RestsAt H xs rs → xs.length = rs.length
  | _, _, .nil => rfl
  | _, _, .cons _ _ t => congrArg Nat.succ t.len
theorem RowsAt.to {H H' : Hp} (k : ∀ a xs, H a = some (.tup xs) → H' a = some (.tup xs)) : ∀ {xs : List V} {rs : List Row}, RowsAt H xs rs → RowsAt H' xs rs
  | _, _, .nil => .nil
  | _, _, .cons a b t => .cons (k _ _ a) (k _ _ b) (t.to k)
theorem RestsAt.to {H H' : Hp} (k : ∀ a xs, H a = some (.tup xs) → H' a = some (.tup xs)) : ∀ {xs : List V} {rs : List Rst}, RestsAt H xs rs → RestsAt H' xs rs
  | _, _, .nil => .nil
  | _, _, .cons a b t => .cons (k _ _ a) (k _ _ b) (t.to k)
theorem RowsAt.snoc {H : Hp} {p q : Addr} {fs : List Int} {c : Int} (h1 : H p = some (.tup [.ref q, .int c])) (h2 : H q = some (.tup (fs.map V.int))) : ∀ {xs : List V} {rs : List Row}, RowsAt H xs rs → RowsAt H (xs ++ [.ref p]) (rs ++ [(fs, c)])
  | _, _, .nil => .cons h1 h2 .nil
  | _, _, .cons a b t => .cons a b (t.snoc h1 h2)
theorem RestsAt.snoc {H : Hp} {p q : Addr} {fs : List Int} {c m : Int} (h1 : H p = some (.tup [.ref q, .int c, .int m])) (h2 : H q = some (.tup (fs.map V.int))) : ∀ {xs : List V} {rs : List Rst}, RestsAt H xs rs → RestsAt H (xs ++ [.ref p]) (rs ++ [(fs, c, m)])
  | _, _, .nil => .cons h1 h2 .nil
  | _, _, .cons a b t => .cons a b (t.snoc h1 h2)
theorem RowsAt.get {H : Hp} : ∀ {xs : List V} {rs : List Row} {i : Nat} {x : V}, RowsAt H xs rs → xs[i]? = some x → ∃ p q fs c, x = .ref p ∧ H p = some (.tup [.ref q, .int c]) ∧ H q = some (.tup (fs.map V.int)) ∧ rs[i]? = some (fs, c)
  | _, _, _, _, .nil, e => by cases e
  | _, _, 0, _, .cons a b t, e => by cases e; exact ⟨_, _, _, _, rfl, a, b, rfl⟩
  | _, _, i + 1, _, .cons a b t, e => RowsAt.get (i := i) t (by simpa using e)
theorem RestsAt.get {H : Hp} : ∀ {xs : List V} {rs : List Rst} {i : Nat} {x : V}, RestsAt H xs rs → xs[i]? = some x → ∃ p q fs c m, x = .ref p ∧ H p = some (.tup [.ref q, .int c, .int m]) ∧ H q = some (.tup (fs.map V.int)) ∧ rs[i]? = some (fs, c, m)
  | _, _, _, _, .nil, e => by cases e
  | _, _, 0, _, .cons a b t, e => by cases e; exact ⟨_, _, _, _, _, rfl, a, b, rfl⟩
  | _, _, i + 1, _, .cons a b t, e => RestsAt.get (i := i) t (by simpa using e)
theorem tups_same {H H' : Hp} (s : Same H H') : ∀ a xs, H a = some (.tup xs) → H' a = some (.tup xs) := fun _ _ h => s _ _ h
def okRow (ms : List Int) (r : Row) : Bool := decide (dotI r.1 ms - r.2 = 0)
def okRst (ms : List Int) (r : Rst) : Bool := decide ((dotI r.1 ms - r.2.1) % r.2.2 = 0)
def dueB (rows : List Row) (rests : List Rst) (ms : List Int) : Bool := rows.all (okRow ms) && rests.all (okRst ms)
def Fine (n : Nat) (fs : List Int) : Prop := fs.length = n ∧ ∀ f ∈ fs, -9 ≤ f ∧ f ≤ 9
theorem Fine.small {n : Nat} {fs : List Int} (h : Fine n fs) : Small fs := fun f hf => by have := h.2 f hf; exact ⟨by omega, by omega⟩
def FineR (n : Nat) (rows : List Row) : Prop := ∀ r ∈ rows, Fine n r.1 ∧ -41 ≤ r.2 ∧ r.2 ≤ 41
def FineS (n : Nat) (rests : List Rst) : Prop := ∀ r ∈ rests, Fine n r.1 ∧ (-41 ≤ r.2.1 ∧ r.2.1 ≤ 41) ∧ 2 ≤ r.2.2 ∧ r.2.2 ≤ 12
theorem all_take {α : Type} {l : List α} {p : α → Bool} {i : Nat} {x : α} (h : l[i]? = some x) : (l.take (i + 1)).all p = ((l.take i).all p && p x) := by
  rw [List.take_add_one, h, Option.toList_some, List.all_append]
  simp
theorem all_bad {α : Type} {l : List α} {p : α → Bool} {i : Nat} {x : α} (h : l[i]? = some x) (hp : p x = false) : l.all p = false := by
  rw [List.all_eq_false]
  exact ⟨x, List.mem_of_getElem? h, by rw [hp]; exact Bool.false_ne_true⟩
/-- all but lists and dicts stays -/
def Kp (H H' : Hp) : Prop := ∀ b o, H b = some o → (∀ l, o ≠ .lst l) → (∀ k, o ≠ .dK k) → H' b = some o
theorem Kp.of {H H' : Hp} (s : Same H H') : Kp H H' := fun b o h _ _ => s b o h
theorem Kp.refl {H : Hp} : Kp H H := fun _ _ h _ _ => h
theorem Kp.trans {H1 H2 H3 : Hp} (a : Kp H1 H2) (b : Kp H2 H3) : Kp H1 H3 := fun p o h n1 n2 => b p o (a p o h n1 n2) n1 n2
theorem Kp.mv {H H' : Hp} {d g : Addr} {b : Nat} (D : Dk ks H d g b) (m : Mv d g H H') : Kp H H' := fun b o h n1 n2 => by
  obtain ⟨k, n, L, h1, h2, _⟩ := D.ex
  exact m.keep _ _ h (fun e => by rw [e, h1] at h; exact n2 _ (Option.some.inj h).symm) (fun e => by rw [e, h2] at h; exact n1 _ (Option.some.inj h).symm)
theorem Kp.tups {H H' : Hp} (k : Kp H H') : ∀ a xs, H a = some (.tup xs) → H' a = some (.tup xs) := fun a xs h => k a _ h (fun _ z => nomatch z) (fun _ z => nomatch z)
theorem Kp.tup {K : PySem.W.Frag} {H H' : Hp} {a : Addr} {xs : List V} (k : Kp H H') (h : SqT K H a xs) : SqT K H' a xs := by
  rcases h with (h | ⟨o, h⟩) | h
  · exact .inl (.inl (k.tups _ _ h))
  · exact .inl (.inr ⟨o, k _ _ h (fun _ z => nomatch z) (fun _ z => nomatch z)⟩)
  · exact .inr h
theorem Kp.z {K : PySem.W.Frag} {H H' : Hp} {a : Addr} {xs : List V} (k : Kp H H') (h : SqZ K H a xs) : SqZ K H' a xs := h.to fun _ e => k _ _ e (fun _ z => nomatch z) (fun _ z => nomatch z)
theorem Kp.ins {H H' : Hp} {a C dx : Addr} {fs : List (Str × V)} (k : Kp H H') (h : H a = some (.ins C dx fs)) : H' a = some (.ins C dx fs) := k _ _ h (fun _ z => nomatch z) (fun _ z => nomatch z)
/-! ### the class -/
def flds (x y z : V) : List (Str × V) := putF "rests" z (putF "rows" y (putF "names" x []))
theorem f_rests (x y z : V) : (flds x y z).lookup ("rests" : Str) = some z := by
  unfold flds; rw [lookup_putF, if_pos rfl]
theorem f_rows (x y z : V) : (flds x y z).lookup ("rows" : Str) = some y := by
  unfold flds; rw [lookup_putF, if_neg (by decide +kernel), lookup_putF, if_pos rfl]
theorem f_names (x y z : V) : (flds x y z).lookup ("names" : Str) = some x := by
  unfold flds; rw [lookup_putF, if_neg (by decide +kernel), lookup_putF, if_neg (by decide +kernel), lookup_putF, if_pos rfl]
theorem f_no (x y z : V) {m : Str} (h1 : ¬ m = "rests") (h2 : ¬ m = "rows") (h3 : ¬ m = "names") : (flds x y z).lookup m = none := by
  unfold flds; rw [lookup_putF, if_neg h1, lookup_putF, if_neg h2, lookup_putF, if_neg h3]; rfl
theorem fl1 (x : V) : (putF ("names" : Str) x []).length = 1 := rfl
theorem fl2 (x y : V) : (putF ("rows" : Str) y (putF ("names" : Str) x [])).length = 2 := by
  show (if ("names" : Str) = "rows" then [(("names" : Str), y)] else (("names" : Str), x) :: putF "rows" y []).length = 2
  rw [if_neg (by decide +kernel)]; rfl
structure Sys (K : PySem.W.Frag) (mg : Str → Option Value) (C : Addr) : Prop where
  cl : Cls K C
  nN : NoAttr K C "names"
  nR : NoAttr K C "rows"
  nS : NoAttr K C "rests"
  mgC : mg "System" = some (.ref C)
def spInit (C : Addr) : Sp := fun vs H Q _ => ∃ (s dx : Addr) (x y z : V), vs = [.ref s, x, y, z] ∧ H s = some (.ins C dx []) ∧ Q .non (upd H s (.ins C dx (flds x y z)))
def spFul (K : PySem.W.Frag) (C : Addr) : Sp := fun vs H Q _ => ∃ (s dx a b t : Addr) (x : V) (xs ys : List V) (rows : List Row) (rests : List Rst) (ms : List Int), vs = [.ref s, .ref t] ∧ H s = some (.ins C dx (flds x (.ref a) (.ref b))) ∧ SqT K H a xs ∧ RowsAt H xs rows ∧ SqT K H b ys ∧ RestsAt H ys rests ∧
  SqT K H t (ms.map V.int) ∧ ms.length ≤ 100 ∧ rows.length ≤ 100 ∧ rests.length ≤ 100 ∧ FineR ms.length rows ∧ FineS ms.length rests ∧ ∀ H', Same H H' → Q (.bl (dueB rows rests ms)) H'
theorem dec_int (a b : Int) : decide (V.int a = V.int b) = decide (a - b = 0) := by
  by_cases h : a = b
  · subst h; rw [decide_eq_true rfl, decide_eq_true (Int.sub_self a)]
  · rw [decide_eq_false (fun e => h (V.int.inj e)), decide_eq_false (by omega)]
theorem any_not {α : Type} (p : α → Bool) : ∀ l : List α, (l.map fun r => !p r).any id = !(l.all p)
  | [] => rfl
  | x :: r => by
    rw [List.map_cons, List.any_cons, any_not p r, List.all_cons, Bool.not_and]; rfl
theorem any_rest (ms : List Int) : ∀ l : List Rst, (l.map fun r => (dotI r.1 ms - r.2.1) % r.2.2).any (fun n => n != 0) = !(l.all (okRst ms))
  | [] => rfl
  | x :: r => by
    rw [List.map_cons, List.any_cons, any_rest ms r, List.all_cons, Bool.not_and]
    congr 1
section
variable {P : Program} {w : World} {K : PySem.W.Frag} {mg : Str → Option Value} {base : Heap}
abbrev s_init : Stmt := inClass (topS 35) 0
theorem sc_init : FnScope ["self", "names", "rows", "rests"] ["self", "names", "rows", "rests"] (defScope s_init) := ⟨rfl, rfl, rfl, by decide +kernel, rfl, by decide +kernel, by decide +kernel⟩
theorem ok_init {f C E0 : Addr} {fd : FuncData} (F : FunD K "__init__" "System.__init__" (defArgs s_init) (defBody s_init) (defScope s_init) [.ref E0] [] f fd) (S : Sys K mg C) : FnG P w K mg base CX0 1 f fd ["self", "names", "rows", "rests"] (spInit C) := by
  refine okD F sc_init (fun vs H Q E h => ?_) fun cdv A outer s H vs Q E hr hc h => ?_
  · obtain ⟨s, dx, x, y, z, rfl, _⟩ := h
    rfl
  · obtain ⟨p, dx, x, y, z, rfl, hp, q⟩ := h
    refine ⟨_, (pss_cons (ps_fld (pv 0) (pv 1) rfl)
      (pss_cons (ps_fld (pv 0) (pv 2) rfl)
      (pss_one (ps_fld (pv 0) (pv 3) rfl)))), ?_⟩
    refine ⟨_, rfl, _, rfl, p, C, dx, _, rfl, hp, S.cl, S.nN, (show 0 < 1000 by decide), _, rfl, _, rfl, p, C, dx, _, rfl, upd_same, S.cl, S.nR, (show 1 < 1000 by decide), _, rfl, _, rfl, p, C, dx, _, rfl, upd_same, S.cl, S.nS, ?_, ?_⟩
    · rw [fl2]; decide
    · rw [upd_upd, upd_upd]; exact q
abbrev s_ful : Stmt := inClass (topS 35) 1
theorem sc_ful : FnScope ["self", "numbers", "factors", "constant", "modulus"] ["self", "numbers"] (defScope s_ful) := ⟨rfl, rfl, rfl, by decide +kernel, rfl, by decide +kernel, by decide +kernel⟩
theorem ok_ful {f C : Addr} {fd : FuncData} (F : Fun K "fulfils" "System.fulfils" s_ful f fd) (S : Sys K mg C) (T : Bl mg) (D_dot : DefG P w K mg base 1 "dot" ["row", "other"] (spDot K)) : FnG P w K mg base CX0 2 f fd ["self", "numbers"] (spFul K C) := by
  refine okG F sc_ful (fun vs H Q E h => ?_) fun cdv A outer s H vs Q E hr hc h => ?_
  · obtain ⟨s, dx, a, b, t, x, xs, ys, rows, rests, ms, rfl, _⟩ := h
    rfl
  · obtain ⟨p, dx, a, b, t, x, xs, ys, rows, rests, ms, rfl, hp, hA, rA, hB, rB, hT, hm, l1, l2, fR, fS, q⟩ := h
    have nd := sc_ful.nd
    refine ⟨_, (pss_cons (ps_if (pt_val (pe_callB (cr_any rfl) (by rfl) T.any boot_any (pa_cons (pe_lc (own := [("factors", 2), ("constant", 3)]) (g := (gTup K 2 (gCons (gName 2) (gCons (gName 3) gNil)))) (tt := tYes) rfl nd (pi_tup (pe_fld (pv 0) rfl)) (blkOk_by (own := [("factors", 2), ("constant", 3)]) (N := ["self", "numbers", "factors", "constant", "modulus"]) (sc := defScope s_ful) (by decide +kernel)) (fun _ _ _ _ _ => (pg_tup rfl (pgs_cons (pg_name (i := 2) nd rfl (by first | exact Or.inl rfl | exact Or.inr rfl)) (pgs_cons (pg_name (i := 3) nd rfl (by first | exact Or.inl rfl | exact Or.inr rfl)) pgs_nil)))) (fun _ _ _ _ _ => pts_nil) (fun _ _ _ _ _ => (pe_cmpR op_ne (pe_def D_dot (hr.mono (by decide)) hc (by rfl) (pa_cons (pv 2) (pa_cons (pv 1) pa_nil))) (pv 3) (nomark _)))) pa_nil)))
        (pss_one (ps_ret pe_bl))
        pss_nil)
      (pss_one (ps_ret (pe_not (pe_callB (cr_anyI rfl) (by rfl) T.any boot_any (pa_cons (pe_lc (own := [("factors", 2), ("constant", 3), ("modulus", 4)]) (g := (gTup K 3 (gCons (gName 2) (gCons (gName 3) (gCons (gName 4) gNil))))) (tt := tYes) rfl nd (pi_tup (pe_fld (pv 0) rfl)) (blkOk_by (own := [("factors", 2), ("constant", 3), ("modulus", 4)]) (N := ["self", "numbers", "factors", "constant", "modulus"]) (sc := defScope s_ful) (by decide +kernel)) (fun _ _ _ _ _ => (pg_tup rfl (pgs_cons (pg_name (i := 2) nd rfl (by first | exact Or.inl rfl | exact Or.inr rfl)) (pgs_cons (pg_name (i := 3) nd rfl (by first | exact Or.inl rfl | exact Or.inr rfl)) (pgs_cons (pg_name (i := 4) nd rfl (by first | exact Or.inl rfl | exact Or.inr rfl)) pgs_nil))))) (fun _ _ _ _ _ => pts_nil) (fun _ _ _ _ _ => (pe_op op_mod (pe_op op_sub (pe_def D_dot (hr.mono (by decide)) hc (by rfl) (pa_cons (pv 2) (pa_cons (pv 1) pa_nil))) (pv 3)) (pv 4)))) pa_nil)))))), ?_⟩
    refine ⟨_, rfl, p, C, dx, _, _, rfl, hp, S.cl, S.nR, f_rows _ _ _, a, rfl, ⟨_, hA⟩, fun D nD => ?_⟩
    refine lc_tup (K := K) (a := a) (xs := xs) (fun i H2 => Same H H2 ∧ H2 D = some (.lst (((rows.take i).map fun r => !okRow ms r).map V.bl))) ⟨Same.new nD, upd_same⟩ (fun i H2 _ h => Same.tup h.1 hA) ?_ ?_
    · rintro i y H2 hi ⟨s2, hD⟩
      obtain ⟨k1, k2, fs, c, rfl, hk1, hk2, hr2⟩ := (rA.to (tups_same s2)).get hi
      have fr : Fine ms.length fs ∧ -41 ≤ c ∧ c ≤ 41 := fR _ (List.mem_of_getElem? hr2)
      have il := (List.getElem?_eq_some_iff.mp hr2).1
      refine ⟨k1, _, rfl, tofT hk1, rfl, _, _, rfl, _, _, rfl, rfl, rfl, ?_⟩
      refine ⟨_, rfl, _, rfl, k2, t, fs, ms, rfl, tofT hk2, Same.tup s2 hT, fr.1.1, by have := fr.1.1; omega, fr.1.small, fun H3 s3 => ⟨_, rfl, rfl, _, s3 _ _ hD, ?_, ?_, ?_⟩⟩
      · rw [List.length_map, List.length_map, List.length_take]; exact smallt (by omega)
      · intro u o hu
        rw [upd_ne (ne_of_none hu nD)]
        exact s3 _ _ (s2 _ _ hu)
      · rw [upd_same, List.take_add_one, hr2, dec_int, List.map_append, List.map_append]
        rfl
    · rintro H2 ⟨s2, hD⟩
      rw [rA.len, List.take_length] at hD
      refine ⟨D, _, rfl, tofL hD, _, rfl, ?_⟩
      rw [any_not]
      refine ite2 (fun e => ?_) (fun e => ?_)
      · have z : dueB rows rests ms = false := by
          unfold dueB
          cases h : rows.all (okRow ms) with
          | true => rw [h] at e; exact absurd e (by decide)
          | false => rfl
        have q2 := q H2 s2
        rw [z] at q2
        exact q2
      · have e1 : rows.all (okRow ms) = true := by
          cases h : rows.all (okRow ms) with
          | true => rfl
          | false => rw [h] at e; exact absurd rfl e
        refine ⟨_, rfl, p, C, dx, _, _, rfl, s2 _ _ hp, S.cl, S.nS, f_rests _ _ _, b, rfl, ⟨_, Same.tup s2 hB⟩, fun D2 nD2 => ?_⟩
        refine lc_tup (K := K) (a := b) (xs := ys) (fun i H3 => Same H2 H3 ∧ H3 D2 = some (.lst (((rests.take i).map fun r => (dotI r.1 ms - r.2.1) % r.2.2).map V.int))) ⟨Same.new nD2, upd_same⟩ (fun i H3 _ h => Same.tup h.1 (Same.tup s2 hB)) ?_ ?_
        · rintro i y H3 hi ⟨s3, hD2⟩
          obtain ⟨k1, k2, fs, c, m, rfl, hk1, hk2, hr2⟩ := (rB.to (tups_same (s2.trans s3))).get hi
          have fr : Fine ms.length fs ∧ (-41 ≤ c ∧ c ≤ 41) ∧ 2 ≤ m ∧ m ≤ 12 := fS _ (List.mem_of_getElem? hr2)
          have hm0 : (0 : Int) < m := by have := fr.2.2.1; omega
          have il := (List.getElem?_eq_some_iff.mp hr2).1
          refine ⟨k1, _, rfl, tofT hk1, rfl, _, _, rfl, _, _, rfl, _, _, rfl, rfl, rfl, ?_⟩
          refine ⟨_, rfl, _, rfl, k2, t, fs, ms, rfl, tofT hk2, Same.tup (s2.trans s3) hT, fr.1.1, by have := fr.1.1; omega, fr.1.small, fun H4 s4 => ⟨_, rfl, _, _, rfl, rfl, _, rfl, _, _, rfl, rfl, hm0, _, s4 _ _ hD2, ?_, ?_, ?_⟩⟩
          · rw [List.length_map, List.length_map, List.length_take]; exact smallt (by omega)
          · intro u o hu
            rw [upd_ne (ne_of_none hu nD2)]
            exact s4 _ _ (s3 _ _ hu)
          · rw [upd_same, List.take_add_one, hr2, List.map_append, List.map_append]
            rfl
        · rintro H3 ⟨s3, hD2⟩
          rw [rB.len, List.take_length] at hD2
          refine ⟨D2, _, rfl, tofL hD2, _, rfl, ?_⟩
          rw [any_rest, Bool.not_not]
          have z : dueB rows rests ms = rests.all (okRst ms) := by unfold dueB; rw [e1, Bool.true_and]
          rw [← z]
          exact q H3 (s2.trans s3)
end
end NK29
namespace NK29
open PySem PySem.Spec PyProof.Rows L2 GL RZ G3
inductive MvAt (H : Hp) : List V → List (List Int) → Prop
  | nil : MvAt H [] []
  | cons {p : Addr} {mv : List Int} {xs : List V} {ms : List (List Int)} : H p = some (.tup (mv.map V.int)) → MvAt H xs ms → MvAt H (.ref p :: xs) (mv :: ms)
theorem MvAt.len {H : Hp} : ∀ {xs : List V} {ms : List (List Int)}, MvAt H xs ms → xs.length = ms.length
  | _, _, .nil => rfl
  | _, _, .cons _ t => congrArg Nat.succ t.len
theorem MvAt.to {H H' : Hp} (k : ∀ a xs, H a = some (.tup xs) → H' a = some (.tup xs)) : ∀ {xs : List V} {ms : List (List Int)}, MvAt H xs ms → MvAt H' xs ms
  | _, _, .nil => .nil
  | _, _, .cons a t => .cons (k _ _ a) (t.to k)
theorem MvAt.snoc {H : Hp} {p : Addr} {mv : List Int} (h : H p = some (.tup (mv.map V.int))) : ∀ {xs : List V} {ms : List (List Int)}, MvAt H xs ms → MvAt H (xs ++ [.ref p]) (ms ++ [mv])
  | _, _, .nil => .cons h .nil
  | _, _, .cons a t => .cons a (t.snoc h)
theorem MvAt.get {H : Hp} : ∀ {xs : List V} {ms : List (List Int)} {i : Nat} {x : V}, MvAt H xs ms → xs[i]? = some x → ∃ p mv, x = .ref p ∧ H p = some (.tup (mv.map V.int)) ∧ ms[i]? = some mv
  | _, _, _, _, .nil, e => by cases e
  | _, _, 0, _, .cons a t, e => by cases e; exact ⟨_, _, rfl, a, rfl⟩
  | _, _, i + 1, _, .cons a t, e => MvAt.get (i := i) t (by simpa using e)
def SysRaw (K : PySem.W.Frag) (C : Addr) (H : Hp) (a : Addr) (n : Nat) (rows : List Row) (rests : List Rst) : Prop :=
  ∃ (dx tn tr ts : Addr) (ns : List Str) (xs ys : List V), H a = some (.ins C dx (flds (.ref tn) (.ref tr) (.ref ts))) ∧ SqT K H tn (ns.map V.str) ∧ ns.length = n ∧ SqT K H tr xs ∧ RowsAt H xs rows ∧ SqT K H ts ys ∧ RestsAt H ys rests
theorem SysRaw.kp {K : PySem.W.Frag} {C : Addr} {H H' : Hp} {a : Addr} {n : Nat} {rows : List Row} {rests : List Rst} (h : SysRaw K C H a n rows rests) (k : Kp H H') : SysRaw K C H' a n rows rests := by
  obtain ⟨dx, tn, tr, ts, ns, xs, ys, h1, h2, h3, h4, h5, h6, h7⟩ := h
  exact ⟨dx, tn, tr, ts, ns, xs, ys, k.ins h1, k.tup h2, h3, k.tup h4, h5.to k.tups, k.tup h6, h7.to k.tups⟩
def SysN (K : PySem.W.Frag) (C : Addr) (H : Hp) (a : Addr) (ns : List Str) (rows : List Row) (rests : List Rst) : Prop :=
  ∃ (dx tn tr ts : Addr) (xs ys : List V), H a = some (.ins C dx (flds (.ref tn) (.ref tr) (.ref ts))) ∧ SqZ K H tn (ns.map V.str) ∧ SqT K H tr xs ∧ RowsAt H xs rows ∧ SqT K H ts ys ∧ RestsAt H ys rests
theorem SysN.kp {K : PySem.W.Frag} {C : Addr} {H H' : Hp} {a : Addr} {ns : List Str} {rows : List Row} {rests : List Rst} (h : SysN K C H a ns rows rests) (k : Kp H H') : SysN K C H' a ns rows rests := by
  obtain ⟨dx, tn, tr, ts, xs, ys, h1, h2, h4, h5, h6, h7⟩ := h
  exact ⟨dx, tn, tr, ts, xs, ys, k.ins h1, k.z h2, k.tup h4, h5.to k.tups, k.tup h6, h7.to k.tups⟩
theorem SysN.raw {K : PySem.W.Frag} {C : Addr} {H : Hp} {a : Addr} {ns : List Str} {rows : List Row} {rests : List Rst} (h : SysN K C H a ns rows rests) : SysRaw K C H a ns.length rows rests := by
  obtain ⟨dx, tn, tr, ts, xs, ys, h1, h2, h4, h5, h6, h7⟩ := h
  exact ⟨dx, tn, tr, ts, ns, xs, ys, h1, h2.t, rfl, h4, h5, h6, h7⟩
def made (H : Hp) (C x dx : Addr) (a b c : V) : Hp := upd (upd (upd H dx (.own x)) x (.ins C dx [])) x (.ins C dx (flds a b c))
theorem made_same {C : Addr} {H : Hp} {x dx : Addr} {a b c : V} (nx : H x = none) (ndx : H dx = none) (ne : dx ≠ x) : Same H (made H C x dx a b c) := by
  unfold made
  rw [upd_upd]
  exact (Same.new ndx).trans (Same.new (by rw [upd_ne ne.symm]; exact nx))
def FormAt (H : Hp) (a : Addr) (F : Int) (wh : List Nat) (mvs : List (List Int)) : Prop :=
  ∃ (tw tm : Addr) (xs : List V), H a = some (.tup [.int F, .ref tw, .ref tm]) ∧ H tw = some (.tup ((wh.map fun x : Nat => (x : Int)).map V.int)) ∧ H tm = some (.tup xs) ∧ MvAt H xs mvs
theorem FormAt.kp {H H' : Hp} {a : Addr} {F : Int} {wh : List Nat} {mvs : List (List Int)} (h : FormAt H a F wh mvs) (k : Kp H H') : FormAt H' a F wh mvs := by
  obtain ⟨tw, tm, xs, h1, h2, h3, h4⟩ := h
  exact ⟨tw, tm, xs, k.tups _ _ h1, k.tups _ _ h2, k.tups _ _ h3, h4.to k.tups⟩
def OkR (n : Nat) (lots : List (List Int)) (rows : List Row) : Prop := rows.length ≤ 100 ∧ ∀ r ∈ rows, r.1 ∈ lots ∧ Fine n r.1 ∧ -41 ≤ r.2 ∧ r.2 ≤ 41
def OkM (n : Nat) (marks : List Rst) : Prop := marks.length ≤ 100 ∧ FineS n marks
theorem canLay_ints (ns : List Int) : PyData.canLay0 (.list (ns.map PyData.int)) = true := lay_ints ns
theorem eqv_ints_self (ns : List Int) : PyData.eqv (.list (ns.map PyData.int)) (.list (ns.map PyData.int)) = true := PySem.SeqAt.eqv_refl _ (canLay_ints ns)
theorem cut_take (xs : List V) (k : Nat) : cutV xs none (some (k : Int)) = xs.take k := by
  unfold cutV
  rw [HT.sIx_none, HT.sIx_nat, List.drop_zero, Nat.sub_zero]
  by_cases h : k ≤ xs.length
  · rw [Nat.min_eq_left h]
  · rw [Nat.min_eq_right (by omega), List.take_length, List.take_of_length_le (by omega)]
theorem take_front {col : List Int} {f : Nat} {F : Int} (h0 : ∀ j, j < f → col[j]? = some 0) (h1 : col[f]? = some F) : col.take (f + 1) = List.replicate f 0 ++ [F] := by
  have e : col.take f = List.replicate f 0 := by
    refine List.ext_getElem? fun i => ?_
    rw [List.getElem?_take, List.getElem?_replicate]
    by_cases hi : i < f
    · rw [if_pos hi, if_pos hi]; exact h0 i hi
    · rw [if_neg hi, if_neg hi]
  rw [List.take_add_one, e, h1]; rfl
def spIsI : Sp := fun vs H Q _ => ∃ i : Int, vs = [.int i] ∧ Q (.bl true) H
def spAre : Sp := fun vs H Q _ => ∃ (a : Addr) (ns : List Int), vs = [.ref a, .int (ns.length : Nat)] ∧ H a = some (.tup (ns.map V.int)) ∧ ns.length ≤ 1000 ∧ ∀ H', Same H H' → Q (.bl true) H'
def spWc (K : PySem.W.Frag) (C : Addr) : Sp := fun vs H Q _ => ∃ (a : Addr) (n : Nat) (rows : List Row) (rests : List Rst), vs = [.ref a] ∧ SysRaw K C H a n rows rests ∧ rows.length ≤ 100 ∧ rests.length ≤ 100 ∧
  ∀ (p : Addr) (H' : Hp), Same H H' → SysRaw K C H' p n (rows.map fun r => (r.1, 0)) (rests.map fun r => (r.1, 0, r.2.2)) → Q (.ref p) H'
def spMove (K : PySem.W.Frag) (C : Addr) : Sp := fun vs H Q _ => ∃ (a t : Addr) (n : Nat) (lots : List (List Int)) (rows : List Row) (marks : List Rst) (mv : List Int), vs = [.ref a, .ref t] ∧ SysRaw K C H a n rows marks ∧ OkR n lots rows ∧ OkM n marks ∧ n ≤ 100 ∧ H t = some (.tup (mv.map V.int)) ∧ mv.length = n ∧
  (∀ fs ∈ lots, dotI fs mv = 0) ∧ (∀ r ∈ marks, dotI r.1 mv % r.2.2 = 0) ∧ ∀ H', Same H H' → Q (.bl true) H'
def spFront : Sp := fun vs H Q _ => ∃ (f : Nat) (F : Int) (c : Addr) (col : List Int), vs = [.int (f : Int), .int F, .ref c] ∧ H c = some (.lst (col.map V.int)) ∧ col.length ≤ 100 ∧ (∀ j, j < f → col[j]? = some 0) ∧ col[f]? = some F ∧ ∀ H', Same H H' → Q (.bl true) H'
def spHolds (K : PySem.W.Frag) (C : Addr) : Sp := fun vs H Q _ => ∃ (a t : Addr) (n : Nat) (lots : List (List Int)) (rows : List Row) (marks : List Rst) (F : Int) (wh : List Nat) (mvs : List (List Int)), vs = [.ref a, .ref t] ∧ SysRaw K C H a n rows marks ∧ OkR n lots rows ∧ OkM n marks ∧ 1 ≤ n ∧ n ≤ 6 ∧ FormAt H t F wh mvs ∧ FOk n lots marks F wh mvs ∧ mvs.length ≤ 12 ∧
  ∀ H', Same H H' → Q (.bl true) H'
section
variable {P : Program} {w : World} {K : PySem.W.Frag} {mg : Str → Option Value} {base : Heap}
abbrev s_is_integer : Stmt := topS 13
theorem sc_is_integer : FnScope ["value"] ["value"] (defScope s_is_integer) := ⟨rfl, rfl, rfl, by decide +kernel, rfl, by decide +kernel, by decide +kernel⟩
theorem ok_is_integer {f : Addr} {fd : FuncData} (F : Fun K "is_integer" "is_integer" s_is_integer f fd) (gl : mg "is_integer" = some (.ref f)) (T : Bl mg) : DefG P w K mg base 1 "is_integer" ["value"] spIsI := by
  refine def_mk F gl (F.binds fun _ _ _ _ _ _ us hl => match us, hl with | [_], _ => rfl) (okG F sc_is_integer (fun vs H Q E h => ?_) fun cdv A outer s H vs Q E hr hc h => ?_)
  · obtain ⟨i, rfl, _⟩ := h
    rfl
  · obtain ⟨i, rfl, q⟩ := h
    have nd := sc_is_integer.nd
    refine ⟨_, (pss_one (ps_ret (pe_and (pe_callB call_isi (by rfl) T.isinstance boot_isinstance (pa_cons (pv 0) (pa_cons (pe_bltn (v := .ty "int") (by rfl) T.int boot_int rfl) pa_nil))) (pe_one (pe_not (pe_callB call_isi (by rfl) T.isinstance boot_isinstance (pa_cons (pv 0) (pa_cons (pe_bltn (v := .ty "bool") (by rfl) T.bool boot_bool rfl) pa_nil)))))))), ?_⟩
    refine ⟨_, rfl, _, _, _, _, _, rfl, .ty "int", .base (.int i), if_pos (by decide), _, rfl, ?_⟩
    rw [if_pos rfl]
    exact ⟨_, rfl, _, _, _, _, false, rfl, .ty "bool", .base (.int i), kit_ty (by decide +kernel), _, rfl, q⟩
abbrev s_are_integers : Stmt := topS 14
theorem sc_are_integers : FnScope ["value", "count", "entry"] ["value", "count"] (defScope s_are_integers) := ⟨rfl, rfl, rfl, by decide +kernel, rfl, by decide +kernel, by decide +kernel⟩
theorem ok_are_integers {f : Addr} {fd : FuncData} (F : Fun K "are_integers" "are_integers" s_are_integers f fd) (gl : mg "are_integers" = some (.ref f)) (T : Bl mg) (D_is_integer : DefG P w K mg base 1 "is_integer" ["value"] spIsI) : DefG P w K mg base 2 "are_integers" ["value", "count"] spAre := by
  refine def_mk F gl (F.binds fun _ _ _ _ _ _ us hl => match us, hl with | [_, _], _ => rfl) (okG F sc_are_integers (fun vs H Q E h => ?_) fun cdv A outer s H vs Q E hr hc h => ?_)
  · obtain ⟨a, ns, rfl, _⟩ := h
    rfl
  · obtain ⟨a, ns, rfl, ha, hl, q⟩ := h
    have nd := sc_are_integers.nd
    refine ⟨_, (pss_one (ps_ret (pe_and (pe_callB call_isi (by rfl) T.isinstance boot_isinstance (pa_cons (pv 0) (pa_cons (pe_bltn (v := .ty "tuple") (by rfl) T.tuple boot_tuple rfl) pa_nil))) (pe_and (pe_cmpR op_eq (pe_callB call_len_seq (by rfl) T.len boot_len (pa_cons (pv 0) pa_nil)) (pv 1) (nomark _)) (pe_one (pe_callB (cr_all rfl) (by rfl) T.all boot_all (pa_cons (pe_lc (own := [("entry", 2)]) (g := (gName 2)) (tt := tYes) rfl nd (pi_tup (pv 0)) (blkOk_by (own := [("entry", 2)]) (N := ["value", "count", "entry"]) (sc := defScope s_are_integers) (by decide +kernel)) (fun _ _ _ _ _ => (pg_name (i := 2) nd rfl (by first | exact Or.inl rfl | exact Or.inr rfl))) (fun _ _ _ _ _ => pts_nil) (fun _ _ _ _ _ => (pe_def D_is_integer (hr.mono (by decide)) hc (by rfl) (pa_cons (pv 2) pa_nil)))) pa_nil))))))), ?_⟩
    refine ⟨_, rfl, _, _, _, _, _, rfl, .ty "tuple", .base (.tup ha), if_pos (by decide), _, rfl, ?_⟩
    rw [if_pos rfl]
    have e1 : ((ns.map V.int).length : Int) = (ns.length : Int) := by rw [List.length_map]
    refine ⟨_, rfl, a, _, rfl, .inr (tofT ha), _, rfl, rfl, _, rfl, ?_⟩
    rw [dec_int, decide_eq_true (by rw [e1]; exact Int.sub_self _), if_pos rfl]
    refine ⟨_, rfl, a, rfl, ⟨_, tofT ha⟩, fun D nD => ?_⟩
    refine lc_tup (K := K) (a := a) (xs := ns.map V.int) (fun i H2 => Same H H2 ∧ H2 D = some (.lst ((List.replicate i true).map V.bl))) ⟨Same.new nD, upd_same⟩ (fun i H2 _ h => tofT (h.1 _ _ ha)) ?_ ?_
    · rintro i x H2 hi ⟨s2, hD⟩
      obtain ⟨z, rfl, il⟩ := ints_at hi
      refine ⟨rfl, _, rfl, z, rfl, _, hD, ?_, ?_, ?_⟩
      · rw [List.length_map, List.length_replicate]; exact smallt (by omega)
      · intro c u hc'
        rw [upd_ne (ne_of_none hc' nD)]
        exact s2 _ _ hc'
      · rw [upd_same, List.replicate_succ', List.map_append]; rfl
    · rintro H2 ⟨s2, hD⟩
      refine ⟨D, _, rfl, tofL hD, ?_⟩
      rw [List.all_replicate, show ((if (List.map V.int ns).length = 0 then true else id true) : Bool) = true by split <;> rfl]
      exact q H2 s2
abbrev s_without_constants : Stmt := topS 37
theorem sc_without_constants : FnScope ["system", "rows", "factors", "_", "modulus"] ["system"] (defScope s_without_constants) := ⟨rfl, rfl, rfl, by decide +kernel, rfl, by decide +kernel, by decide +kernel⟩
theorem ok_without_constants {f C fI : Addr} {fd fdI : FuncData} (F : Fun K "without_constants" "without_constants" s_without_constants f fd) (gl : mg "without_constants" = some (.ref f)) (T : Bl mg) (S : Sys K mg C)
    (MK : Mk K C fI) (FI : FnG P w K mg base CX0 1 fI fdI ["self", "names", "rows", "rests"] (spInit C)) (BI : Binds K fdI ["self", "names", "rows", "rests"] []) : DefG P w K mg base 3 "without_constants" ["system"] (spWc K C) := by
  refine def_mk F gl (F.binds fun _ _ _ _ _ _ us hl => match us, hl with | [_], _ => rfl) (okG F sc_without_constants (fun vs H Q E h => ?_) fun cdv A outer s H vs Q E hr hc h => ?_)
  · obtain ⟨a, n, rows, rests, rfl, _⟩ := h
    rfl
  · obtain ⟨a, n, rows, rests, rfl, hs, l1, l2, q⟩ := h
    have nd := sc_without_constants.nd
    refine ⟨_, (pss_cons (ps_set (i := 1) nd rfl (by first | exact Or.inl rfl | exact Or.inr rfl) (pe_tupleOf (by rfl) T.tuple (pe_lc (own := [("factors", 2), ("_", 3)]) (g := (gTup K 2 (gCons (gName 2) (gCons (gName 3) gNil)))) (tt := tYes) rfl nd (pi_tup (pe_fld (pv 0) rfl)) (blkOk_by (own := [("factors", 2), ("_", 3)]) (N := ["system", "rows", "factors", "_", "modulus"]) (sc := defScope s_without_constants) (by decide +kernel)) (fun _ _ _ _ _ => (pg_tup rfl (pgs_cons (pg_name (i := 2) nd rfl (by first | exact Or.inl rfl | exact Or.inr rfl)) (pgs_cons (pg_name (i := 3) nd rfl (by first | exact Or.inl rfl | exact Or.inr rfl)) pgs_nil)))) (fun _ _ _ _ _ => pts_nil) (fun _ _ _ _ _ => (pe_tup (pa_cons (pv 2) (pa_cons pe_int pa_nil)))))))
      (pss_one (ps_ret (pe_makeG MK FI (hr.mono (by decide)) hc (by rfl) S.mgC BI .nil pass0 (pa_cons (pe_fld (pv 0) rfl) (pa_cons (pv 1) (pa_cons (pe_tupleOf (by rfl) T.tuple (pe_lc (own := [("factors", 2), ("_", 3), ("modulus", 4)]) (g := (gTup K 3 (gCons (gName 2) (gCons (gName 3) (gCons (gName 4) gNil))))) (tt := tYes) rfl nd (pi_tup (pe_fld (pv 0) rfl)) (blkOk_by (own := [("factors", 2), ("_", 3), ("modulus", 4)]) (N := ["system", "rows", "factors", "_", "modulus"]) (sc := defScope s_without_constants) (by decide +kernel)) (fun _ _ _ _ _ => (pg_tup rfl (pgs_cons (pg_name (i := 2) nd rfl (by first | exact Or.inl rfl | exact Or.inr rfl)) (pgs_cons (pg_name (i := 3) nd rfl (by first | exact Or.inl rfl | exact Or.inr rfl)) (pgs_cons (pg_name (i := 4) nd rfl (by first | exact Or.inl rfl | exact Or.inr rfl)) pgs_nil))))) (fun _ _ _ _ _ => pts_nil) (fun _ _ _ _ _ => (pe_tup (pa_cons (pv 2) (pa_cons pe_int (pa_cons (pv 4) pa_nil))))))) pa_nil))))))), ?_⟩
    obtain ⟨dx, tn, tr, ts, ns, xs, ys, h1, h2, h3, h4, h5, h6, h7⟩ := hs
    refine ⟨_, rfl, a, C, dx, _, _, rfl, h1, S.cl, S.nR, f_rows _ _ _, tr, rfl, ⟨_, h4⟩, fun D nD => ?_⟩
    refine lc_tup (K := K) (a := tr) (xs := xs) (fun i H2 => Same H H2 ∧ ∃ zs, H2 D = some (.lst zs) ∧ RowsAt H2 zs ((rows.take i).map fun r => (r.1, (0 : Int)))) ⟨Same.new nD, [], upd_same, .nil⟩ (fun i H2 _ h => Same.tup h.1 h4) ?_ ?_
    · rintro i y H2 hi ⟨s2, zs, hD, hZ⟩
      obtain ⟨k1, k2, fs, c, rfl, hk1, hk2, hr2⟩ := (h5.to (tups_same s2)).get hi
      have il := (List.getElem?_eq_some_iff.mp hr2).1
      have zl := hZ.len
      rw [List.length_map, List.length_take] at zl
      refine ⟨k1, _, rfl, tofT hk1, rfl, _, _, rfl, _, _, rfl, rfl, rfl, ?_⟩
      refine ⟨_, rfl, (show 2 ≤ sizeLine from small (by decide)), fun t nt => ?_⟩
      have nDt : D ≠ t := ne_of_none hD nt
      have sn := Same.new (o := .tup [.ref k2, .int 0]) nt
      refine ⟨zs, sn _ _ hD, by rw [zl]; exact smallt (by omega), ?_, zs ++ [.ref t], upd_same, ?_⟩
      · intro c u hc'
        rw [upd_ne (ne_of_none hc' nD)]
        exact sn _ _ (s2 _ _ hc')
      · have kt : ∀ b us, H2 b = some (.tup us) → upd (upd H2 t (.tup [.ref k2, .int 0])) D (.lst (zs ++ [.ref t])) b = some (.tup us) := fun b us hb => by
          rw [upd_ne (fun e => by rw [e, hD] at hb; cases hb)]
          exact sn _ _ hb
        rw [List.take_add_one, hr2, List.map_append]
        exact (hZ.to kt).snoc (by rw [upd_ne nDt.symm]; exact upd_same) (kt _ _ hk2)
    · rintro H2 ⟨s2, zs, hD, hZ⟩
      rw [h5.len, List.take_length] at hZ
      refine .inl ⟨D, _, rfl, tofL hD, fun tr2 nt => ?_⟩
      have s3 : Same H (upd H2 tr2 (.tup zs)) := s2.trans (Same.new nt)
      have ht : upd H2 tr2 (.tup zs) tr2 = some (.tup zs) := upd_same
      have hZ3 := hZ.to (tups_same (Same.new (o := .tup zs) nt))
      revert s3 ht hZ3
      generalize upd H2 tr2 (.tup zs) = H3
      intro s3 ht hZ3
      refine ⟨_, rfl, a, C, dx, _, _, rfl, s3 _ _ h1, S.cl, S.nN, f_names _ _ _, _, rfl, _, rfl, a, C, dx, _, _, rfl, s3 _ _ h1, S.cl, S.nS, f_rests _ _ _, ts, rfl, ⟨_, Same.tup s3 h6⟩, fun D2 nD2 => ?_⟩
      refine lc_tup (K := K) (a := ts) (xs := ys) (fun i H4 => Same H3 H4 ∧ ∃ us, H4 D2 = some (.lst us) ∧ RestsAt H4 us ((rests.take i).map fun r => (r.1, (0 : Int), r.2.2))) ⟨Same.new nD2, [], upd_same, .nil⟩ (fun i H4 _ h => Same.tup (s3.trans h.1) h6) ?_ ?_
      · rintro i y H4 hi ⟨s4, us, hD2, hU⟩
        obtain ⟨k1, k2, fs, c, m, rfl, hk1, hk2, hr2⟩ := (h7.to (tups_same (s3.trans s4))).get hi
        have il := (List.getElem?_eq_some_iff.mp hr2).1
        have ul := hU.len
        rw [List.length_map, List.length_take] at ul
        refine ⟨k1, _, rfl, tofT hk1, rfl, _, _, rfl, _, _, rfl, _, _, rfl, rfl, rfl, ?_⟩
        refine ⟨_, rfl, _, rfl, (show 3 ≤ sizeLine from small (by decide)), fun t nt => ?_⟩
        have nDt : D2 ≠ t := ne_of_none hD2 nt
        have sn := Same.new (o := .tup [.ref k2, .int 0, .int m]) nt
        refine ⟨us, sn _ _ hD2, by rw [ul]; exact smallt (by omega), ?_, us ++ [.ref t], upd_same, ?_⟩
        · intro c u hc'
          rw [upd_ne (ne_of_none hc' nD2)]
          exact sn _ _ (s4 _ _ hc')
        · have kt : ∀ b vs, H4 b = some (.tup vs) → upd (upd H4 t (.tup [.ref k2, .int 0, .int m])) D2 (.lst (us ++ [.ref t])) b = some (.tup vs) := fun b vs hb => by
            rw [upd_ne (fun e => by rw [e, hD2] at hb; cases hb)]
            exact sn _ _ hb
          rw [List.take_add_one, hr2, List.map_append]
          exact (hU.to kt).snoc (by rw [upd_ne nDt.symm]; exact upd_same) (kt _ _ hk2)
      · rintro H4 ⟨s4, us, hD2, hU⟩
        rw [h7.len, List.take_length] at hU
        refine .inl ⟨D2, _, rfl, tofL hD2, fun ts2 nts => ?_⟩
        have s5 : Same H3 (upd H4 ts2 (.tup us)) := s4.trans (Same.new nts)
        have ht5 : upd H4 ts2 (.tup us) ts2 = some (.tup us) := upd_same
        have hU5 := hU.to (tups_same (Same.new (o := .tup us) nts))
        revert s5 ht5 hU5
        generalize upd H4 ts2 (.tup us) = H5
        intro s5 ht5 hU5
        refine fun x dx' nx ndx ne => ⟨x, dx', _, _, _, rfl, upd_same, rfl, ?_⟩
        have sm := made_same (C := C) (a := .ref tn) (b := .ref tr2) (c := .ref ts2) nx ndx ne
        have sall := (s3.trans s5).trans sm
        exact q x _ sall ⟨dx', tn, tr2, ts2, ns, zs, us, upd_same, Same.tup sall h2, h3, tofT (sm _ _ (s5 _ _ ht)), hZ3.to (tups_same (s5.trans sm)), tofT (sm _ _ ht5), hU5.to (tups_same sm)⟩
end
end NK29
namespace NK29
open PySem PySem.Spec PyProof.Rows L2 GL RZ G3
section
variable {P : Program} {w : World} {K : PySem.W.Frag} {mg : Str → Option Value} {base : Heap}
abbrev s_is_move : Stmt := topS 46
theorem sc_is_move : FnScope ["system", "thing"] ["system", "thing"] (defScope s_is_move) := ⟨rfl, rfl, rfl, by decide +kernel, rfl, by decide +kernel, by decide +kernel⟩
theorem ok_is_move {f C fF : Addr} {fd fdF : FuncData} (F : Fun K "is_move" "is_move" s_is_move f fd) (gl : mg "is_move" = some (.ref f)) (T : Bl mg) (S : Sys K mg C)
    (D_are_integers : DefG P w K mg base 2 "are_integers" ["value", "count"] spAre) (D_without_constants : DefG P w K mg base 3 "without_constants" ["system"] (spWc K C))
    (MF : Meth K C "fulfils" fF) (FF : FnG P w K mg base CX0 2 fF fdF ["self", "numbers"] (spFul K C)) (BF : Binds K fdF ["self", "numbers"] []) : DefG P w K mg base 4 "is_move" ["system", "thing"] (spMove K C) := by
  refine def_mk F gl (F.binds fun _ _ _ _ _ _ us hl => match us, hl with | [_, _], _ => rfl) (okG F sc_is_move (fun vs H Q E h => ?_) fun cdv A outer s H vs Q E hr hc h => ?_)
  · obtain ⟨a, t, n, lots, rows, marks, mv, rfl, _⟩ := h
    rfl
  · obtain ⟨a, t, n, lots, rows, marks, mv, rfl, hs, oR, oM, hn, ht, hl, hd, hm, q⟩ := h
    have nd := sc_is_move.nd
    refine ⟨_, (pss_one (ps_ret (pe_and (pe_def D_are_integers (hr.mono (by decide)) hc (by rfl) (pa_cons (pv 1) (pa_cons (pe_callB call_len_seq (by rfl) T.len boot_len (pa_cons (pe_fld (pv 0) rfl) pa_nil)) pa_nil))) (pe_one (pe_methG (pe_def D_without_constants (hr.mono (by decide)) hc (by rfl) (pa_cons (pv 0) pa_nil)) S.cl MF FF (hr.mono (by decide)) hc BF .nil pass0 (pa_cons (pv 1) pa_nil)))))), ?_⟩
    obtain ⟨dx, tn, tr, ts, ns, xs, ys, h1, h2, h3, h4, h5, h6, h7⟩ := id hs
    refine ⟨_, rfl, _, rfl, a, C, dx, _, _, rfl, h1, S.cl, S.nN, f_names _ _ _, tn, _, rfl, .inr h2, ?_⟩
    rw [show ((ns.map V.str).length : Int) = (mv.length : Nat) by rw [List.length_map, h3, hl]]
    refine ⟨t, mv, rfl, ht, by omega, fun H1 s1 => ⟨_, rfl, ?_⟩⟩
    rw [if_pos rfl]
    refine ⟨_, rfl, a, n, rows, marks, rfl, hs.kp (Kp.of s1), oR.1, oM.1, fun p H2 s2 hp => ?_⟩
    obtain ⟨dx', tn', tr', ts', ns', xs', ys', g1, g2, g3, g4, g5, g6, g7⟩ := hp
    refine ⟨p, dx', _, rfl, g1, f_no _ _ _ (by decide +kernel) (by decide +kernel) (by decide +kernel), _, rfl, ?_⟩
    refine ⟨p, dx', tr', ts', t, _, xs', ys', _, _, mv, rfl, g1, g4, g5, g6, g7, tofT ((s1.trans s2) _ _ ht), by omega, by rw [List.length_map]; exact oR.1, by rw [List.length_map]; exact oM.1, fun r hr => ?_, fun r hr => ?_, fun H3 s3 => ?_⟩
    · obtain ⟨r0, hr0, rfl⟩ := List.mem_map.mp hr
      rw [hl]
      exact ⟨(oR.2 r0 hr0).2.1, (show (-41 : Int) ≤ 0 by decide), (show (0 : Int) ≤ 41 by decide)⟩
    · obtain ⟨r0, hr0, rfl⟩ := List.mem_map.mp hr
      rw [hl]
      have := oM.2 r0 hr0
      exact ⟨this.1, ⟨(show (-41 : Int) ≤ 0 by decide), (show (0 : Int) ≤ 41 by decide)⟩, this.2.2⟩
    · have e : dueB (rows.map fun r => (r.1, (0 : Int))) (marks.map fun r => (r.1, (0 : Int), r.2.2)) mv = true := by
        unfold dueB
        rw [Bool.and_eq_true, List.all_eq_true, List.all_eq_true]
        refine ⟨fun r hr => ?_, fun r hr => ?_⟩
        · obtain ⟨r0, hr0, rfl⟩ := List.mem_map.mp hr
          refine decide_eq_true ?_
          rw [hd _ (oR.2 r0 hr0).1]; rfl
        · obtain ⟨r0, hr0, rfl⟩ := List.mem_map.mp hr
          refine decide_eq_true ?_
          rw [Int.sub_zero]
          exact hm r0 hr0
      rw [e]
      exact q H3 ((s1.trans s2).trans s3)
abbrev s_is_front : Stmt := topS 51
theorem sc_is_front : FnScope ["front", "factor", "column"] ["front", "factor", "column"] (defScope s_is_front) := ⟨rfl, rfl, rfl, by decide +kernel, rfl, by decide +kernel, by decide +kernel⟩
theorem ok_is_front {f : Addr} {fd : FuncData} (F : Fun K "_is_front" "_is_front" s_is_front f fd) (gl : mg "_is_front" = some (.ref f)) (T : Bl mg) : DefG P w K mg base 1 "_is_front" ["front", "factor", "column"] spFront := by
  refine def_mk F gl (F.binds fun _ _ _ _ _ _ us hl => match us, hl with | [_, _, _], _ => rfl) (okG F sc_is_front (fun vs H Q E h => ?_) fun cdv A outer s H vs Q E hr hc h => ?_)
  · obtain ⟨k, Fa, c, col, rfl, _⟩ := h
    rfl
  · obtain ⟨k, Fa, c, col, rfl, hC, hl, h0, hF, q⟩ := h
    have nd := sc_is_front.nd
    have hu64 := hr.units
    have kl := (List.getElem?_eq_some_iff.mp hF).1
    refine ⟨_, (pss_one (ps_ret (pe_and (pe_chain op_le op_lt pe_int (pv 0) (pe_callB call_len_seq (by rfl) T.len boot_len (pa_cons (pv 2) pa_nil))) (pe_one (pe_cmpR (op_eqD hu64) (pe_slice sl_list (pv 2) po_none (po_some (pe_op op_add (pv 0) pe_int))) (pe_op op_cat (pe_op op_rep (pe_lst (pa_cons pe_int pa_nil)) (pv 0)) (pe_lst (pa_cons (pv 1) pa_nil))) (nomark _)))))), ?_⟩
    refine ⟨_, rfl, _, _, rfl, rfl, _, rfl, ?_⟩
    rw [decide_eq_true (show (0 : Int) ≤ (k : Int) by omega), if_pos rfl]
    refine ⟨_, rfl, c, _, rfl, .inl (tofL hC), _, _, rfl, rfl, _, rfl, ?_⟩
    rw [decide_eq_true (show (k : Int) < ((col.map V.int).length : Nat) by rw [List.length_map]; omega), if_pos rfl]
    refine ⟨_, rfl, _, rfl, _, _, rfl, rfl, _, rfl, c, _, rfl, tofL hC, fun p1 n1 => ?_⟩
    have ec : cutV (col.map V.int) none (some ((k : Int) + 1)) = (List.replicate k (0 : Int) ++ [Fa]).map V.int := by
      rw [show ((k : Int) + 1) = ((k + 1 : Nat) : Int) by omega, cut_take, ← List.map_take, take_front h0 hF]
    rw [ec]
    have x1 : upd H p1 (.lst ((List.replicate k (0 : Int) ++ [Fa]).map V.int)) p1 = _ := upd_same
    have s1 : Same H (upd H p1 (.lst ((List.replicate k (0 : Int) ++ [Fa]).map V.int))) := Same.new n1
    generalize upd H p1 (.lst ((List.replicate k (0 : Int) ++ [Fa]).map V.int)) = H1 at *
    refine ⟨(show 1 ≤ sizeLine from small (by decide)), fun p2 n2 => ⟨_, rfl, p2, k, _, rfl, rfl, upd_same, by omega, by omega, small (by rw [Int.toNat_natCast, List.length_singleton]; omega), fun p3 n3 => ?_⟩⟩
    have s3 : Same H1 (upd (upd H1 p2 (.lst [.int 0])) p3 (.lst (List.replicate (k : Int).toNat [V.int 0]).flatten)) := (Same.new n2).trans (Same.new n3)
    have x3 : upd (upd H1 p2 (.lst [.int 0])) p3 (.lst (List.replicate (k : Int).toNat [V.int 0]).flatten) p3 = some (.lst ((List.replicate k (0 : Int)).map V.int)) := by
      rw [upd_same, Int.toNat_natCast, List.map_replicate, List.flatten_replicate_singleton]
    generalize upd (upd H1 p2 (.lst [.int 0])) p3 (.lst (List.replicate (k : Int).toNat [V.int 0]).flatten) = H3 at *
    refine ⟨_, rfl, (show 1 ≤ sizeLine from small (by decide)), fun p4 n4 => ?_⟩
    have s4 : Same H3 (upd H3 p4 (.lst [.int Fa])) := Same.new n4
    have x4 : upd H3 p4 (.lst [.int Fa]) p4 = some (.lst [.int Fa]) := upd_same
    generalize upd H3 p4 (.lst [.int Fa]) = H4 at *
    refine ⟨p3, p4, _, _, rfl, rfl, s4 _ _ x3, x4, small (by rw [List.length_map, List.length_replicate, List.length_singleton]; omega), fun p5 n5 => ?_⟩
    have s5 : Same H4 (upd H4 p5 (.lst ((List.replicate k (0 : Int)).map V.int ++ [.int Fa]))) := Same.new n5
    refine ⟨.list ((List.replicate k (0 : Int) ++ [Fa]).map PyData.int), .list ((List.replicate k (0 : Int) ++ [Fa]).map PyData.int), .lst (tofL (s5 _ _ (s4 _ _ (s3 _ _ x1)))) (dpa_ints _), .lst (xs := (List.replicate k (0 : Int) ++ [Fa]).map V.int) (tofL (by rw [upd_same, List.map_append]; rfl)) (dpa_ints _), shaped_ints _, shaped_ints _, ?_⟩
    rw [eqv_ints_self]
    exact q _ (s1.trans (s3.trans (s4.trans s5)))
end
end NK29
namespace NK29
open PySem PySem.Spec PyProof.Rows L2 GL RZ G3
theorem col_at {mvs : List (List Int)} {k f : Nat} {Fa : Int} {n : Nat} (hm : ∀ mv ∈ mvs, mv.length = n) (hk : k < n) {mv : List Int} (e1 : mvs[f]? = some mv) (e2 : mv[k]? = some Fa)
    (e3 : ∀ (j : Nat) (m' : List Int), j < f → mvs[j]? = some m' → m'[k]? = some 0) :
    (∀ j, j < f → (mvs.map fun m => m.getD k 0)[j]? = some 0) ∧ (mvs.map fun m => m.getD k 0)[f]? = some Fa := by
  have fl := (List.getElem?_eq_some_iff.mp e1).1
  refine ⟨fun j hj => ?_, ?_⟩
  · have ej : mvs[j]? = some (mvs[j]'(by omega)) := List.getElem?_eq_getElem (by omega)
    rw [List.getElem?_map, ej]
    exact congrArg some (getD_of (e3 j _ hj ej))
  · rw [List.getElem?_map, e1]
    exact congrArg some (getD_of e2)
section
variable {P : Program} {w : World} {K : PySem.W.Frag} {mg : Str → Option Value} {base : Heap}
abbrev s_form_holds : Stmt := topS 45
theorem sc_form_holds : FnScope ["system", "thing", "factor", "fronts", "moves", "move", "k", "front"] ["system", "thing"] (defScope s_form_holds) := ⟨rfl, rfl, rfl, by decide +kernel, rfl, by decide +kernel, by decide +kernel⟩
theorem ok_form_holds {f C : Addr} {fd : FuncData} (F : Fun K "form_holds" "form_holds" s_form_holds f fd) (T : Bl mg) (S : Sys K mg C) (hM : ∃ u, mg "MOST_MOVES" = some u ∧ RelV (.int 12) u)
    (D_is_integer : DefG P w K mg base 1 "is_integer" ["value"] spIsI) (D_are_integers : DefG P w K mg base 2 "are_integers" ["value", "count"] spAre) (D_is_move : DefG P w K mg base 4 "is_move" ["system", "thing"] (spMove K C)) (D_is_front : DefG P w K mg base 1 "_is_front" ["front", "factor", "column"] spFront) : FnG P w K mg base CX0 5 f fd ["system", "thing"] (spHolds K C) := by
  refine okG F sc_form_holds (fun vs H Q E h => ?_) fun cdv A outer s H vs Q E hr hc h => ?_
  · obtain ⟨a, t, n, lots, rows, marks, Fa, wh, mvs, rfl, _⟩ := h
    rfl
  · obtain ⟨a, t, n, lots, rows, marks, Fa, wh, mvs, rfl, hs, oR, oM, n1, n6, hf, ok, m12, q⟩ := h
    have nd := sc_form_holds.nd
    have hu64 := hr.units
    refine ⟨_, (pss_cons (ps_if (PW.pt (pw_or (pt_not (pt_val (pe_callB call_isi (by rfl) T.isinstance boot_isinstance (pa_cons (pv 1) (pa_cons (pe_bltn (v := .ty "tuple") (by rfl) T.tuple boot_tuple rfl) pa_nil))))) (pw_or1 (pt_cmpR op_ne (pe_callB call_len_seq (by rfl) T.len boot_len (pa_cons (pv 1) pa_nil)) pe_int (nomark _)))))
        (pss_one (ps_ret pe_bl))
        pss_nil)
      (pss_cons (ps_asg (pv 1) (pg_tup rfl (pgs_cons (pg_name (i := 2) nd rfl (by first | exact Or.inl rfl | exact Or.inr rfl)) (pgs_cons (pg_name (i := 3) nd rfl (by first | exact Or.inl rfl | exact Or.inr rfl)) (pgs_cons (pg_name (i := 4) nd rfl (by first | exact Or.inl rfl | exact Or.inr rfl)) pgs_nil)))))
      (pss_cons (ps_if (PW.pt (pw_or (pt_not (pt_val (pe_def D_is_integer (hr.mono (by decide)) hc (by rfl) (pa_cons (pv 2) pa_nil)))) (pw_or (pt_cmpR op_lt (pv 2) pe_int (nomark _)) (pw_or1 (pt_not (pt_val (pe_def D_are_integers (hr.mono (by decide)) hc (by rfl) (pa_cons (pv 3) (pa_cons (pe_callB call_len_seq (by rfl) T.len boot_len (pa_cons (pe_fld (pv 0) rfl) pa_nil)) pa_nil)))))))))
        (pss_one (ps_ret pe_bl))
        pss_nil)
      (pss_cons (ps_if (PW.pt (pw_or (pt_not (pt_val (pe_callB call_isi (by rfl) T.isinstance boot_isinstance (pa_cons (pv 4) (pa_cons (pe_bltn (v := .ty "tuple") (by rfl) T.tuple boot_tuple rfl) pa_nil))))) (pw_or1 (pt_not (pt_chain op_le op_le pe_int (pe_callB call_len_seq (by rfl) T.len boot_len (pa_cons (pv 4) pa_nil)) (C8.pe_gc (v := .int 12) (by rfl) hM))))))
        (pss_one (ps_ret pe_bl))
        pss_nil)
      (pss_cons (ps_if (pt_not (pt_val (pe_callB (cr_all rfl) (by rfl) T.all boot_all (pa_cons (pe_lc (own := [("move", 5)]) (g := (gName 5)) (tt := tYes) rfl nd (pi_tup (pv 4)) (blkOk_by (own := [("move", 5)]) (N := ["system", "thing", "factor", "fronts", "moves", "move", "k", "front"]) (sc := defScope s_form_holds) (by decide +kernel)) (fun _ _ _ _ _ => (pg_name (i := 5) nd rfl (by first | exact Or.inl rfl | exact Or.inr rfl))) (fun _ _ _ _ _ => pts_nil) (fun _ _ _ _ _ => (pe_def D_is_move (hr.mono (by decide)) hc (by rfl) (pa_cons (pv 0) (pa_cons (pv 5) pa_nil))))) pa_nil))))
        (pss_one (ps_ret pe_bl))
        pss_nil)
      (pss_one (ps_ret (pe_callB (cr_all rfl) (by rfl) T.all boot_all (pa_cons (pe_lc (own := [("k", 6), ("front", 7)]) (g := (gTup K 2 (gCons (gName 6) (gCons (gName 7) gNil)))) (tt := tYes) rfl nd (pi_enumT (by rfl) T.enumerate (pa_cons (pv 3) pa_nil)) (blkOk_by (own := [("k", 6), ("front", 7)]) (N := ["system", "thing", "factor", "fronts", "moves", "move", "k", "front"]) (sc := defScope s_form_holds) (by decide +kernel)) (fun _ _ _ _ _ => (pg_tup rfl (pgs_cons (pg_name (i := 6) nd rfl (by first | exact Or.inl rfl | exact Or.inr rfl)) (pgs_cons (pg_name (i := 7) nd rfl (by first | exact Or.inl rfl | exact Or.inr rfl)) pgs_nil)))) (fun _ _ _ _ _ => pts_nil) (fun _ _ _ _ _ => (pe_def D_is_front (hr.mono (by decide)) hc (by rfl) (pa_cons (pv 7) (pa_cons (pv 2) (pa_cons (pe_lc (own := [("move", 5)]) (g := (gName 5)) (tt := tYes) rfl nd (pi_tupK (K := K) (pv 4)) (blkOk_by (own := [("move", 5)]) (by with_unfolding_all rfl)) (fun _ _ _ _ _ => (pg_name (i := 5) nd rfl (by first | exact Or.inl rfl | exact Or.inr rfl))) (fun _ _ _ _ _ => pts_nil) (fun _ _ _ _ _ => (pe_ix (G3.ix_tupK (K := K)) (pv 5) (pv 6) (fun _ _ => rfl)))) pa_nil)))))) pa_nil))))))))), ?_⟩
    obtain ⟨tw, tm, xs, ht, hw, hm, hv⟩ := hf
    have kn := fun (k : Nat) (h : k < n) => ok.fr k (wh[k]'(by rw [ok.wl]; exact h)) (List.getElem?_eq_getElem (by rw [ok.wl]; exact h))
    have m1 : 1 ≤ mvs.length := by
      obtain ⟨mv, e1, _⟩ := kn 0 (by omega)
      have := (List.getElem?_eq_some_iff.mp e1).1
      omega
    refine ⟨_, rfl, _, _, _, _, true, rfl, .ty "tuple", .base (.tup ht), if_pos (by decide), _, rfl, ?_⟩
    refine ite2 (fun e => absurd e (by decide)) (fun _ => ?_)
    refine ⟨_, rfl, t, _, rfl, .inr (tofT ht), rfl, _, rfl, ?_⟩
    refine ite2 (fun e => by simp at e) (fun _ => ?_)
    refine ⟨_, rfl, t, _, rfl, tofT ht, rfl, _, _, rfl, _, _, rfl, _, _, rfl, rfl, ?_⟩
    -- the factor and the fronts
    refine ⟨_, rfl, Fa, rfl, _, rfl, ?_⟩
    refine ite2 (fun e => absurd e (by decide)) (fun _ => ?_)
    refine ⟨_, rfl, _, _, rfl, rfl, _, rfl, ?_⟩
    have f1 := ok.f1
    refine ite2 (fun e => absurd (of_decide_eq_true e) (by omega)) (fun _ => ?_)
    obtain ⟨dx, tn, tr, ts, ns, us, ys, h1, h2, h3, h4, h5, h6, h7⟩ := id hs
    refine ⟨_, rfl, _, rfl, a, C, dx, _, _, rfl, h1, S.cl, S.nN, f_names _ _ _, tn, _, rfl, .inr h2, ?_⟩
    rw [show ((ns.map V.str).length : Int) = ((wh.map fun x : Nat => (x : Int)).length : Nat) by rw [List.length_map, List.length_map, h3, ok.wl]]
    refine ⟨tw, _, rfl, hw, by rw [List.length_map, ok.wl]; omega, fun H1 s1 => ⟨_, rfl, ?_⟩⟩
    refine ite2 (fun e => absurd e (by decide)) (fun _ => ?_)
    -- the moves
    have ht1 := s1 _ _ ht
    have hm1 := s1 _ _ hm
    have ml := hv.len
    refine ⟨_, rfl, _, _, _, _, true, rfl, .ty "tuple", .base (.tup hm1), if_pos (by decide), _, rfl, ?_⟩
    refine ite2 (fun e => absurd e (by decide)) (fun _ => ?_)
    refine ⟨_, rfl, tm, _, rfl, .inr (tofT hm1), _, _, rfl, rfl, _, rfl, ?_⟩
    rw [if_pos (decide_eq_true (by omega))]
    refine ⟨_, _, rfl, rfl, _, rfl, ?_⟩
    refine ite2 (fun e => absurd e (by rw [decide_eq_true (by omega)]; decide)) (fun _ => ?_)
    refine ⟨_, rfl, tm, rfl, ⟨_, tofT hm1⟩, fun D nD => ?_⟩
    refine lc_tup (K := K) (a := tm) (xs := xs) (fun i H2 => Same H1 H2 ∧ H2 D = some (.lst ((List.replicate i true).map V.bl))) ⟨Same.new nD, upd_same⟩ (fun i H2 _ h => tofT (h.1 _ _ hm1)) ?_ ?_
    · rintro i x H2 hi ⟨s2, hD⟩
      obtain ⟨p, mv, rfl, hp, hmv⟩ := (hv.to (tups_same (s1.trans s2))).get hi
      have mm := List.mem_of_getElem? hmv
      have il := (List.getElem?_eq_some_iff.mp hmv).1
      refine ⟨rfl, _, rfl, _, rfl, a, p, n, lots, rows, marks, mv, rfl, hs.kp (Kp.of (s1.trans s2)), oR, oM, by omega, hp, ok.ml mv mm, ok.dl mv mm, ok.dm mv mm, fun H3 s3 => ⟨_, s3 _ _ hD, ?_, ?_, ?_⟩⟩
      · rw [List.length_map, List.length_replicate]; exact smallt (by omega)
      · intro c u hc'
        rw [upd_ne (ne_of_none hc' nD)]
        exact s3 _ _ (s2 _ _ hc')
      · rw [upd_same, List.replicate_succ', List.map_append]; rfl
    · rintro H2 ⟨s2, hD⟩
      refine ⟨D, _, rfl, tofL hD, _, rfl, ?_⟩
      rw [List.all_replicate, show ((if xs.length = 0 then true else id true) : Bool) = true by split <;> rfl]
      refine ite2 (fun e => absurd e (by decide)) (fun _ => ?_)
      have s12 := s1.trans s2
      have hm2 := s12 _ _ hm
      have hw2 := s12 _ _ hw
      refine ⟨_, rfl, tw, _, rfl, tofT hw2, fun D2 nD2 => ?_⟩
      refine lc_it (walk_enumT (K := K) (a := tw) (xs := (wh.map fun x : Nat => (x : Int)).map V.int)) (fun i H3 => Same H2 H3 ∧ H3 D2 = some (.lst ((List.replicate i true).map V.bl))) ⟨Same.new nD2, upd_same⟩ (fun i H3 _ h => tofT (h.1 _ _ hw2)) ?_ ?_
      · rintro i x H3 H4 hi ⟨s3, hD2⟩ ⟨t2, u, v, rfl, nt, rfl, f1, f2⟩
        have e1 : u = .int (i : Nat) := (Option.some.inj f1).symm
        subst e1
        rw [List.length_map, List.length_map, ok.wl] at hi
        have ew : wh[i]? = some (wh[i]'(by rw [ok.wl]; exact hi)) := List.getElem?_eq_getElem _
        have e2 : v = .int ((wh[i]'(by rw [ok.wl]; exact hi) : Nat) : Int) := by
          have f3 : ((wh.map fun x : Nat => (x : Int)).map V.int)[i]? = some v := f2
          rw [List.getElem?_map, List.getElem?_map, ew] at f3
          exact (Option.some.inj f3).symm
        subst e2
        obtain ⟨mv0, g1, g2, g3⟩ := kn i hi
        generalize (wh[i]'(by rw [ok.wl]; exact hi)) = fw at *
        obtain ⟨c0, cF⟩ := col_at ok.ml hi g1 g2 g3
        have nDt : D2 ≠ t2 := ne_of_none hD2 nt
        have sn := Same.new (o := .tup [V.int (i : Nat), .int (fw : Int)]) nt
        refine ⟨t2, _, rfl, tofT upd_same, rfl, _, _, rfl, _, _, rfl, rfl, rfl, ?_⟩
        have hD4 := sn _ _ hD2
        have s4 := s3.trans sn
        generalize upd H3 t2 (.tup [V.int (i : Nat), .int (fw : Int)]) = H4 at *
        have hm4 := s4 _ _ hm2
        refine ⟨_, rfl, _, rfl, _, rfl, tm, rfl, ⟨_, tofT hm4⟩, fun D3 nD3 => ?_⟩
        have nD23 : D2 ≠ D3 := ne_of_none hD4 nD3
        refine lc_tup (K := K) (a := tm) (xs := xs) (fun j H5 => Same H4 H5 ∧ H5 D3 = some (.lst (((mvs.take j).map fun m => m.getD i 0).map V.int))) ⟨Same.new nD3, upd_same⟩ (fun j H5 _ h => tofT (h.1 _ _ hm4)) ?_ ?_
        · rintro j y H5 hj ⟨s5, hD3⟩
          obtain ⟨p, mv, rfl, hp, hmv⟩ := (hv.to (tups_same (s12.trans (s4.trans s5)))).get hj
          have mm := List.mem_of_getElem? hmv
          have jl := (List.getElem?_eq_some_iff.mp hmv).1
          have ex : (mv.map V.int)[i]? = some (.int (mv.getD i 0)) := by
            have il : i < mv.length := by rw [ok.ml mv mm]; exact hi
            rw [List.getElem?_map, List.getElem?_eq_getElem il, getD_of (List.getElem?_eq_getElem il)]
            rfl
          refine ⟨rfl, _, rfl, _, rfl, p, _, _, _, rfl, rfl, tofT hp, atI_nat ex, _, hD3, ?_, ?_, ?_⟩
          · rw [List.length_map, List.length_map, List.length_take]; exact smallt (by omega)
          · intro c u hc'
            rw [upd_ne (ne_of_none hc' nD3)]
            exact s5 _ _ hc'
          · rw [upd_same, List.take_add_one, hmv, List.map_append, List.map_append]; rfl
        · rintro H5 ⟨s5, hD3⟩
          rw [ml, List.take_length] at hD3
          refine ⟨fw, Fa, D3, _, rfl, hD3, by rw [List.length_map]; omega, c0, cF, fun H6 s6 => ⟨_, s6 _ _ (s5 _ _ hD4), ?_, ?_, ?_⟩⟩
          · rw [List.length_map, List.length_replicate]; exact smallt (by omega)
          · intro c u hc'
            rw [upd_ne (ne_of_none hc' nD2)]
            exact s6 _ _ (s5 _ _ (s4 _ _ hc'))
          · rw [upd_same, List.replicate_succ', List.map_append]; rfl
      · rintro H3 ⟨s3, hD2⟩
        refine ⟨D2, _, rfl, tofL hD2, ?_⟩
        rw [List.all_replicate, show ((if ((wh.map fun x : Nat => (x : Int)).map V.int).length = 0 then true else id true) : Bool) = true by split <;> rfl]
        exact q H3 (s12.trans s3)
end
end NK29
namespace NK29
open PySem PySem.Spec PyProof.Rows L2 GL RZ G3
theorem eqV_int (x y : Int) : eqV (.int x) (.int y) = decide (x = y) := by
  unfold eqV
  rfl
theorem inV_ints (z : Int) (ns : List Int) : inV (.int z) (ns.map V.int) = decide (z ∈ ns) := by
  unfold inV
  rw [List.any_map]
  by_cases h : z ∈ ns
  · rw [decide_eq_true h]
    exact List.any_eq_true.mpr ⟨z, h, by show eqV (.int z) (.int z) = true; rw [eqV_int]; exact decide_eq_true rfl⟩
  · rw [decide_eq_false h]
    refine List.any_eq_false.mpr fun y hy => ?_
    show ¬ eqV (.int y) (.int z) = true
    rw [eqV_int, decide_eq_true_eq]
    exact fun e => h (e ▸ hy)
theorem flat_ints : ∀ ns : List Int, (ns.map V.int).all flatV = true
  | [] => rfl
  | n :: r => by rw [List.map_cons, List.all_cons, flat_ints r]; rfl
def pick (idx : List Int) (ls : List Row) (i : Nat) : List Row := ((List.range i).filter fun (k : Nat) => !decide ((k : Int) ∈ idx)).filterMap fun (k : Nat) => ls[k]?
theorem pick_step {idx : List Int} {ls : List Row} {i : Nat} {l : Row} (e : ls[i]? = some l) : pick idx ls (i + 1) = pick idx ls i ++ (if (i : Int) ∈ idx then [] else [l]) := by
  unfold pick
  rw [List.range_succ, List.filter_append, List.filterMap_append]
  congr 1
  by_cases h : (i : Int) ∈ idx
  · simp [h]
  · simp [h, e]
theorem pick_len (idx : List Int) (ls : List Row) (i : Nat) : (pick idx ls i).length ≤ i := by
  unfold pick
  refine Nat.le_trans (List.length_filterMap_le _ _) (Nat.le_trans (List.length_filter_le _ _) ?_)
  rw [List.length_range]
  exact Nat.le_refl _
theorem pick_mem {idx : List Int} {ls : List Row} {i : Nat} {r : Row} (h : r ∈ pick idx ls i) : r ∈ ls := by
  unfold pick at h
  obtain ⟨k, _, e⟩ := List.mem_filterMap.mp h
  exact List.mem_of_getElem? e
def spWithout (K : PySem.W.Frag) (C : Addr) : Sp := fun vs H Q _ => ∃ (a t : Addr) (n : Nat) (rows : List Row) (rests : List Rst) (idx : List Int), vs = [.ref a, .ref t] ∧ SysRaw K C H a n rows rests ∧ SqT K H t (idx.map V.int) ∧ idx.length ≤ 40 ∧ rows.length ≤ 40 ∧
  ∀ (p : Addr) (H' : Hp), Same H H' → SysRaw K C H' p n (pick idx rows rows.length) rests → Q (.ref p) H'
section
variable {P : Program} {w : World} {K : PySem.W.Frag} {mg : Str → Option Value} {base : Heap}
abbrev s_without : Stmt := inClass (topS 35) 8
theorem sc_without : FnScope ["self", "indexes", "rows", "k", "row"] ["self", "indexes"] (defScope s_without) := ⟨rfl, rfl, rfl, by decide +kernel, rfl, by decide +kernel, by decide +kernel⟩
theorem walk_without {f C fI : Addr} {fdI : FuncData} (S : Sys K mg C) (T : Bl mg) (MK : Mk K C fI) (FI : FnG P w K mg base CX0 1 fI fdI ["self", "names", "rows", "rests"] (spInit C)) (BI : Binds K fdI ["self", "names", "rows", "rests"] [])
    (cdv : Value) (A : Around) (outer : List Env) (s : Shared) (H : Hp) (vs : List V) (Q : VK) (E : XK) (hr : Room 2 (A.deeper (envOfC "System.without" (defScope s_without) s.heap.objs.size f cdv))) (hc : Calm (A.deeper (envOfC "System.without" (defScope s_without) s.heap.objs.size f cdv))) (h : spWithout K C vs H Q E) :
    ∃ t, PSs (cxOf CX0 P w K mg base ["self", "indexes", "rows", "k", "row"] "System.without" (defScope s_without) f cdv A outer s H E).nox (defBody s_without) t ∧ t { nx := fun _ H' => Q .non H', rt := Q } (start ["self", "indexes", "rows", "k", "row"] vs) H := by
  obtain ⟨a, t, n, rows, rests, idx, rfl, h1, hT, l1, l2, q⟩ := h
  have nd := sc_without.nd
  refine ⟨_, (pss_cons (ps_set (i := 2) nd rfl (by first | exact Or.inl rfl | exact Or.inr rfl) (pe_tupleOf (by rfl) T.tuple (pe_lc (own := [("k", 3), ("row", 4)]) (g := (gTup K 2 (gCons (gName 3) (gCons (gName 4) gNil)))) rfl nd (pi_enumT (by rfl) T.enumerate (pa_cons (pe_fld (pv 0) rfl) pa_nil)) (blkOk_by (own := [("k", 3), ("row", 4)]) (N := ["self", "indexes", "rows", "k", "row"]) (sc := defScope s_without) (by decide +kernel)) (fun _ _ _ _ _ => (pg_tup rfl (pgs_cons (pg_name (i := 3) nd rfl (by first | exact Or.inl rfl | exact Or.inr rfl)) (pgs_cons (pg_name (i := 4) nd rfl (by first | exact Or.inl rfl | exact Or.inr rfl)) pgs_nil)))) (fun _ _ _ _ _ => (pts_one (pt_cmpR (op_notInK (K := K)) (pv 3) (pv 1) (by with_unfolding_all rfl)))) (fun _ _ _ _ _ => (pv 4)))))
      (pss_one (ps_ret (pe_makeG MK FI (hr.mono (by decide)) hc (by rfl) S.mgC BI .nil pass0 (pa_cons (pe_fld (pv 0) rfl) (pa_cons (pv 2) (pa_cons (pe_fld (pv 0) rfl) pa_nil))))))), ?_⟩
  obtain ⟨dxa, ta, tra, tsa, ns, xs, us, ha, hn, hln, hA, hL, hS, hU⟩ := h1
  refine ⟨_, rfl, a, C, dxa, _, _, rfl, ha, S.cl, S.nR, f_rows _ _ _, tra, _, rfl, hA, fun D nD => ?_⟩
  refine lc_it (walk_enumT (K := K) (a := tra) (xs := xs)) (fun i H2 => Same H H2 ∧ ∃ ys, H2 D = some (.lst ys) ∧ RowsAt H2 ys (pick idx rows i)) ⟨Same.new nD, [], upd_same, .nil⟩ (fun i H2 _ h => (Kp.of h.1).tup hA) ?_ ?_
  · rintro i x H2 H3 hi ⟨s2, ys, hD, hY⟩ ⟨t2, u, v, rfl, nt, rfl, f1, f2⟩
    have e1 : u = .int (i : Nat) := (Option.some.inj f1).symm
    subst e1
    obtain ⟨p, q', fs, m, rfl, hp, hq', hl⟩ := (hL.to (Kp.of s2).tups).get f2
    have il := (List.getElem?_eq_some_iff.mp hl).1
    have nDt : D ≠ t2 := ne_of_none hD nt
    have ps := pick_step (idx := idx) hl
    have pl := pick_len idx rows i
    have sn := Same.new (o := .tup [V.int (i : Nat), .ref p]) nt
    refine ⟨t2, _, rfl, tofT upd_same, rfl, _, _, rfl, _, _, rfl, rfl, rfl, ?_⟩
    refine ⟨_, rfl, _, rfl, t, _, rfl, .inr ((Kp.of (s2.trans sn)).tup hT), rfl, flat_ints idx, _, rfl, ?_⟩
    rw [if_pos rfl, inV_ints]
    refine ite2 (fun e => ?_) (fun e => ?_)
    · have e' : ¬ (i : Int) ∈ idx := by simpa using e
      rw [if_neg e'] at ps
      refine ⟨_, rfl, _, sn _ _ hD, ?_, ?_, _, upd_same, ?_⟩
      · rw [hY.len]; exact smallt (by omega)
      · intro c u hc'
        rw [upd_ne (ne_of_none hc' nD)]
        exact sn _ _ (s2 _ _ hc')
      · rw [ps]
        have kt : ∀ b zs, H2 b = some (.tup zs) → upd (upd H2 t2 (.tup [V.int (i : Nat), .ref p])) D (.lst (ys ++ [.ref p])) b = some (.tup zs) := fun b zs hb => by
          rw [upd_ne (fun e => by rw [e, hD] at hb; cases hb)]
          exact sn _ _ hb
        exact (hY.to kt).snoc (kt _ _ hp) (kt _ _ hq')
    · have e' : (i : Int) ∈ idx := by simpa using e
      rw [if_pos e', List.append_nil] at ps
      exact ⟨s2.trans sn, ys, sn _ _ hD, by rw [ps]; exact hY.to (Kp.of sn).tups⟩
  · rintro H2 ⟨s2, ys, hD, hY⟩
    rw [hL.len] at hY
    refine .inl ⟨D, _, rfl, tofL hD, fun t2 nt => ?_⟩
    have s3 : Same H (upd H2 t2 (.tup ys)) := s2.trans (Same.new nt)
    have ht : upd H2 t2 (.tup ys) t2 = some (.tup ys) := upd_same
    have hY3 := hY.to (Kp.of (Same.new (o := .tup ys) nt)).tups
    revert s3 ht hY3
    generalize upd H2 t2 (.tup ys) = H3
    intro s3 ht hY3
    refine ⟨_, rfl, a, C, dxa, _, _, rfl, s3 _ _ ha, S.cl, S.nN, f_names _ _ _, _, rfl, _, rfl, a, C, dxa, _, _, rfl, s3 _ _ ha, S.cl, S.nS, f_rests _ _ _, fun x dx nx ndx ne => ⟨x, dx, _, _, _, rfl, upd_same, rfl, ?_⟩⟩
    have sm := made_same (C := C) (a := .ref ta) (b := .ref t2) (c := .ref tsa) nx ndx ne
    have sall := s3.trans sm
    exact q x _ sall ⟨dx, ta, t2, tsa, ns, ys, us, upd_same, Same.tup sall hn, hln, tofT (sm _ _ ht), hY3.to (tups_same sm), Same.tup sall hS, hU.to (tups_same sall)⟩
end
end NK29
namespace NK29
open PySem PySem.Spec PyProof.Rows L2 GL RZ G3
theorem pool_len : (Txt.split ("x y z a1 bb q zz9 n0 abcdefgh k it u7 w" : Str) (" " : Str)).length = 13 := by decide +kernel
theorem map_atS {ns : List Str} {i : Nat} (h : i < ns.length) : (ns.map V.str)[i]? = some (.str ns[i]) := by
  rw [List.getElem?_map, List.getElem?_eq_getElem h]; rfl
theorem erase_map {α β : Type} (f : α → β) : ∀ (l : List α) (k : Nat), (l.map f).eraseIdx k = (l.eraseIdx k).map f
  | [], _ => rfl
  | _ :: _, 0 => rfl
  | a :: l, k + 1 => by
    show f a :: (l.map f).eraseIdx k = f a :: (l.eraseIdx k).map f
    rw [erase_map f l k]
theorem bigN {n : Int} (h0 : 0 ≤ n) (h1 : n ≤ 10 ^ 7) : n.natAbs < 2 ^ 8000 := Nat.lt_of_lt_of_le (show n.natAbs < 2 ^ 40 by omega) (Nat.pow_le_pow_right (by decide) (by decide))
def spCalled (K : PySem.W.Frag) : Sp := fun vs H Q _ => ∃ (d g : Addr) (n b : Nat), vs = [.ref d, .int (n : Int)] ∧ Dk ks H d g (b + 10) ∧ n ≤ 6 ∧
  ∀ (t : Addr) (ns : List Str) (H' : Hp), Dk ks H' d g b → Mv d g H H' → SqZ K H' t (ns.map V.str) → ns.length = n → Q (.ref t) H'
def spMarks : Sp := fun vs H Q _ => ∃ (d g : Addr) (n m b : Nat) (tt : Int), vs = [.ref d, .int (n : Int), .int tt, .int (m : Int)] ∧ -10 ≤ tt ∧ tt ≤ 10 ∧ Dk ks H d g (b + 40) ∧ n ≤ 6 ∧ m ≤ 3 ∧
  ∀ (p : Addr) (xs : List V) (marks : List Rst) (H' : Hp), Dk ks H' d g b → Mv d g H H' → H p = none → H' p = some (.lst xs) → RestsAt H' xs marks → marks.length = m → FineS n marks → (∀ x ∈ marks, x.2.1 = x.1.sum * tt % x.2.2) → Q (.ref p) H'
section
variable {P : Program} {w : World} {K : PySem.W.Frag} {mg : Str → Option Value} {base : Heap}
abbrev s_called : Stmt := topS 76
theorem sc_called : FnScope ["_law_deck_here", "_law_n", "_law_pool", "_law_k"] ["_law_deck_here", "_law_n"] (defScope s_called) := ⟨rfl, rfl, rfl, by decide +kernel, rfl, by decide +kernel, by decide +kernel⟩
theorem ok_called {f : Addr} {fd : FuncData} (F : Fun K "_law_called" "_law_called" s_called f fd) (gl : mg "_law_called" = some (.ref f)) (T : Bl mg) (D_draw : DefG P w K mg base 1 "_law_draw" ["_law_deck_here", "_law_many"] (spDrw ks)) : DefG P w K mg base 2 "_law_called" ["_law_deck_here", "_law_n"] (spCalled K) := by
  refine def_mk F gl (F.binds fun _ _ _ _ _ _ us hl => match us, hl with | [_, _], _ => rfl) (okG F sc_called (fun vs H Q E h => ?_) fun cdv A outer s H vs Q E hr hc h => ?_)
  · obtain ⟨d, g, n, b, rfl, _⟩ := h
    rfl
  · obtain ⟨d, g, n, b, rfl, D, n6, q⟩ := h
    have nd := sc_called.nd
    refine ⟨_, (pss_cons (ps_set (i := 2) nd rfl (by first | exact Or.inl rfl | exact Or.inr rfl) (pe_bm PySem.F.plainAttrs_str PySem.F.slot_str_split PySem.F.type_str_split mt_split pe_str (pa_cons pe_str pa_nil)))
      (pss_one (ps_ret (pe_tupleZ (by rfl) T.tuple (pe_lc (own := [("_law_k", 3)]) (g := (gName 3)) (tt := tYes) rfl nd (pi_range1 (by rfl) T.range (pa_cons (pv 1) pa_nil)) (blkOk_by (own := [("_law_k", 3)]) (N := ["_law_deck_here", "_law_n", "_law_pool", "_law_k"]) (sc := defScope s_called) (by decide +kernel)) (fun _ _ _ _ _ => (pg_name (i := 3) nd rfl (by first | exact Or.inl rfl | exact Or.inr rfl))) (fun _ _ _ _ _ => pts_nil) (fun _ _ _ _ _ => (pe_bmK (K := K) PySem.F.plainAttrs_list PySem.F.slot_list_pop PySem.F.type_list_pop mt_popAt (pv 2) (pa_cons (pe_def D_draw (hr.mono (by decide)) hc (by rfl) (pa_cons (pv 0) (pa_cons (pe_callB (call_len_seqK (K := K)) (by rfl) T.len boot_len (pa_cons (pv 2) pa_nil)) pa_nil))) pa_nil)))))))), ?_⟩
    -- the pool
    refine ⟨rfl, _, _, rfl, rfl, by decide +kernel, by decide +kernel, ?_⟩
    have pl := pool_len
    generalize Txt.split ("x y z a1 bb q zz9 n0 abcdefgh k it u7 w" : Str) (" " : Str) = pool at pl ⊢
    intro p np
    have offp := D.off np
    have M1 : Mv d g H (upd H p (.lst (pool.map V.str))) := Mv.of (Same.new np)
    have D1 : Dk ks (upd H p (.lst (pool.map V.str))) d g (b + 10) := D.new np
    have hp1 : upd H p (.lst (pool.map V.str)) p = some (.lst (pool.map V.str)) := upd_same
    generalize upd H p (.lst (pool.map V.str)) = H1 at *
    refine ⟨_, rfl, (n : Int), rfl, by omega, by omega, fun C nC => ?_⟩
    rw [Int.toNat_natCast]
    have offC := D1.off nC
    have npC : p ≠ C := ne_of_none hp1 nC
    have nCH := Mv.free3 M1 D1 nC
    refine lc_range (fun j Hy => ∃ (left ns : List Str), Hy p = some (.lst (left.map V.str)) ∧ left.length + j = 13 ∧ Hy C = some (.lst (ns.map V.str)) ∧ ns.length = j ∧ Dk ks Hy d g (b + 10 - j) ∧ Mv d g H Hy) ⟨pool, [], by rw [upd_ne npC]; exact hp1, by omega, upd_same, rfl, D1.new nC, M1.trans (Mv.of (Same.new nC))⟩ ?_ ?_
    · rintro j Hy hj ⟨left, ns, hp, ll, hC, nl, Dy, My⟩
      have Dy : Dk ks Hy d g (b + 10 - (j + 1) + 1) := Dy.mono (by omega)
      refine ⟨rfl, _, rfl, ty_l (tofL hp), _, rfl, _, rfl, p, _, rfl, .inl (tofL hp), d, g, _, _, rfl, Dy, by rw [List.length_map]; omega, bigN (by omega) (by rw [List.length_map]; omega), fun r Hz r0 r1 Dz Mz => ?_⟩
      rw [List.length_map] at r1
      obtain ⟨k, rfl⟩ : ∃ k : Nat, r = (k : Int) := ⟨r.toNat, by omega⟩
      have kl : k < left.length := by omega
      have hpz := Mz.at hp offp
      have hCz := Mz.at hC offC
      refine ⟨p, _, (k : Int), k, .str left[k], rfl, rfl, hpz, by omega, by omega, ?_, map_atS kl, ?_⟩
      · rw [StrLaws.seqIndex_nonneg (by omega) (by rw [List.length_map]; omega), Int.toNat_natCast]
      · rw [erase_map]
        refine ⟨_, by rw [upd_ne npC.symm]; exact hCz, by rw [List.length_map]; exact smallt (by omega), left.eraseIdx k, ns ++ [left[k]], ?_, ?_, ?_, ?_, (Dz.mut offp).mut offC, ((My.trans Mz).mut np).mut nCH⟩
        · rw [upd_ne npC, upd_same]
        · rw [List.length_eraseIdx_of_lt kl]; omega
        · rw [upd_same, List.map_append]; rfl
        · rw [List.length_append, nl]; rfl
    · rintro Hy ⟨left, ns, hp, ll, hC, nl, Dy, My⟩
      refine ⟨C, _, rfl, tofL hC, fun t o nt od => ?_⟩
      exact q t ns _ ((Dy.mono (by omega)).new nt) (My.trans (Mv.of (Same.new nt))) (.inl ⟨o, upd_same, od⟩) nl
abbrev s_marks : Stmt := topS 78
theorem sc_marks : FnScope ["_law_deck_here", "_law_n", "_law_t", "_law_many", "_law_found", "_law_go", "_law_worth", "_law_by", "_law_k"] ["_law_deck_here", "_law_n", "_law_t", "_law_many"] (defScope s_marks) := ⟨rfl, rfl, rfl, by decide +kernel, rfl, by decide +kernel, by decide +kernel⟩
theorem ok_marks {f : Addr} {fd : FuncData} (F : Fun K "_law_marks" "_law_marks" s_marks f fd) (gl : mg "_law_marks" = some (.ref f)) (T : Bl mg) (D_draw : DefG P w K mg base 1 "_law_draw" ["_law_deck_here", "_law_many"] (spDrw ks)) : DefG P w K mg base 2 "_law_marks" ["_law_deck_here", "_law_n", "_law_t", "_law_many"] spMarks := by
  refine def_mk F gl (F.binds fun _ _ _ _ _ _ us hl => match us, hl with | [_, _, _, _], _ => rfl) (okG F sc_marks (fun vs H Q E h => ?_) fun cdv A outer s H vs Q E hr hc h => ?_)
  · obtain ⟨d, g, n, m, b, tt, rfl, _⟩ := h
    rfl
  · obtain ⟨d, g, n, m, b, tt, rfl, tt0, tt1, D, n6, m3, q⟩ := h
    have nd := sc_marks.nd
    refine ⟨_, (pss_cons (ps_set (i := 4) nd rfl (by first | exact Or.inl rfl | exact Or.inr rfl) (pe_lst pa_nil))
      (pss_cons (ps_for PassesOwn.never rfl (pi_range1 (by rfl) T.range (pa_cons (pv 3) pa_nil)) (pg_name (i := 5) nd rfl (by first | exact Or.inl rfl | exact Or.inr rfl))
        (pss_cons (ps_par (i := 6) (j := 7) rfl nd rfl rfl (by decide) rfl rfl (pa_cons (pe_tupleOf (by rfl) T.tuple (pe_lc (own := [("_law_k", 8)]) (g := (gName 8)) (tt := tYes) rfl nd (pi_range1 (by rfl) T.range (pa_cons (pv 1) pa_nil)) (blkOk_by (own := [("_law_k", 8)]) (N := ["_law_deck_here", "_law_n", "_law_t", "_law_many", "_law_found", "_law_go", "_law_worth", "_law_by", "_law_k"]) (sc := defScope s_marks) (by decide +kernel)) (fun _ _ _ _ _ => (pg_name (i := 8) nd rfl (by first | exact Or.inl rfl | exact Or.inr rfl))) (fun _ _ _ _ _ => pts_nil) (fun _ _ _ _ _ => (pe_op op_sub (pe_def D_draw (hr.mono (by decide)) hc (by rfl) (pa_cons (pv 0) (pa_cons pe_int pa_nil))) pe_int)))) (pa_cons (pe_op op_add pe_int (pe_def D_draw (hr.mono (by decide)) hc (by rfl) (pa_cons (pv 0) (pa_cons pe_int pa_nil)))) pa_nil)) rfl)
        (pss_one (ps_expr (pe_bm PySem.F.plainAttrs_list PySem.F.slot_list_append PySem.F.type_list_append mt_append (pv 4) (pa_cons (pe_tup (pa_cons (pv 6) (pa_cons (pe_op op_mod (pe_callTy call_int1 (by rfl) T.int boot_int (pa_cons (pe_op op_mul (pe_callB (cr_sumT rfl) (by rfl) T.sum boot_sum (pa_cons (pv 6) pa_nil)) (pv 2)) pa_nil)) (pv 7)) (pa_cons (pv 7) pa_nil)))) pa_nil))))))
      (pss_one (ps_ret (pv 4))))), ?_⟩
    refine ⟨Nat.zero_le _, fun p np => ?_⟩
    have offp := D.off np
    refine ⟨_, rfl, (m : Int), rfl, by omega, by omega, ?_⟩
    rw [Int.toNat_natCast]
    refine for_range (fun i σ Hx => ∃ (xs : List V) (marks : List Rst) (v5 v6 v7 : Option V), σ = [some (.ref d), some (.int (n : Int)), some (.int tt), some (.int (m : Int)), some (.ref p), v5, v6, v7, none] ∧ Hx p = some (.lst xs) ∧ RestsAt Hx xs marks ∧ marks.length = i ∧ FineS n marks ∧ (∀ x ∈ marks, x.2.1 = x.1.sum * tt % x.2.2) ∧ Dk ks Hx d g (b + 40 - 10 * i) ∧ Mv d g H Hx)
      ⟨[], [], none, none, none, rfl, upd_same, .nil, rfl, fun r h => (by cases h), fun r h => (by cases h), D.new np, Mv.of (Same.new np)⟩ ?_ ?_
    · rintro i σ Hx hi ⟨xs, marks, v5, v6, v7, rfl, hp, hR, ml, fS, tS, Dx, Mx⟩
      refine ⟨_, rfl, (n : Int), rfl, by omega, by omega, fun C nC => ?_⟩
      rw [Int.toNat_natCast]
      have offC := Dx.off nC
      have npC : p ≠ C := ne_of_none hp nC
      refine lc_range (fun j Hy => ∃ ws : List Int, Hy C = some (.lst (ws.map V.int)) ∧ ws.length = j ∧ (∀ x ∈ ws, -9 ≤ x ∧ x ≤ 9) ∧ Dk ks Hy d g (b + 40 - 10 * i - j) ∧ Mv d g Hx Hy) ⟨[], upd_same, rfl, fun x h => (by cases h), Dx.new nC, Mv.of (Same.new nC)⟩ ?_ ?_
      · rintro j Hy hj ⟨ws, hC, lw, ew, Dy, My⟩
        have Dy : Dk ks Hy d g (b + 40 - 10 * i - (j + 1) + 1) := Dy.mono (by omega)
        refine ⟨rfl, _, rfl, d, g, 7, _, rfl, Dy, by decide, bigN (by decide) (by decide), fun r Hz r0 r1 Dz Mz => ?_⟩
        refine ⟨_, _, rfl, rfl, _, Mz.at hC offC, by rw [List.length_map]; exact smallt (by omega), ws ++ [r - 3], ?_, ?_, fun x hx => ?_, Dz.mut offC, (My.trans Mz).mut nC⟩
        · rw [upd_same, List.map_append]; rfl
        · rw [List.length_append, lw]; rfl
        · rcases List.mem_append.mp hx with hx | hx
          · exact ew x hx
          · rw [List.mem_singleton.mp hx]; omega
      · rintro Hy ⟨ws, hC, lw, ew, Dy, My⟩
        refine .inl ⟨C, _, rfl, tofL hC, fun t nt => ?_⟩
        have Dt := Dy.new (o := .tup (ws.map V.int)) nt
        have Mt : Mv d g Hx (upd Hy t (.tup (ws.map V.int))) := My.trans (Mv.of (Same.new nt))
        have ht : upd Hy t (.tup (ws.map V.int)) t = some (.tup (ws.map V.int)) := upd_same
        generalize upd Hy t (.tup (ws.map V.int)) = Ht at *
        have Dt : Dk ks Ht d g (b + 40 - 10 * (i + 1) + 1) := Dt.mono (by omega)
        refine ⟨_, rfl, d, g, 11, _, rfl, Dt, by decide, bigN (by decide) (by decide), fun r Hz r0 r1 Dz Mz => ?_⟩
        refine ⟨2, r, rfl, rfl, _, _, rfl, ?_⟩
        have tup_ne : ∀ (Hh : Hp), Dk ks Hh d g 0 → ∀ (a : Addr) (ys : List V), Hh a = some (.tup ys) → a ≠ d ∧ a ≠ g := fun Hh Dh a ys e => by
          obtain ⟨m', n', L, e1, e2, _⟩ := Dh.ex
          exact ⟨ne_of e e1 (fun z => nomatch z), ne_of e e2 (fun z => nomatch z)⟩
        have htz := Mz.at ht (tup_ne _ (Dt.mono (Nat.zero_le _)) _ _ ht)
        have hpz : Hz p = some (.lst xs) := (Mt.trans Mz).at hp offp
        have kz : Kp Hx Hz := (Kp.mv Dx Mt).trans (Kp.mv Dt Mz)
        refine ⟨_, rfl, ty_l (tofL hpz), _, rfl, _, rfl, t, ws, rfl, tofT htz, _, rfl, _, _, rfl, rfl, .inr ⟨by omega, by omega⟩, .inl ⟨_, rfl, _, rfl, _, _, rfl, rfl, (show (0 : Int) < 2 + r by omega), _, rfl, (show 3 ≤ sizeLine from small (by decide)), fun t2 nt2 => ?_⟩⟩
        have e0 := Int.emod_nonneg (ws.sum * tt) (show (2 + r : Int) ≠ 0 by omega)
        have e1 := Int.emod_lt_of_pos (ws.sum * tt) (show (0 : Int) < 2 + r by omega)
        have npt : p ≠ t2 := ne_of_none hpz nt2
        have offt := Dz.off nt2
        refine ⟨p, _, _, rfl, rfl, by rw [upd_ne npt]; exact hpz, ?_, xs ++ [.ref t2], marks ++ [(ws, ws.sum * tt % (2 + r), 2 + r)], _, _, _, rfl, upd_same, ?_, ?_, ?_, ?_, ((Dz.mono (by omega)).new nt2).mut offp, (((Mx.trans Mt).trans Mz).trans (Mv.of (Same.new nt2))).mut np⟩
        · rw [hR.len, ml]; exact smallt (by omega)
        · have kt : ∀ (o o2 : HO) b us, Hz b = some (.tup us) → upd (upd Hz t2 o) p o2 b = some (.tup us) := fun o o2 b us hb => by
            rw [upd_ne (fun e => by rw [e, hpz] at hb; cases hb), upd_ne (ne_of_none hb nt2)]
            exact hb
          exact ((hR.to kz.tups).to (kt _ _)).snoc (by rw [upd_ne npt.symm]; exact upd_same) (kt _ _ _ _ htz)
        · rw [List.length_append, ml]; rfl
        · intro x hx
          rcases List.mem_append.mp hx with hx | hx
          · exact fS x hx
          · rw [List.mem_singleton.mp hx]
            exact ⟨⟨lw, ew⟩, ⟨(show (-41 : Int) ≤ ws.sum * tt % (2 + r) by omega), (show ws.sum * tt % (2 + r) ≤ 41 by omega)⟩, (show (2 : Int) ≤ 2 + r by omega), (show 2 + r ≤ 12 by omega)⟩
        · intro x hx
          rcases List.mem_append.mp hx with hx | hx
          · exact tS x hx
          · rw [List.mem_singleton.mp hx]
    · rintro σ Hx ⟨xs, marks, v5, v6, v7, rfl, hp, hR, ml, fS, tS, Dx, Mx⟩
      exact ⟨_, rfl, q p xs marks Hx (Dx.mono (by omega)) Mx np hp hR ml fS tS⟩
end
end NK29
namespace NK29
open PySem PySem.Spec PyProof.Rows L2 GL RZ G3
/-- lists of ints, none of them one of ex -/
inductive LsAt (ex : List Addr) (H : Hp) : List V → List (List Int) → Prop
  | nil : LsAt ex H [] []
  | cons {p : Addr} {mv : List Int} {xs : List V} {ms : List (List Int)} : p ∉ ex → H p = some (.lst (mv.map V.int)) → LsAt ex H xs ms → LsAt ex H (.ref p :: xs) (mv :: ms)
section
variable {ex : List Addr} {H H' : Hp}
theorem LsAt.len : ∀ {xs : List V} {ms : List (List Int)}, LsAt ex H xs ms → xs.length = ms.length
  | _, _, .nil => rfl
  | _, _, .cons _ _ t => congrArg Nat.succ t.len
theorem LsAt.to (k : ∀ a xs, H a = some (.lst xs) → a ∉ ex → H' a = some (.lst xs)) : ∀ {xs : List V} {ms : List (List Int)}, LsAt ex H xs ms → LsAt ex H' xs ms
  | _, _, .nil => .nil
  | _, _, .cons n a t => .cons n (k _ _ a n) (t.to k)
theorem LsAt.weak {ex' : List Addr} (k : ∀ a, a ∈ ex' → a ∈ ex) : ∀ {xs : List V} {ms : List (List Int)}, LsAt ex H xs ms → LsAt ex' H xs ms
  | _, _, .nil => .nil
  | _, _, .cons n a t => .cons (fun h => n (k _ h)) a (t.weak k)
theorem LsAt.same {xs : List V} {ms : List (List Int)} (h : LsAt ex H xs ms) (s : Same H H') : LsAt ex H' xs ms := h.to fun _ _ e _ => s _ _ e
theorem LsAt.mv {d g : Addr} {b : Nat} {xs : List V} {ms : List (List Int)} (h : LsAt ex H xs ms) (D : Dk ks H d g b) (m : Mv d g H H') (hg : g ∈ ex) : LsAt ex H' xs ms := h.to fun a xs e n => m.keep _ _ e (by
  obtain ⟨k, n', L, h1, h2, _⟩ := D.ex
  exact ne_of e h1 (fun z => nomatch z)) (fun e2 => n (e2 ▸ hg))
theorem LsAt.upd {a : Addr} {o : HO} {xs : List V} {ms : List (List Int)} (h : LsAt ex H xs ms) (ha : a ∈ ex) : LsAt ex (upd H a o) xs ms := h.to fun b ys e n => by
  rw [upd_ne (fun e2 : b = a => n (by rw [e2]; exact ha))]; exact e
theorem LsAt.snoc {p : Addr} {mv : List Int} (n : p ∉ ex) (h : H p = some (.lst (mv.map V.int))) : ∀ {xs : List V} {ms : List (List Int)}, LsAt ex H xs ms → LsAt ex H (xs ++ [.ref p]) (ms ++ [mv])
  | _, _, .nil => .cons n h .nil
  | _, _, .cons m a t => .cons m a (t.snoc n h)
theorem LsAt.set {p : Addr} {mv : List Int} (n : p ∉ ex) (h : H p = some (.lst (mv.map V.int))) : ∀ {xs : List V} {ms : List (List Int)} (i : Nat), LsAt ex H xs ms → LsAt ex H (xs.set i (.ref p)) (ms.set i mv)
  | _, _, _, .nil => .nil
  | _, _, 0, .cons m a t => .cons n h t
  | _, _, i + 1, .cons m a t => .cons m a (t.set n h i)
theorem LsAt.get : ∀ {xs : List V} {ms : List (List Int)} {i : Nat} {x : V}, LsAt ex H xs ms → xs[i]? = some x → ∃ p mv, x = .ref p ∧ p ∉ ex ∧ H p = some (.lst (mv.map V.int)) ∧ ms[i]? = some mv
  | _, _, _, _, .nil, e => by cases e
  | _, _, 0, _, .cons n a t, e => by cases e; exact ⟨_, _, rfl, n, a, rfl⟩
  | _, _, i + 1, _, .cons n a t, e => LsAt.get (i := i) t (by simpa using e)
theorem LsAt.at : ∀ {xs : List V} {ms : List (List Int)} {i : Nat} {mv : List Int}, LsAt ex H xs ms → ms[i]? = some mv → ∃ p, xs[i]? = some (.ref p) ∧ p ∉ ex ∧ H p = some (.lst (mv.map V.int))
  | _, _, _, _, .nil, e => by cases e
  | _, _, 0, _, .cons n a t, e => by cases e; exact ⟨_, rfl, n, a⟩
  | _, _, i + 1, _, .cons n a t, e => LsAt.at (i := i) t (by simpa using e)
end
structure Plan (n : Nat) (wh : List Nat) (mixes lots : List (List Int)) : Prop where
  wl : wh.length = n
  sp : ∀ (j : Nat) (m : List Int), mixes[j]? = some m → Supp wh j m
  kw : ∀ (k w : Nat), wh[k]? = some w → w < mixes.length
  eq : ∀ fs ∈ lots, Eqn wh mixes mixes.length fs
  fine : ∀ fs ∈ lots, Fine n fs
  ml : mixes.length ≤ 6
  bd : ∀ m ∈ mixes, ∀ x ∈ m, -1 ≤ x ∧ x ≤ 1
def vN (x : Nat) : V := V.int (x : Int)
theorem map_vN (wh : List Nat) : wh.map vN = (wh.map fun x : Nat => (x : Int)).map V.int := by rw [List.map_map]; rfl
def planD (W M Lo : Addr) : List (Key × V) := [(Sum.inr "where", .ref W), (Sum.inr "mixes", .ref M), (Sum.inr "lots", .ref Lo)]
theorem merge3 {x y z : Str} (xy : ¬ x = y) (xz : ¬ x = z) (yz : ¬ y = z) (a b c : V) : mergeK [] [((Sum.inr x : Key), a), (Sum.inr y, b), (Sum.inr z, c)] = [((Sum.inr x : Key), a), (Sum.inr y, b), (Sum.inr z, c)] := by
  have e1 : putK ([] : List (Key × V)) (Sum.inr x : Key) a = [((Sum.inr x : Key), a)] := rfl
  have e2 : putK [((Sum.inr x : Key), a)] (Sum.inr y : Key) b = [((Sum.inr x : Key), a), ((Sum.inr y : Key), b)] := by
    unfold putK
    simp only [List.any_cons, List.any_nil, decide_eq_false (inr_ne xy), Bool.or_false]
    rfl
  have e3 : putK [((Sum.inr x : Key), a), ((Sum.inr y : Key), b)] (Sum.inr z : Key) c = [((Sum.inr x : Key), a), (Sum.inr y, b), (Sum.inr z, c)] := by
    unfold putK
    simp only [List.any_cons, List.any_nil, decide_eq_false (inr_ne xz), decide_eq_false (inr_ne yz), Bool.or_false]
    rfl
  show putK (putK (putK ([] : List (Key × V)) (Sum.inr x : Key) a) (Sum.inr y : Key) b) (Sum.inr z : Key) c = _
  rw [e1, e2, e3]
theorem ab_bd {x m : Int} (h : (if x < 0 then -x else x) ≤ m) (hm : m < 10) : -9 ≤ x ∧ x ≤ 9 := by
  by_cases h0 : x < 0
  · rw [if_pos h0] at h; omega
  · rw [if_neg h0] at h; omega
def spPlanted : Sp := fun vs H Q _ => ∃ (d g : Addr) (n m b : Nat), vs = [.ref d, .int (n : Int), .int (m : Int)] ∧ Dk ks H d g (b + 200) ∧ 1 ≤ n ∧ n ≤ 6 ∧ m ≤ 4 ∧
  ∀ (p W M Lo : Addr) (xs ys : List V) (wh : List Nat) (mixes lots : List (List Int)) (H' : Hp), Dk ks H' d g b → Mv d g H H' → H' p = some (.dK (planD W M Lo)) → p ≠ d → W ≠ g → M ≠ g → Lo ≠ g →
    H' W = some (.lst (wh.map vN)) → H' M = some (.lst xs) → LsAt [g] H' xs mixes → H' Lo = some (.lst ys) → MvAt H' ys lots → lots.length = m → Plan n wh mixes lots → Q (.ref p) H'
theorem cut_last (xs : List V) (v : V) : cutV (xs ++ [v]) none (some (-1)) = xs := by
  unfold cutV
  have e : HT.sIx (xs ++ [v]).length (xs ++ [v]).length (some (-1)) = xs.length := by
    rw [List.length_append, List.length_singleton]
    show (if (-1 : Int) < 0 then ((-1 : Int) + ((xs.length + 1 : Nat) : Int)).toNat else min (-1 : Int).toNat (xs.length + 1)) = xs.length
    rw [if_pos (by decide)]
    omega
  rw [e, HT.sIx_none, List.drop_zero, Nat.sub_zero, List.take_append_of_le_length (Nat.le_refl _), List.take_length]
theorem ixN_of {n : Nat} {r : Int} (h0 : 0 ≤ r) (h1 : r < n) : ixN n r = some r.toNat := by
  unfold ixN
  rw [if_pos h0, if_pos h1]
theorem wh_at {kinds spots : List Int} {i : Nat} {z : Int} (h : spots[i]? = some z) : (whOf kinds spots)[i]? = some (kinds.idxOf z) := by
  unfold whOf; rw [List.getElem?_map, h]; rfl
section
variable {P : Program} {w : World} {K : PySem.W.Frag} {mg : Str → Option Value} {base : Heap}
abbrev s_planted : Stmt := topS 77
theorem sc_planted : FnScope ["_law_deck_here", "_law_n", "_law_many", "_law_spots", "_law_k", "_law_kinds", "_law_where", "_law_mixes", "_law_lots", "_law_kind", "_law_go", "_law_some", "_law_mix", "_law_own", "_law_x"] ["_law_deck_here", "_law_n", "_law_many"] (defScope s_planted) := ⟨rfl, rfl, rfl, by decide +kernel, rfl, by decide +kernel, by decide +kernel⟩
theorem ok_planted {f : Addr} {fd : FuncData} (F : Fun K "_law_planted" "_law_planted" s_planted f fd) (gl : mg "_law_planted" = some (.ref f)) (T : Bl mg) (D_draw : DefG P w K mg base 1 "_law_draw" ["_law_deck_here", "_law_many"] (spDrw ks)) (D_ldot : DefG P w K mg base 1 "_law_dot" ["_law_a", "_law_b"] (spLDot K)) : DefG P w K mg base 2 "_law_planted" ["_law_deck_here", "_law_n", "_law_many"] spPlanted := by
  refine def_mk F gl (F.binds fun _ _ _ _ _ _ us hl => match us, hl with | [_, _, _], _ => rfl) (okG F sc_planted (fun vs H Q E h => ?_) fun cdv A outer s H vs Q E hr hc h => ?_)
  · obtain ⟨d, g, n, m, b, rfl, _⟩ := h
    rfl
  · obtain ⟨d, g, n, m, b, rfl, D, n1, n6, m4, q⟩ := h
    have nd := sc_planted.nd
    have hu := hu_of hr
    refine ⟨_, (pss_cons (ps_setLc (i := 3) (own := [("_law_k", 4)]) (g := (gName 4)) (tt := tYes) rfl nd rfl rfl (sw_true rfl rfl rfl (by decide +kernel)) (pi_range1 (by rfl) T.range (pa_cons (pv 1) pa_nil)) (blkOk_by (own := [("_law_k", 4)]) (N := ["_law_deck_here", "_law_n", "_law_many", "_law_spots", "_law_k", "_law_kinds", "_law_where", "_law_mixes", "_law_lots", "_law_kind", "_law_go", "_law_some", "_law_mix", "_law_own", "_law_x"]) (sc := defScope s_planted) (by decide +kernel)) (fun _ _ _ _ _ => (pg_name (i := 4) nd rfl (by first | exact Or.inl rfl | exact Or.inr rfl))) (fun _ _ _ _ _ => pts_nil) (fun _ _ _ _ _ => (pe_def D_draw (hr.mono (by decide)) hc (by rfl) (pa_cons (pv 0) (pa_cons (pv 1) pa_nil)))))
      (pss_cons (ps_set (i := 5) nd rfl (by first | exact Or.inl rfl | exact Or.inr rfl) (pe_sortSet (pv 3) (pe_callB (cr_sortedSet rfl) (by rfl) T.sorted (by decide +kernel) (pa_cons (pe_callTy (cr_setI rfl) (by rfl) T.set boot_set (pa_cons (pv 3) pa_nil)) pa_nil))))
      (pss_cons (ps_asg (pe_tup (pa_cons (pe_lc (own := [("_law_k", 4)]) (g := (gName 4)) (tt := tYes) rfl nd (pi_list (pv 3)) (blkOk_by (own := [("_law_k", 4)]) (N := ["_law_deck_here", "_law_n", "_law_many", "_law_spots", "_law_k", "_law_kinds", "_law_where", "_law_mixes", "_law_lots", "_law_kind", "_law_go", "_law_some", "_law_mix", "_law_own", "_law_x"]) (sc := defScope s_planted) (by decide +kernel)) (fun _ _ _ _ _ => (pg_name (i := 4) nd rfl (by first | exact Or.inl rfl | exact Or.inr rfl))) (fun _ _ _ _ _ => pts_nil) (fun _ _ _ _ _ => (pe_bmK (K := K) PySem.F.plainAttrs_list PySem.F.slot_list_index PySem.F.type_list_index (mt_indexK (K := K)) (pv 5) (pa_cons (pv 4) pa_nil)))) (pa_cons (pe_lst pa_nil) (pa_cons (pe_lst pa_nil) pa_nil)))) (pg_tup rfl (pgs_cons (pg_name (i := 6) nd rfl (by first | exact Or.inl rfl | exact Or.inr rfl)) (pgs_cons (pg_name (i := 7) nd rfl (by first | exact Or.inl rfl | exact Or.inr rfl)) (pgs_cons (pg_name (i := 8) nd rfl (by first | exact Or.inl rfl | exact Or.inr rfl)) pgs_nil)))))
      (pss_cons (ps_for PassesOwn.never rfl (pi_range1 (by rfl) T.range (pa_cons (pe_callB call_len_seq (by rfl) T.len boot_len (pa_cons (pv 5) pa_nil)) pa_nil)) (pg_name (i := 9) nd rfl (by first | exact Or.inl rfl | exact Or.inr rfl))
        (pss_one (ps_expr (pe_bm PySem.F.plainAttrs_list PySem.F.slot_list_append PySem.F.type_list_append mt_append (pv 7) (pa_cons (pe_lc (own := [("_law_k", 4)]) (g := (gName 4)) (tt := tYes) rfl nd (pi_range1 (by rfl) T.range (pa_cons (pv 1) pa_nil)) (blkOk_by (own := [("_law_k", 4)]) (N := ["_law_deck_here", "_law_n", "_law_many", "_law_spots", "_law_k", "_law_kinds", "_law_where", "_law_mixes", "_law_lots", "_law_kind", "_law_go", "_law_some", "_law_mix", "_law_own", "_law_x"]) (sc := defScope s_planted) (by decide +kernel)) (fun _ _ _ _ _ => (pg_name (i := 4) nd rfl (by first | exact Or.inl rfl | exact Or.inr rfl))) (fun _ _ _ _ _ => pts_nil) (fun _ _ _ _ _ => (pe_ifExp (pt_cmpR op_lt (pe_ix (ix_listK (K := K)) (pv 6) (pv 4) (fun _ _ => rfl)) (pv 9) (nomark _)) (pe_op op_sub (pe_def D_draw (hr.mono (by decide)) hc (by rfl) (pa_cons (pv 0) (pa_cons pe_int pa_nil))) pe_int) pe_int))) pa_nil)))))
      (pss_cons (ps_for PassesOwn.never rfl (pi_range1 (by rfl) T.range (pa_cons (pv 2) pa_nil)) (pg_name (i := 10) nd rfl (by first | exact Or.inl rfl | exact Or.inr rfl))
        (pss_cons (ps_set (i := 11) nd rfl (by first | exact Or.inl rfl | exact Or.inr rfl) (pe_lc (own := [("_law_k", 4)]) (g := (gName 4)) (tt := tYes) rfl nd (pi_range1 (by rfl) T.range (pa_cons (pv 1) pa_nil)) (blkOk_by (own := [("_law_k", 4)]) (N := ["_law_deck_here", "_law_n", "_law_many", "_law_spots", "_law_k", "_law_kinds", "_law_where", "_law_mixes", "_law_lots", "_law_kind", "_law_go", "_law_some", "_law_mix", "_law_own", "_law_x"]) (sc := defScope s_planted) (by decide +kernel)) (fun _ _ _ _ _ => (pg_name (i := 4) nd rfl (by first | exact Or.inl rfl | exact Or.inr rfl))) (fun _ _ _ _ _ => pts_nil) (fun _ _ _ _ _ => (pe_op op_sub (pe_def D_draw (hr.mono (by decide)) hc (by rfl) (pa_cons (pv 0) (pa_cons pe_int pa_nil))) pe_int))))
        (pss_cons (ps_for PassesOwn.never rfl (pi_enum (by rfl) T.enumerate (pa_cons (pv 7) pa_nil)) (pg_tup rfl (pgs_cons (pg_name (i := 9) nd rfl (by first | exact Or.inl rfl | exact Or.inr rfl)) (pgs_cons (pg_name (i := 12) nd rfl (by first | exact Or.inl rfl | exact Or.inr rfl)) pgs_nil)))
          (pss_cons (ps_setLc (i := 13) (own := [("_law_k", 4)]) (g := (gName 4)) rfl nd rfl rfl (sw_true rfl rfl rfl (by decide +kernel)) (pi_range1 (by rfl) T.range (pa_cons (pv 1) pa_nil)) (blkOk_by (own := [("_law_k", 4)]) (N := ["_law_deck_here", "_law_n", "_law_many", "_law_spots", "_law_k", "_law_kinds", "_law_where", "_law_mixes", "_law_lots", "_law_kind", "_law_go", "_law_some", "_law_mix", "_law_own", "_law_x"]) (sc := defScope s_planted) (by decide +kernel)) (fun _ _ _ _ _ => (pg_name (i := 4) nd rfl (by first | exact Or.inl rfl | exact Or.inr rfl))) (fun _ _ _ _ _ => (pts_one (pt_cmpR op_eq (pe_ix (ix_listK (K := K)) (pv 6) (pv 4) (fun _ _ => rfl)) (pv 9) (nomark _)))) (fun _ _ _ _ _ => (pv 4)))
          (pss_one (ps_asg (pe_op op_sub (pe_def D_ldot (hr.mono (by decide)) hc (by rfl) (pa_cons (pv 12) (pa_cons (pv 11) pa_nil))) (pe_callB (cr_sum rfl) (by rfl) T.sum boot_sum (pa_cons (pe_lc (own := [("_law_k", 4)]) (g := (gName 4)) (tt := tYes) rfl nd (pi_list (pe_slice sl_list (pv 13) po_none (po_some (pe_un un_neg pe_int)))) (blkOk_by (own := [("_law_k", 4)]) (N := ["_law_deck_here", "_law_n", "_law_many", "_law_spots", "_law_k", "_law_kinds", "_law_where", "_law_mixes", "_law_lots", "_law_kind", "_law_go", "_law_some", "_law_mix", "_law_own", "_law_x"]) (sc := defScope s_planted) (by decide +kernel)) (fun _ _ _ _ _ => (pg_name (i := 4) nd rfl (by first | exact Or.inl rfl | exact Or.inr rfl))) (fun _ _ _ _ _ => pts_nil) (fun _ _ _ _ _ => (pe_ix (ix_listK (K := K)) (pv 11) (pv 4) (fun _ _ => rfl)))) pa_nil))) (pg_sub (pv 11) (pe_ix ix_list (pv 13) (pe_un un_neg pe_int) (fun _ _ => rfl)) set_list)))))
        (pss_one (ps_expr (pe_bm PySem.F.plainAttrs_list PySem.F.slot_list_append PySem.F.type_list_append mt_append (pv 8) (pa_cons (pe_ifExp (pt_cmpR op_lt (pe_callB (cr_max rfl) (by rfl) T.max boot_max (pa_cons (pe_lc (own := [("_law_x", 14)]) (g := (gName 14)) (tt := tYes) rfl nd (pi_list (pv 11)) (blkOk_by (own := [("_law_x", 14)]) (N := ["_law_deck_here", "_law_n", "_law_many", "_law_spots", "_law_k", "_law_kinds", "_law_where", "_law_mixes", "_law_lots", "_law_kind", "_law_go", "_law_some", "_law_mix", "_law_own", "_law_x"]) (sc := defScope s_planted) (by decide +kernel)) (fun _ _ _ _ _ => (pg_name (i := 14) nd rfl (by first | exact Or.inl rfl | exact Or.inr rfl))) (fun _ _ _ _ _ => pts_nil) (fun _ _ _ _ _ => (pe_callB call_abs (by rfl) T.abs boot_abs (pa_cons (pv 14) pa_nil)))) pa_nil)) pe_int (nomark _)) (pe_tupleOf (by rfl) T.tuple (pv 11)) (pe_op (op_repPK (K := K)) (pe_tup (pa_cons pe_int pa_nil)) (pv 1))) pa_nil)))))))
      (pss_one (ps_ret (pe_disp (pps_cons pe_str (pv 6) (pps_cons pe_str (pv 7) (pps_cons pe_str (pv 8) pps_nil))) rfl rfl (by decide) (by decide))))))))), ?_⟩
    -- the spots
    refine ⟨_, rfl, (n : Int), rfl, by omega, by omega, fun S nS => ?_⟩
    rw [Int.toNat_natCast]
    have offS := D.off nS
    refine lc_range (fun j Hy => ∃ ws : List Int, Hy S = some (.lst (ws.map V.int)) ∧ ws.length = j ∧ (∀ x ∈ ws, 0 ≤ x ∧ x < n) ∧ Dk ks Hy d g (b + 200 - j) ∧ Mv d g H Hy) ⟨[], upd_same, rfl, fun x h => (by cases h), D.new nS, Mv.of (Same.new nS)⟩ ?_ ?_
    · rintro j Hy hj ⟨ws, hC, lw, ew, Dy, My⟩
      have Dy : Dk ks Hy d g (b + 200 - (j + 1) + 1) := Dy.mono (by omega)
      refine ⟨rfl, _, rfl, _, rfl, d, g, (n : Int), _, rfl, Dy, by omega, bigN (by omega) (by omega), fun r Hz r0 r1 Dz Mz => ?_⟩
      refine ⟨_, Mz.at hC offS, by rw [List.length_map]; exact smallt (by omega), ws ++ [r], ?_, ?_, fun x hx => ?_, Dz.mut offS, (My.trans Mz).mut nS⟩
      · rw [upd_same, List.map_append]; rfl
      · rw [List.length_append, lw]; rfl
      · rcases List.mem_append.mp hx with hx | hx
        · exact ew x hx
        · rw [List.mem_singleton.mp hx]; omega
    rintro H1 ⟨spots, hS, sl, sm, D1, M1⟩
    have D1 : Dk ks H1 d g (b + 190) := D1.mono (by omega)
    -- the kinds
    refine ⟨_, rfl, S, spots, rfl, tofL hS, by omega, fun kinds Kd H2 s2 nKd hKd hpw hmem => ?_⟩
    have offKd : Kd ≠ d ∧ Kd ≠ g := D1.off nKd
    have hS2 := s2 _ _ hS
    have D2 := D1.same s2
    have M2 : Mv d g H H2 := M1.trans (Mv.of s2)
    have kl6 : kinds.length ≤ 6 := by
      have := asc_len kinds 0 n hpw (fun x hx => sm x ((hmem x).mp hx)) (by omega)
      omega
    obtain ⟨hkw, hko⟩ := wh_facts hpw hmem
    -- where, mixes, lots
    refine ⟨_, rfl, S, rfl, ⟨_, tofL hS2⟩, fun W nW => ?_⟩
    have offW := D2.off nW
    refine lc_list (K := K) (a := S) (xs := spots.map V.int) (fun i H3 => Same H2 H3 ∧ H3 W = some (.lst (((whOf kinds spots).take i).map vN))) ⟨Same.new nW, upd_same⟩ (fun i H3 _ h => tofL (h.1 _ _ hS2)) ?_ ?_
    · rintro i x H3 hi ⟨s3, hW⟩
      obtain ⟨z, rfl, il⟩ := ints_at hi
      have hz : spots[i]? = some z := by
        rw [List.getElem?_map] at hi
        cases e : spots[i]? with
        | none => rw [e] at hi; cases hi
        | some y => rw [e] at hi; cases hi; rfl
      have hk := (hmem z).mpr (List.mem_of_getElem? hz)
      obtain ⟨x1, x2⟩ := idx_factsI z kinds hk
      have hKd3 := s3 _ _ hKd
      refine ⟨rfl, _, rfl, ty_l (tofL hKd3), _, rfl, Kd, _, _, kinds.idxOf z, _, rfl, rfl, tofL hKd3, rfl, flat_ints kinds, (by rw [List.getElem?_map, x1]; rfl), (by rw [eqV_int]; exact decide_eq_true rfl), fun m' z' hm' hz' => ?_, _, hW, ?_, ?_, ?_⟩
      · rw [List.getElem?_map] at hz'
        cases e : kinds[m']? with
        | none => rw [e] at hz'; cases hz'
        | some y =>
          rw [e] at hz'
          cases hz'
          rw [eqV_int]
          exact decide_eq_false fun e2 => x2 m' hm' (by rw [e, e2])
      · rw [List.length_map, List.length_take]; exact smallt (by unfold whOf; rw [List.length_map]; omega)
      · intro p o hp
        rw [upd_ne (ne_of_none hp nW)]
        exact s3 _ _ hp
      · rw [upd_same, List.take_add_one, wh_at hz, List.map_append]; rfl
    rintro H3 ⟨s3, hW⟩
    rw [List.length_map, List.take_of_length_le (by unfold whOf; rw [List.length_map]; omega)] at hW
    have wl : (whOf kinds spots).length = n := by unfold whOf; rw [List.length_map]; exact sl
    generalize whOf kinds spots = wh at *
    have D3 := D2.same s3
    have M3 : Mv d g H H3 := M2.trans (Mv.of s3)
    have hKd3 := s3 _ _ hKd
    refine ⟨Nat.zero_le _, fun M nM => ⟨Nat.zero_le _, fun Lo nLo => ⟨(show 3 ≤ sizeLine from small (by decide)), fun tt ntt => ?_⟩⟩⟩
    have nLo3 : H3 Lo = none := (Same.new nM).free nLo
    have offM := D3.off nM
    have offLo := D3.off nLo3
    have nML : M ≠ Lo := ne_of_none upd_same nLo
    have s4 : Same H3 (upd (upd (upd H3 M (.lst [])) Lo (.lst [])) tt (.tup [.ref W, .ref M, .ref Lo])) := ((Same.new nM).trans (Same.new nLo)).trans (Same.new ntt)
    have hM4 : upd (upd (upd H3 M (.lst [])) Lo (.lst [])) tt (.tup [.ref W, .ref M, .ref Lo]) M = some (.lst []) := Same.new ntt _ _ (Same.new nLo _ _ upd_same)
    have hLo4 : upd (upd (upd H3 M (.lst [])) Lo (.lst [])) tt (.tup [.ref W, .ref M, .ref Lo]) Lo = some (.lst []) := Same.new ntt _ _ upd_same
    refine ⟨tt, _, rfl, tofT upd_same, rfl, _, _, rfl, _, _, rfl, _, _, rfl, rfl, ?_⟩
    generalize upd (upd (upd H3 M (.lst [])) Lo (.lst [])) tt (.tup [.ref W, .ref M, .ref Lo]) = H4 at *
    have atK : ∀ Hx, Mv d g H3 Hx → Hx Kd = some (.lst (kinds.map V.int)) := fun Hx m' => m'.at hKd3 offKd
    have atW : ∀ Hx, Mv d g H3 Hx → Hx W = some (.lst (wh.map vN)) := fun Hx m' => m'.at hW offW
    -- the mixes
    refine ⟨_, rfl, Kd, _, rfl, .inl (tofL (s4 _ _ hKd3)), _, rfl, by omega, by rw [List.length_map]; omega, ?_⟩
    rw [List.length_map, Int.toNat_natCast]
    refine for_range (fun i σ Hx => ∃ (xs : List V) (mixes : List (List Int)) (v9 : Option V), σ = [some (.ref d), some (.int (n : Int)), some (.int (m : Int)), some (.ref S), none, some (.ref Kd), some (.ref W), some (.ref M), some (.ref Lo), v9, none, none, none, none, none] ∧
        Hx M = some (.lst xs) ∧ LsAt [g, M, Lo] Hx xs mixes ∧ mixes.length = i ∧ (∀ (j : Nat) (mx : List Int), mixes[j]? = some mx → Supp wh j mx) ∧ (∀ mx ∈ mixes, ∀ x ∈ mx, -1 ≤ x ∧ x ≤ 1) ∧ Hx Lo = some (.lst []) ∧ Dk ks Hx d g (b + 190 - 10 * i) ∧ Mv d g H3 Hx)
      ⟨[], [], none, rfl, hM4, .nil, rfl, fun j mx h => (by cases h), fun mx h => (by cases h), hLo4, D3.same s4, Mv.of s4⟩ ?_ ?_
    · rintro i σ Hx hi ⟨xs, mixes, v9, rfl, hM, hX, xl, sp, bd, hLo, Dx, Mx⟩
      refine ⟨_, rfl, ty_l (tofL hM), ?_⟩
      refine ⟨_, rfl, (n : Int), rfl, by omega, by omega, fun C nC => ?_⟩
      rw [Int.toNat_natCast]
      have offC := Dx.off nC
      have nMC : M ≠ C := ne_of_none hM nC
      obtain ⟨B, eB⟩ : ∃ B, B = b + 190 - 10 * (i + 1) := ⟨_, rfl⟩
      have Dx : Dk ks Hx d g (B + 10) := Dx.mono (by omega)
      refine lc_range (fun j Hy => ∃ ws : List Int, Hy C = some (.lst (ws.map V.int)) ∧ ws.length = j ∧ (∀ (k w : Nat), k < j → wh[k]? = some w → i ≤ w → ws[k]? = some 0) ∧ (∀ x ∈ ws, -1 ≤ x ∧ x ≤ 1) ∧ Dk ks Hy d g (B + 10 - j) ∧ Mv d g Hx Hy) ⟨[], upd_same, rfl, fun k w h => (by omega), fun x h => (by cases h), Dx.new nC, Mv.of (Same.new nC)⟩ ?_ ?_
      · rintro j Hy hj ⟨ws, hC, lw, zr, bdw, Dy, My⟩
        have Dy : Dk ks Hy d g (B + 10 - (j + 1) + 1) := Dy.mono (by omega)
        have e0 : wh[j]? = some (wh[j]'(by omega)) := List.getElem?_eq_getElem _
        have e1 : (wh.map vN)[j]? = some (.int ((wh[j]'(by omega) : Nat) : Int)) := by rw [List.getElem?_map, e0]; rfl
        have step : ∀ (x : Int), (∀ w, wh[j]? = some w → i ≤ w → x = 0) → ∀ (k w : Nat), k < j + 1 → wh[k]? = some w → i ≤ w → (ws ++ [x])[k]? = some 0 := fun x hx k w hk hw hiw => by
          by_cases hkj : k < j
          · rw [List.getElem?_append_left (by omega)]; exact zr k w hkj hw hiw
          · have ek : k = ws.length := by omega
            subst ek
            rw [List.getElem?_append_right (Nat.le_refl _), Nat.sub_self, hx w (by rw [← lw]; exact hw) hiw]; rfl
        have mem1 : ∀ (x : Int), -1 ≤ x ∧ x ≤ 1 → ∀ y ∈ ws ++ [x], -1 ≤ y ∧ y ≤ 1 := fun x hx y hy => by
          rcases List.mem_append.mp hy with hy | hy
          · exact bdw y hy
          · rw [List.mem_singleton.mp hy]; exact hx
        refine ⟨rfl, _, rfl, _, rfl, W, _, _, _, rfl, rfl, tofL (atW Hy (Mx.trans My)), at_of (by omega) e1, _, rfl, _, _, rfl, rfl, _, rfl, ite2 (fun e => ?_) (fun e => ?_)⟩
        · have e' := of_decide_eq_true e
          refine ⟨_, rfl, d, g, 3, _, rfl, Dy, by decide, bigN (by decide) (by decide), fun r Hz r0 r1 Dz Mz => ?_⟩
          refine ⟨_, _, rfl, rfl, _, Mz.at hC offC, by rw [List.length_map]; exact smallt (by omega), ws ++ [r - 1], ?_, ?_, step _ fun w hw hiw => ?_, mem1 _ ⟨by omega, by omega⟩, Dz.mut offC, (My.trans Mz).mut nC⟩
          · rw [upd_same, List.map_append]; rfl
          · rw [List.length_append, lw]; rfl
          · rw [e0] at hw
            have := Option.some.inj hw
            omega
        · refine ⟨_, hC, by rw [List.length_map]; exact smallt (by omega), ws ++ [0], ?_, ?_, step _ fun w hw hiw => rfl, mem1 _ ⟨by decide, by decide⟩, (Dy.mono (by omega)).mut offC, My.mut nC⟩
          · rw [upd_same, List.map_append]; rfl
          · rw [List.length_append, lw]; rfl
      rintro Hy ⟨ws, hC, lw, zr, bdw, Dy, My⟩
      have hMy := My.at hM offM
      refine ⟨M, _, _, rfl, rfl, hMy, by rw [hX.len, xl]; exact smallt (by omega), xs ++ [.ref C], mixes ++ [ws], _, rfl, upd_same, ?_, ?_, ?_, ?_, ?_, (Dy.mono (by omega)).mut offM, (Mx.trans My).mut nM⟩
      · refine (((hX.mv Dx My (by simp)).upd (by simp))).snoc ?_ (by rw [upd_ne nMC.symm]; exact hC)
        intro z
        rcases List.mem_cons.mp z with z | z
        · exact offC.2 z
        rcases List.mem_cons.mp z with z | z
        · exact nMC.symm z
        · exact (ne_of_none hLo nC).symm (List.mem_singleton.mp z)
      · rw [List.length_append, xl]; rfl
      · intro j mx hj
        by_cases hlt : j < mixes.length
        · rw [List.getElem?_append_left hlt] at hj; exact sp j mx hj
        · rw [List.getElem?_append_right (by omega)] at hj
          have ej : j - mixes.length = 0 := by
            cases e : j - mixes.length with
            | zero => rfl
            | succ q => rw [e] at hj; simp at hj
          rw [ej] at hj
          cases hj
          have eji : j = i := by omega
          subst eji
          exact ⟨by omega, fun k w hk hw => zr k w (by have := (List.getElem?_eq_some_iff.mp hk).1; omega) hk hw⟩
      · intro mx hx
        rcases List.mem_append.mp hx with hx | hx
        · exact bd mx hx
        · rw [List.mem_singleton.mp hx]; exact bdw
      · rw [upd_ne nML.symm]; exact My.at hLo offLo
    rintro σ Hx ⟨xs, mixes, v9, rfl, hM, hX, xl, sp, bd, hLo, Dx, Mx⟩
    have Dx : Dk ks Hx d g (b + 60) := Dx.mono (by omega)
    -- the lots
    refine ⟨_, rfl, (m : Int), rfl, by omega, by omega, ?_⟩
    rw [Int.toNat_natCast]
    refine for_range (fun i σ Hx => ∃ (ys : List V) (lots : List (List Int)) (v9 v10 v11 v12 v13 : Option V), σ = [some (.ref d), some (.int (n : Int)), some (.int (m : Int)), some (.ref S), none, some (.ref Kd), some (.ref W), some (.ref M), some (.ref Lo), v9, v10, v11, v12, v13, none] ∧
        Hx M = some (.lst xs) ∧ LsAt [g, M, Lo] Hx xs mixes ∧ Hx Lo = some (.lst ys) ∧ MvAt Hx ys lots ∧ lots.length = i ∧ (∀ fs ∈ lots, Eqn wh mixes mixes.length fs ∧ Fine n fs) ∧ Dk ks Hx d g (b + 60 - 10 * i) ∧ Mv d g H3 Hx)
      ⟨[], [], v9, none, none, none, none, rfl, hM, hX, hLo, .nil, rfl, fun fs h => (by cases h), Dx, Mx⟩ ?_ ?_
    · rintro i σ Hx hi ⟨ys, lots, v9, v10, v11, v12, v13, rfl, hM, hX, hLo, hY, yl, ok, Dx, Mx⟩
      obtain ⟨B, eB⟩ : ∃ B, B = b + 60 - 10 * (i + 1) := ⟨_, rfl⟩
      have Dx : Dk ks Hx d g (B + 10) := Dx.mono (by omega)
      refine ⟨_, rfl, (n : Int), rfl, by omega, by omega, fun C nC => ?_⟩
      rw [Int.toNat_natCast]
      have offC := Dx.off nC
      have nMC : M ≠ C := ne_of_none hM nC
      have nLC : Lo ≠ C := ne_of_none hLo nC
      refine lc_range (fun j Hy => ∃ ws : List Int, Hy C = some (.lst (ws.map V.int)) ∧ ws.length = j ∧ Dk ks Hy d g (B + 10 - j) ∧ Mv d g Hx Hy) ⟨[], upd_same, rfl, Dx.new nC, Mv.of (Same.new nC)⟩ ?_ ?_
      · rintro j Hy hj ⟨ws, hC, lw, Dy, My⟩
        have Dy : Dk ks Hy d g (B + 10 - (j + 1) + 1) := Dy.mono (by omega)
        refine ⟨rfl, _, rfl, d, g, 5, _, rfl, Dy, by decide, bigN (by decide) (by decide), fun r Hz r0 r1 Dz Mz => ?_⟩
        refine ⟨_, _, rfl, rfl, _, Mz.at hC offC, by rw [List.length_map]; exact smallt (by omega), ws ++ [r - 2], ?_, ?_, Dz.mut offC, (My.trans Mz).mut nC⟩
        · rw [upd_same, List.map_append]; rfl
        · rw [List.length_append, lw]; rfl
      rintro Hy ⟨ws, hC, lw, Dy, My⟩
      have Dy : Dk ks Hy d g B := Dy.mono (by omega)
      refine ⟨_, rfl, M, xs, rfl, tofL (My.at hM offM), ?_⟩
      refine for_it (walk_enum (K := K) (a := M) (xs := xs)) (fun i2 σ Hz => ∃ (ws : List Int) (u9 u12 u13 : Option V), σ = [some (.ref d), some (.int (n : Int)), some (.int (m : Int)), some (.ref S), none, some (.ref Kd), some (.ref W), some (.ref M), some (.ref Lo), u9, some (.int (0 + (i : Nat))), some (.ref C), u12, u13, none] ∧
          Hz C = some (.lst (ws.map V.int)) ∧ ws.length = n ∧ Eqn wh mixes i2 ws ∧ Dk ks Hz d g B ∧ Mv d g Hx Hz) ⟨ws, _, _, _, rfl, hC, lw, fun j mx h => (by omega), Dy, My⟩ (fun i2 σ Hz _ ⟨_, _, _, _, _, _, _, _, _, Mz⟩ => tofL (Mz.at hM offM)) ?_ ?_
      · rintro i2 x σ Hz Ht hi2 ⟨ws, u9, u12, u13, rfl, hC, lw, he, Dz, Mz⟩ ⟨t, u, v, rfl, nt, rfl, f1, f2⟩
        have e1 : u = .int (i2 : Nat) := (Option.some.inj f1).symm
        subst e1
        obtain ⟨q1, mx, rfl, nq1, hq1, hmx⟩ := (hX.mv Dx Mz (by simp)).get f2
        have i2l : i2 < mixes.length := (List.getElem?_eq_some_iff.mp hmx).1
        refine ⟨t, _, rfl, tofT upd_same, rfl, _, _, rfl, _, _, rfl, rfl, ?_⟩
        have sn := Same.new (o := .tup [V.int (i2 : Nat), .ref q1]) nt
        have Mu : Mv d g Hx (upd Hz t (.tup [V.int (i2 : Nat), .ref q1])) := Mz.trans (Mv.of sn)
        have Du := Dz.same sn
        have hCu := sn _ _ hC
        have hqu := sn _ _ hq1
        generalize upd Hz t (.tup [V.int (i2 : Nat), .ref q1]) = Hu at *
        have hWu := atW Hu (Mx.trans Mu)
        refine ⟨_, rfl, (n : Int), rfl, by omega, by omega, fun Ow nOw => ?_⟩
        rw [Int.toNat_natCast]
        refine lc_range (fun j Hv => Same Hu Hv ∧ Hv Ow = some (.lst ((ownTo i2 wh j).map vN))) ⟨Same.new nOw, upd_same⟩ ?_ ?_
        · rintro j Hv hj ⟨sv, hO⟩
          have e0 : wh[j]? = some (wh[j]'(by omega)) := List.getElem?_eq_getElem _
          have e1 : (wh.map vN)[j]? = some (.int ((wh[j]'(by omega) : Nat) : Int)) := by rw [List.getElem?_map, e0]; rfl
          refine ⟨rfl, _, rfl, _, rfl, W, _, _, _, rfl, rfl, tofL (sv _ _ hWu), at_of (by omega) e1, _, rfl, rfl, _, rfl, ?_⟩
          rw [dec_int]
          refine ite2 (fun e => ?_) (fun e => ?_)
          · have e' := of_decide_eq_true e
            refine ⟨_, rfl, _, hO, ?_, ?_, ?_⟩
            · rw [List.length_map]
              unfold ownTo
              have := List.length_filter_le (fun k => decide (wh[k]? = some i2)) (List.range j)
              rw [List.length_range] at this
              exact smallt (by omega)
            · intro c u hc'
              rw [upd_ne (ne_of_none hc' nOw)]
              exact sv _ _ hc'
            · rw [upd_same, ownTo_succ, if_pos (by rw [e0]; congr 1; omega), List.map_append]
              show some (HO.lst (_ ++ [V.int (0 + (j : Nat))])) = some (HO.lst (_ ++ [V.int (j : Int)]))
              rw [Int.zero_add]
          · refine ⟨sv, ?_⟩
            rw [ownTo_succ, if_neg (fun z => e (decide_eq_true (by rw [e0] at z; have := Option.some.inj z; omega))), List.append_nil]
            exact hO
        rintro Hv ⟨sv, hO⟩
        obtain ⟨k0, hk0⟩ := hko i2 (by omega)
        have own_ne : ownTo i2 wh n ≠ [] := fun z => by
          have : k0 ∈ ownTo i2 wh n := ownTo_mem.mpr ⟨by have := (List.getElem?_eq_some_iff.mp hk0).1; omega, hk0⟩
          rw [z] at this
          cases this
        obtain ⟨own, a, eo⟩ : ∃ own a, ownTo i2 wh n = own ++ [a] := ⟨_, _, (List.dropLast_concat_getLast own_ne).symm⟩
        have own_lt : ∀ k ∈ own ++ [a], k < n := fun k hk => (ownTo_mem.mp (eo ▸ hk)).1
        have al : a < ws.length := by rw [lw]; exact own_lt a (List.mem_append_right _ List.mem_cons_self)
        have hCv := sv _ _ hCu
        have hqv := sv _ _ hqu
        have mxm := List.mem_of_getElem? hmx
        refine ⟨_, rfl, _, rfl, q1, C, mx, ws, rfl, tofL hqv, hCv, ⟨_, hqv⟩, by rw [(sp i2 mx hmx).1]; omega, by rw [(sp i2 mx hmx).1]; omega, fun x hx => by have := bd mx mxm x hx; exact ⟨by omega, by omega⟩, fun H5 s5 => ?_⟩
        have hO5 := s5 _ _ hO
        have hC5 := s5 _ _ hCv
        refine ⟨_, rfl, 1, rfl, _, rfl, Ow, _, rfl, tofL hO5, fun sl nsl => ?_⟩
        rw [eo, List.map_append, show cutV (List.map vN own ++ List.map vN [a]) none (some (-1)) = own.map vN from cut_last _ _]
        have s6 : Same H5 (upd H5 sl (.lst (own.map vN))) := Same.new nsl
        have hsl : upd H5 sl (.lst (own.map vN)) sl = some (.lst (own.map vN)) := upd_same
        generalize upd H5 sl (.lst (own.map vN)) = H6 at *
        have hC6 := s6 _ _ hC5
        have hO6 := s6 _ _ hO5
        refine ⟨sl, rfl, ⟨_, tofL hsl⟩, fun Sm nSm => ?_⟩
        refine lc_list (K := K) (a := sl) (xs := own.map vN) (fun j Hw => Same H6 Hw ∧ Hw Sm = some (.lst (((own.take j).map fun k => ws.getD k 0).map V.int))) ⟨Same.new nSm, upd_same⟩ (fun j Hw _ h => tofL (h.1 _ _ hsl)) ?_ ?_
        · rintro j x Hw hj ⟨sw, hSm⟩
          obtain ⟨k, hk, rfl⟩ : ∃ k, own[j]? = some k ∧ x = vN k := by
            rw [List.getElem?_map] at hj
            cases e : own[j]? with
            | none => rw [e] at hj; cases hj
            | some k => rw [e] at hj; exact ⟨k, rfl, (Option.some.inj hj).symm⟩
          have kl : k < ws.length := by rw [lw]; exact own_lt k (List.mem_append_left _ (List.mem_of_getElem? hk))
          have jl := (List.getElem?_eq_some_iff.mp hk).1
          have ex : (ws.map V.int)[k]? = some (.int (ws.getD k 0)) := by
            rw [List.getElem?_map, List.getElem?_eq_getElem kl, getD_of (List.getElem?_eq_getElem kl)]; rfl
          refine ⟨rfl, _, rfl, _, rfl, C, _, _, _, rfl, rfl, tofL (sw _ _ hC6), atI_nat ex, _, hSm, ?_, ?_, ?_⟩
          · rw [List.length_map, List.length_map, List.length_take]
            have : own.length ≤ n := by
              have h1 := List.length_filter_le (fun k => decide (wh[k]? = some i2)) (List.range n)
              have h2 : (ownTo i2 wh n).length = own.length + 1 := by rw [eo, List.length_append]; rfl
              unfold ownTo at h2
              rw [List.length_range] at h1
              omega
            exact smallt (by omega)
          · intro c u hc'
            rw [upd_ne (ne_of_none hc' nSm)]
            exact sw _ _ hc'
          · rw [upd_same, List.take_add_one, hk, List.map_append, List.map_append]; rfl
        rintro Hw ⟨sw, hSm⟩
        rw [List.length_map, List.take_length] at hSm
        have hCw := sw _ _ hC6
        have hOw := sw _ _ hO6
        refine ⟨Sm, _, rfl, tofL hSm, _, _, rfl, rfl, ?_⟩
        refine ⟨_, rfl, _, rfl, 1, rfl, Ow, _, _, _, rfl, rfl, tofL hOw, (by rw [eo, List.map_append]; exact atI_last _ _), C, _, (a : Int), a, rfl, rfl, hCw, (by rw [ixN_of (by omega) (by rw [List.length_map]; omega), Int.toNat_natCast]), ?_⟩
        have sall : Same Hu Hw := sv.trans (s5.trans (s6.trans sw))
        refine ⟨ws.set a (dotI mx ws - (own.map fun k => ws.getD k 0).sum), _, _, _, rfl, ?_, ?_, ?_, (Du.same sall).mut offC, (Mu.trans (Mv.of sall)).mut nC⟩
        · rw [upd_same, List.map_set]
        · rw [List.length_set]; exact lw
        · exact eqn_step (by rw [lw, wl]) sp he hmx (by rw [wl]; exact eo) (List.getElem?_eq_getElem al)
      · rintro σ Hz ⟨ws, u9, u12, u13, rfl, hC, lw, he, Dz, Mz⟩
        rw [hX.len] at he
        have hLoz := Mz.at hLo offLo
        have hMz := Mz.at hM offM
        have fin : ∀ (Hw : Hp) (t : Addr) (fs : List Int), Same Hz Hw → Hw t = some (.tup (fs.map V.int)) → Eqn wh mixes mixes.length fs → Fine n fs →
            Hw Lo = some (.lst ys) ∧ upd Hw Lo (.lst (ys ++ [.ref t])) M = some (.lst xs) ∧ LsAt [g, M, Lo] (upd Hw Lo (.lst (ys ++ [.ref t]))) xs mixes ∧ MvAt (upd Hw Lo (.lst (ys ++ [.ref t]))) (ys ++ [.ref t]) (lots ++ [fs]) ∧
            (lots ++ [fs]).length = i + 1 ∧ (∀ fs' ∈ lots ++ [fs], Eqn wh mixes mixes.length fs' ∧ Fine n fs') ∧ Dk ks (upd Hw Lo (.lst (ys ++ [.ref t]))) d g (b + 60 - 10 * (i + 1)) ∧ Mv d g H3 (upd Hw Lo (.lst (ys ++ [.ref t]))) := by
          intro Hw t fs sw ht ef ff
          have hLow := sw _ _ hLoz
          refine ⟨hLow, ?_, ?_, ?_, ?_, fun fs' h => ?_, ((Dz.same sw).mono (by omega)).mut offLo, ((Mx.trans Mz).trans (Mv.of sw)).mut nLo3⟩
          · rw [upd_ne nML]; exact sw _ _ hMz
          · exact ((hX.mv Dx Mz (by simp)).same sw).upd (by simp)
          · have kt : ∀ b us, Hw b = some (.tup us) → upd Hw Lo (.lst (ys ++ [.ref t])) b = some (.tup us) := fun b us hb => by
              rw [upd_ne (fun e => by rw [e, hLow] at hb; cases hb)]
              exact hb
            exact (((hY.to (Kp.mv Dx Mz).tups).to (tups_same sw)).to kt).snoc (kt _ _ ht)
          · rw [List.length_append, yl]; rfl
          · rcases List.mem_append.mp h with h | h
            · exact ok fs' h
            · rw [List.mem_singleton.mp h]; exact ⟨ef, ff⟩
        refine ⟨_, rfl, ty_l (tofL hLoz), _, rfl, C, rfl, ⟨_, tofL hC⟩, fun Ab nAb => ?_⟩
        refine lc_list (K := K) (a := C) (xs := ws.map V.int) (fun j Hv => Same Hz Hv ∧ Hv Ab = some (.lst (((ws.take j).map fun x => if x < 0 then -x else x).map V.int))) ⟨Same.new nAb, upd_same⟩ (fun j Hv _ h => tofL (h.1 _ _ hC)) ?_ ?_
        · rintro j x Hv hj ⟨sv, hA⟩
          obtain ⟨z, hz, rfl⟩ : ∃ z, ws[j]? = some z ∧ x = .int z := by
            rw [List.getElem?_map] at hj
            cases e : ws[j]? with
            | none => rw [e] at hj; cases hj
            | some k => rw [e] at hj; exact ⟨k, rfl, (Option.some.inj hj).symm⟩
          have jl := (List.getElem?_eq_some_iff.mp hz).1
          refine ⟨rfl, _, rfl, z, rfl, _, hA, ?_, ?_, ?_⟩
          · rw [List.length_map, List.length_map, List.length_take]; exact smallt (by omega)
          · intro c u hc'
            rw [upd_ne (ne_of_none hc' nAb)]
            exact sv _ _ hc'
          · rw [upd_same, List.take_add_one, hz, List.map_append, List.map_append]; rfl
        rintro Hv ⟨sv, hA⟩
        rw [List.length_map, List.take_length] at hA
        have yl3 : ys.length ≤ 4 := by rw [hY.len]; omega
        refine ⟨Ab, _, rfl, tofL hA, by rw [List.length_map]; omega, fun mx hmx hle => ⟨_, _, rfl, rfl, _, rfl, ite2 (fun e => ?_) (fun e => ?_)⟩⟩
        · have e' := of_decide_eq_true e
          refine ⟨_, rfl, .inl ⟨C, _, rfl, tofL (sv _ _ hC), fun t nt => ?_⟩⟩
          obtain ⟨x0, x1, x2, x3, x4, x5, x6, x7⟩ := fin _ t ws (sv.trans (Same.new nt)) upd_same he ⟨lw, fun f hf => ab_bd (hle _ (List.mem_map.mpr ⟨f, hf, rfl⟩)) e'⟩
          exact ⟨Lo, _, _, rfl, rfl, x0, smallt (by omega), _, _, _, _, _, _, _, rfl, x1, x2, upd_same, x3, x4, x5, x6, x7⟩
        · have zf : Fine n (List.replicate n 0) := ⟨List.length_replicate, fun f hf => by rw [(List.mem_replicate.mp hf).2]; exact ⟨by decide, by decide⟩⟩
          refine ⟨(show 1 ≤ sizeLine from small (by decide)), fun t0 nt0 => ⟨_, rfl, t0, (n : Int), [V.int 0], rfl, rfl, tofT upd_same, (fun z => nomatch z), by omega, by omega, (show 1 ≤ 1000 by decide), fun h1 => ?_, fun h2 t nt => ?_⟩⟩
          · have en : n = 1 := by omega
            subst en
            obtain ⟨x0, x1, x2, x3, x4, x5, x6, x7⟩ := fin _ t0 (List.replicate 1 0) (sv.trans (Same.new nt0)) upd_same (eqn_zero _ _ _ _) zf
            exact ⟨Lo, _, _, rfl, rfl, x0, smallt (by omega), _, _, _, _, _, _, _, rfl, x1, x2, upd_same, x3, x4, x5, x6, x7⟩
          · obtain ⟨x0, x1, x2, x3, x4, x5, x6, x7⟩ := fin (upd (upd Hv t0 (.tup [V.int 0])) t (.tup (List.replicate (n : Int).toNat [V.int 0]).flatten)) t (List.replicate n 0) ((sv.trans (Same.new nt0)).trans (Same.new nt)) (by rw [upd_same, Int.toNat_natCast, List.flatten_replicate_singleton, List.map_replicate]) (eqn_zero _ _ _ _) zf
            exact ⟨Lo, _, _, rfl, rfl, x0, smallt (by omega), _, _, _, _, _, _, _, rfl, x1, x2, upd_same, x3, x4, x5, x6, x7⟩
    · rintro σ Hx ⟨ys, lots, v9, v10, v11, v12, v13, rfl, hM, hX, hLo, hY, yl, ok, Dx, Mx⟩
      intro p np
      have offp := Dx.off np
      refine ⟨_, rfl, _, rfl, _, rfl, upd_same, planD W M Lo, rfl, (show 3 ≤ 15 by decide), ?_⟩
      rw [show mergeK [] (planD W M Lo) = planD W M Lo from merge3 (by decide +kernel) (by decide +kernel) (by decide +kernel) _ _ _, upd_upd]
      have sp' := Same.new (o := .dK (planD W M Lo)) np
      exact q p W M Lo xs ys wh mixes lots _ ((Dx.mono (by omega)).new np) (M3.trans (Mx.trans (Mv.of sp'))) upd_same offp.1 offW.2 offM.2 offLo.2 (sp' _ _ (atW Hx Mx)) (sp' _ _ hM) ((hX.same sp').weak (by simp)) (sp' _ _ hLo) (hY.to (tups_same sp')) yl
        ⟨wl, sp, fun k w hk => by rw [xl]; exact hkw k w hk, fun fs h => (ok fs h).1, fun fs h => (ok fs h).2, by omega, bd⟩
end
end NK29
namespace NK29
open PySem PySem.Spec PyProof.Rows L2 GL RZ G3
/-- whether a move sets two names apart -/
def dif (ns : List Str) (x y : Str) (mv : List Int) : Bool := !decide (mv.getD (ns.idxOf x) 0 = mv.getD (ns.idxOf y) 0)
abbrev Prs := List (Str × Str)
def partd (ns : List Str) (mvs : List (List Int)) (prs : Prs) : Bool := prs.all fun p => mvs.any (dif ns p.1 p.2)
def alikeB (n : Nat) (rows : List Row) (marks : List Rst) (k : Int) : Bool := dueB rows marks (List.replicate n k)
inductive PrsAt (H : Hp) : List V → Prs → Prop
  | nil : PrsAt H [] []
  | cons {p : Addr} {x y : Str} {xs : List V} {ps : Prs} : H p = some (.tup [.str x, .str y]) → PrsAt H xs ps → PrsAt H (.ref p :: xs) ((x, y) :: ps)
theorem PrsAt.len {H : Hp} : ∀ {xs : List V} {ps : Prs}, PrsAt H xs ps → xs.length = ps.length
  | _, _, .nil => rfl
  | _, _, .cons _ t => congrArg Nat.succ t.len
theorem PrsAt.to {H H' : Hp} (k : ∀ a xs, H a = some (.tup xs) → H' a = some (.tup xs)) : ∀ {xs : List V} {ps : Prs}, PrsAt H xs ps → PrsAt H' xs ps
  | _, _, .nil => .nil
  | _, _, .cons a t => .cons (k _ _ a) (t.to k)
theorem PrsAt.snoc {H : Hp} {p : Addr} {x y : Str} (h : H p = some (.tup [.str x, .str y])) : ∀ {xs : List V} {ps : Prs}, PrsAt H xs ps → PrsAt H (xs ++ [.ref p]) (ps ++ [(x, y)])
  | _, _, .nil => .cons h .nil
  | _, _, .cons a t => .cons a (t.snoc h)
theorem PrsAt.get {H : Hp} : ∀ {xs : List V} {ps : Prs} {i : Nat} {v : V}, PrsAt H xs ps → xs[i]? = some v → ∃ p x y, v = .ref p ∧ H p = some (.tup [.str x, .str y]) ∧ ps[i]? = some (x, y)
  | _, _, _, _, .nil, e => by cases e
  | _, _, 0, _, .cons a t, e => by cases e; exact ⟨_, _, _, rfl, a, rfl⟩
  | _, _, i + 1, _, .cons a t, e => PrsAt.get (i := i) t (by simpa using e)
theorem idx_factsS (z : Str) : ∀ ns : List Str, z ∈ ns → ns[ns.idxOf z]? = some z ∧ ∀ m, m < ns.idxOf z → ns[m]? ≠ some z
  | [], h => nomatch h
  | y :: r, h => by
    by_cases e : y = z
    · subst e
      rw [List.idxOf_cons_self]
      exact ⟨rfl, fun m hm => absurd hm (Nat.not_lt_zero m)⟩
    · have hr : z ∈ r := (List.mem_cons.mp h).resolve_left (fun q => e q.symm)
      obtain ⟨h1, h2⟩ := idx_factsS z r hr
      have ei : (y :: r).idxOf z = r.idxOf z + 1 := by
        rw [List.idxOf_cons, show (y == z) = false from beq_eq_false_iff_ne.mpr e]; rfl
      rw [ei]
      refine ⟨by rw [List.getElem?_cons_succ]; exact h1, fun m hm => ?_⟩
      cases m with
      | zero => simpa using e
      | succ m => rw [List.getElem?_cons_succ]; exact h2 m (by omega)
/-- values that get told about -/
inductive Th where
  | alike (k : Int)
  | form (k Fa : Int) (wh : List Nat) (mvs : List (List Int))
def ThAt (H : Hp) (a : Addr) : Th → Prop
  | .alike k => H a = some (.tup [.str "alike", .int k])
  | .form k Fa wh mvs => ∃ f, H a = some (.tup [.str "form", .int k, .ref f]) ∧ FormAt H f Fa wh mvs
theorem ThAt.kp {H H' : Hp} {a : Addr} {th : Th} (h : ThAt H a th) (k : Kp H H') : ThAt H' a th := by
  cases th with
  | alike j => exact k.tups _ _ h
  | form j Fa wh mvs =>
    obtain ⟨f, h1, h2⟩ := h
    exact ⟨f, k.tups _ _ h1, h2.kp k⟩
def Th.ok (n : Nat) (lots : List (List Int)) (marks : List Rst) : Th → Prop
  | .alike k => -2000 ≤ k ∧ k ≤ 2000
  | .form k Fa wh mvs => (-2000 ≤ k ∧ k ≤ 2000) ∧ FOk n lots marks Fa wh mvs ∧ mvs.length ≤ 12 ∧ Bd (2 ^ 60) Fa mvs
def vh (ns : List Str) (rows : List Row) (marks : List Rst) (prs : Prs) : Th → Bool
  | .alike k => decide (prs = []) && alikeB ns.length rows marks k && decide (1 ≤ k)
  | .form k _ _ mvs => alikeB ns.length rows marks k && partd ns mvs prs
def spDif (K : PySem.W.Frag) (C : Addr) : Sp := fun vs H Q _ => ∃ (a r : Addr) (x y : Str) (ns : List Str) (rows : List Row) (marks : List Rst) (mv : List Int), vs = [.ref a, .ref r, .str x, .str y] ∧ SysN K C H a ns rows marks ∧ H r = some (.tup (mv.map V.int)) ∧ mv.length = ns.length ∧ x ∈ ns ∧ y ∈ ns ∧ Q (.bl (dif ns x y mv)) H
def spUnl (K : PySem.W.Frag) (C : Addr) : Sp := fun vs H Q _ => ∃ (a tm u : Addr) (xs us : List V) (ns : List Str) (rows : List Row) (marks : List Rst) (mvs : List (List Int)) (prs : Prs), vs = [.ref a, .ref tm, .ref u] ∧ SysN K C H a ns rows marks ∧ H tm = some (.tup xs) ∧ MvAt H xs mvs ∧ (∀ mv ∈ mvs, mv.length = ns.length) ∧
  mvs.length ≤ 100 ∧ SqT K H u us ∧ PrsAt H us prs ∧ prs.length ≤ 100 ∧ (∀ p ∈ prs, p.1 ∈ ns ∧ p.2 ∈ ns) ∧ ∀ H', Same H H' → Q (.bl (partd ns mvs prs)) H'
def spAlike (K : PySem.W.Frag) (C : Addr) : Sp := fun vs H Q _ => ∃ (a : Addr) (k : Int) (ns : List Str) (rows : List Row) (marks : List Rst), vs = [.ref a, .int k] ∧ SysN K C H a ns rows marks ∧ 1 ≤ ns.length ∧ ns.length ≤ 100 ∧ rows.length ≤ 100 ∧ marks.length ≤ 100 ∧ FineR ns.length rows ∧ FineS ns.length marks ∧
  ∀ H', Same H H' → Q (.bl (alikeB ns.length rows marks k)) H'
def spVh (K : PySem.W.Frag) (C : Addr) : Sp := fun vs H Q _ => ∃ (a t u : Addr) (us : List V) (ns : List Str) (rows : List Row) (marks : List Rst) (prs : Prs) (th : Th), vs = [.ref a, .ref t, .ref u] ∧ SysN K C H a ns rows marks ∧ 1 ≤ ns.length ∧ ns.length ≤ 6 ∧ rows.length ≤ 100 ∧ marks.length ≤ 100 ∧ FineR ns.length rows ∧ FineS ns.length marks ∧
  ThAt H t th ∧ th.ok ns.length (rows.map Prod.fst) marks ∧ SqT K H u us ∧ PrsAt H us prs ∧ prs.length ≤ 100 ∧ (∀ p ∈ prs, p.1 ∈ ns ∧ p.2 ∈ ns) ∧ ∀ H', Same H H' → Q (.bl (vh ns rows marks prs th)) H'
section
variable {P : Program} {w : World} {K : PySem.W.Frag} {mg : Str → Option Value} {base : Heap}
abbrev s_differs : Stmt := topS 66
theorem sc_differs : FnScope ["system", "row", "one", "other"] ["system", "row", "one", "other"] (defScope s_differs) := ⟨rfl, rfl, rfl, by decide +kernel, rfl, by decide +kernel, by decide +kernel⟩
theorem ok_differs {f C : Addr} {fd : FuncData} (F : Fun K "_differs" "_differs" s_differs f fd) (gl : mg "_differs" = some (.ref f)) (T : Bl mg) (S : Sys K mg C) : DefG P w K mg base 1 "_differs" ["system", "row", "one", "other"] (spDif K C) := by
  refine def_mk F gl (F.binds fun _ _ _ _ _ _ us hl => match us, hl with | [_, _, _, _], _ => rfl) (okG F sc_differs (fun vs H Q E h => ?_) fun cdv A outer s H vs Q E hr hc h => ?_)
  · obtain ⟨a, r, x, y, ns, rows, marks, mv, rfl, _⟩ := h
    rfl
  · obtain ⟨a, r, x, y, ns, rows, marks, mv, rfl, hs, hm, hl, hx, hy, q⟩ := h
    have nd := sc_differs.nd
    refine ⟨_, (pss_one (ps_ret (pe_cmpR op_ne (pe_ix ix_tup (pv 1) (pe_bmZ PySem.F.slot_tuple_index PySem.F.type_tuple_index mt_tup_index (pe_fld (pv 0) rfl) (pa_cons (pv 2) pa_nil)) (fun _ _ => rfl)) (pe_ix ix_tup (pv 1) (pe_bmZ PySem.F.slot_tuple_index PySem.F.type_tuple_index mt_tup_index (pe_fld (pv 0) rfl) (pa_cons (pv 3) pa_nil)) (fun _ _ => rfl)) (nomark _)))), ?_⟩
    obtain ⟨dx, tn, tr, ts, xs, ys, h1, h2, _⟩ := hs
    obtain ⟨x1, x2⟩ := idx_factsS x ns hx
    obtain ⟨y1, y2⟩ := idx_factsS y ns hy
    have xl := (List.getElem?_eq_some_iff.mp x1).1
    have yl := (List.getElem?_eq_some_iff.mp y1).1
    have mx : (mv.map V.int)[ns.idxOf x]? = some (.int (mv.getD (ns.idxOf x) 0)) := by
      have h : mv[ns.idxOf x]? = some (mv[ns.idxOf x]'(by omega)) := List.getElem?_eq_getElem _
      rw [List.getElem?_map, h, getD_of h]; rfl
    have my : (mv.map V.int)[ns.idxOf y]? = some (.int (mv.getD (ns.idxOf y) 0)) := by
      have h : mv[ns.idxOf y]? = some (mv[ns.idxOf y]'(by omega)) := List.getElem?_eq_getElem _
      rw [List.getElem?_map, h, getD_of h]; rfl
    refine ⟨_, rfl, _, rfl, a, C, dx, _, _, rfl, h1, S.cl, S.nN, f_names _ _ _, ⟨tn, _, rfl, h2⟩, _, rfl, tn, ns, x, _, rfl, rfl, h2.t, x1, x2, r, _, _, _, rfl, rfl, tofT hm, atI_nat mx, ?_⟩
    refine ⟨_, rfl, _, rfl, a, C, dx, _, _, rfl, h1, S.cl, S.nN, f_names _ _ _, ⟨tn, _, rfl, h2⟩, _, rfl, tn, ns, y, _, rfl, rfl, h2.t, y1, y2, r, _, _, _, rfl, rfl, tofT hm, atI_nat my, rfl, ?_⟩
    have e : (!decide (V.int (mv.getD (ns.idxOf x) 0) = V.int (mv.getD (ns.idxOf y) 0))) = dif ns x y mv := by
      unfold dif
      by_cases h : mv.getD (ns.idxOf x) 0 = mv.getD (ns.idxOf y) 0
      · rw [decide_eq_true h, decide_eq_true (congrArg V.int h)]
      · rw [decide_eq_false h, decide_eq_false (fun z => h (V.int.inj z))]
    rw [e]
    exact q
abbrev s_is_alike : Stmt := topS 64
theorem sc_is_alike : FnScope ["system", "number"] ["system", "number"] (defScope s_is_alike) := ⟨rfl, rfl, rfl, by decide +kernel, rfl, by decide +kernel, by decide +kernel⟩
theorem ok_is_alike {f C fF : Addr} {fd fdF : FuncData} (F : Fun K "_is_alike" "_is_alike" s_is_alike f fd) (gl : mg "_is_alike" = some (.ref f)) (T : Bl mg) (S : Sys K mg C) (D_is_integer : DefG P w K mg base 1 "is_integer" ["value"] spIsI)
    (MF : Meth K C "fulfils" fF) (FF : FnG P w K mg base CX0 2 fF fdF ["self", "numbers"] (spFul K C)) (BF : Binds K fdF ["self", "numbers"] []) : DefG P w K mg base 3 "_is_alike" ["system", "number"] (spAlike K C) := by
  refine def_mk F gl (F.binds fun _ _ _ _ _ _ us hl => match us, hl with | [_, _], _ => rfl) (okG F sc_is_alike (fun vs H Q E h => ?_) fun cdv A outer s H vs Q E hr hc h => ?_)
  · obtain ⟨a, k, ns, rows, marks, rfl, _⟩ := h
    rfl
  · obtain ⟨a, k, ns, rows, marks, rfl, hs, n1, n2, l1, l2, fR, fS, q⟩ := h
    have nd := sc_is_alike.nd
    refine ⟨_, (pss_one (ps_ret (pe_and (pe_def D_is_integer (hr.mono (by decide)) hc (by rfl) (pa_cons (pv 1) pa_nil)) (pe_one (pe_methG (pv 0) S.cl MF FF (hr.mono (by decide)) hc BF .nil pass0 (pa_cons (pe_op (op_repPK (K := K)) (pe_tup (pa_cons (pv 1) pa_nil)) (pe_callB call_len_seq (by rfl) T.len boot_len (pa_cons (pe_fld (pv 0) rfl) pa_nil))) pa_nil)))))), ?_⟩
    obtain ⟨dx, tn, tr, ts, xs, ys, h1, h2, h4, h5, h6, h7⟩ := id hs
    refine ⟨_, rfl, k, rfl, _, rfl, ?_⟩
    rw [if_pos rfl]
    refine ⟨_, rfl, a, dx, _, rfl, h1, f_no _ _ _ (by decide +kernel) (by decide +kernel) (by decide +kernel), ?_⟩
    refine ⟨_, rfl, (show 1 ≤ sizeLine from small (by decide)), fun t0 nt0 => ?_⟩
    have s1 := Same.new (o := .tup [.int k]) nt0
    refine ⟨_, rfl, a, C, dx, _, _, rfl, s1 _ _ h1, S.cl, S.nN, f_names _ _ _, tn, _, rfl, .inr ((Kp.of s1).z h2).t, ?_⟩
    have fin : ∀ (H2 : Hp) (t : Addr), Same H H2 → H2 t = some (.tup ((List.replicate ns.length k).map V.int)) → spFul K C [.ref a, .ref t] H2 Q E := by
      intro H2 t s2 ht
      refine ⟨a, dx, tr, ts, t, _, xs, ys, rows, marks, List.replicate ns.length k, rfl, s2 _ _ h1, (Kp.of s2).tup h4, h5.to (tups_same s2), (Kp.of s2).tup h6, h7.to (tups_same s2), tofT ht, by rw [List.length_replicate]; exact n2, l1, l2, by rw [List.length_replicate]; exact fR, by rw [List.length_replicate]; exact fS, fun H3 s3 => q H3 (s2.trans s3)⟩
    refine ⟨t0, (((ns.map V.str).length : Nat) : Int), [.int k], rfl, rfl, tofT upd_same, (fun z => nomatch z), by rw [List.length_map]; omega, by rw [List.length_map]; omega, (show 1 ≤ 1000 by decide), fun e1 => ?_, fun e2 t nt => ?_⟩
    · refine fin _ t0 s1 ?_
      rw [upd_same]
      have : ns.length = 1 := by rw [List.length_map] at e1; omega
      rw [this]; rfl
    · refine fin _ t (s1.trans (Same.new nt)) ?_
      rw [upd_same, Int.toNat_natCast, List.flatten_replicate_singleton, List.map_replicate, List.length_map]
end
end NK29
namespace NK29
open PySem PySem.Spec PyProof.Rows L2 GL RZ G3
theorem get_d {H : Hp} {p : Addr} {kvs : List (Key × V)} {k : Str} {v : V} (h : H p = some (.dK kvs)) (e : valV kvs (Sum.inr k : Key) = some v) : DGet H p (.str k) (some v) := e ▸ DGet.k (k := Sum.inr k) h
theorem val1 {x : Str} {a : V} {r : List (Key × V)} : valV (((Sum.inr x : Key), a) :: r) (Sum.inr x : Key) = some a := valV_pos rfl
theorem val2 {x y : Str} (xy : ¬ x = y) {a b : V} {r : List (Key × V)} : valV (((Sum.inr x : Key), a) :: ((Sum.inr y : Key), b) :: r) (Sum.inr y : Key) = some b := by
  rw [valV_neg (inr_ne xy), valV_pos rfl]
theorem val3 {x y z : Str} (xz : ¬ x = z) (yz : ¬ y = z) {a b c : V} {r : List (Key × V)} : valV (((Sum.inr x : Key), a) :: ((Sum.inr y : Key), b) :: ((Sum.inr z : Key), c) :: r) (Sum.inr z : Key) = some c := by
  rw [valV_neg (inr_ne xz), valV_neg (inr_ne yz), valV_pos rfl]
theorem plan_W {H : Hp} {p W M Lo : Addr} (h : H p = some (.dK (planD W M Lo))) : DGet H p (.str "where") (some (.ref W)) := get_d h val1
theorem plan_M {H : Hp} {p W M Lo : Addr} (h : H p = some (.dK (planD W M Lo))) : DGet H p (.str "mixes") (some (.ref M)) := get_d h (val2 (by decide +kernel))
theorem plan_L {H : Hp} {p W M Lo : Addr} (h : H p = some (.dK (planD W M Lo))) : DGet H p (.str "lots") (some (.ref Lo)) := get_d h (val3 (by decide +kernel) (by decide +kernel))
theorem own_bd {b : Int} {wh : List Nat} {mixes : List (List Int)} (h1 : 1 ≤ b) (h2 : b ≤ 2 ^ 18) (hm : ∀ m ∈ mixes, ∀ x ∈ m, -1 ≤ x ∧ x ≤ 1) : Bd (2 ^ 20) b (movesOf b wh mixes mixes.length) := by
  refine ⟨by omega, fun mv h x hx => ?_⟩
  unfold movesOf at h
  obtain ⟨j, hj, rfl⟩ := List.mem_map.mp h
  have hj' := List.mem_range.mp hj
  rw [getD_of (List.getElem?_eq_getElem hj')] at hx
  obtain ⟨i, hi⟩ := List.mem_iff_getElem?.mp hx
  unfold moveOf at hi
  rw [List.getElem?_zipWith] at hi
  cases e1 : wh[i]? with
  | none => rw [e1] at hi; simp at hi
  | some p =>
    cases e2 : (mixes[j])[i]? with
    | none => rw [e1, e2] at hi; simp at hi
    | some q =>
      rw [e1, e2] at hi
      have e : b * ((if p = j then 1 else 0) - q) = x := Option.some.inj hi
      have hq := hm _ (List.getElem_mem hj') q (List.mem_of_getElem? e2)
      have h3 : ((if p = j then (1 : Int) else 0) - q).natAbs ≤ 2 := by split <;> omega
      have h4 := mul_bd (A := 2 ^ 18) (B := 2) (show b.natAbs ≤ 2 ^ 18 by omega) h3
      rw [e] at h4
      omega
def spOwn : Sp := fun vs H Q _ => ∃ (p W M Lo : Addr) (Fa : Int) (xs : List V) (wh : List Nat) (mixes : List (List Int)), vs = [.ref p, .int Fa] ∧ H p = some (.dK (planD W M Lo)) ∧ H W = some (.lst (wh.map vN)) ∧ H M = some (.lst xs) ∧ LsAt [] H xs mixes ∧ mixes.length ≤ 6 ∧ wh.length ≤ 6 ∧
  (∀ (j : Nat) (m : List Int), mixes[j]? = some m → m.length = wh.length) ∧ 0 ≤ Fa ∧ Fa < 2 ^ 60 ∧ ∀ (t : Addr) (H' : Hp), Same H H' → FormAt H' t Fa wh (movesOf Fa wh mixes mixes.length) → Q (.ref t) H'
def wD (tn Ma Li : Addr) : List (Key × V) := [(Sum.inr "called", .ref tn), (Sum.inr "marks", .ref Ma), (Sum.inr "lines", .ref Li)]
structure WAt (K : PySem.W.Frag) (d g : Addr) (H : Hp) (a : Addr) (ns : List Str) (rows : List Row) (marks : List Rst) : Prop where
  ex : ∃ (tn Ma Li : Addr) (xs ys : List V), H a = some (.dK (wD tn Ma Li)) ∧ SqZ K H tn (ns.map V.str) ∧ H Ma = some (.lst xs) ∧ RestsAt H xs marks ∧ H Li = some (.lst ys) ∧ RowsAt H ys rows ∧ a ≠ d ∧ Ma ≠ g ∧ Li ≠ g
  ml : marks.length ≤ 3
  fm : FineS ns.length marks
  fl : FineR ns.length rows
  l4 : rows.length ≤ 4
  n1 : 1 ≤ ns.length
  n6 : ns.length ≤ 6
theorem WAt.mv {K : PySem.W.Frag} {d g a : Addr} {b : Nat} {ns : List Str} {H H' : Hp} {rows : List Row} {marks : List Rst} (h : WAt K d g H a ns rows marks) (D : Dk ks H d g b) (m : Mv d g H H') : WAt K d g H' a ns rows marks := by
  obtain ⟨tn, Ma, Li, xs, ys, h1, h2, h4, h5, h6, h7, n1, n2, n3⟩ := h.ex
  obtain ⟨k, n', L, e1, e2, _⟩ := D.ex
  have kp := Kp.mv D m
  exact ⟨⟨tn, Ma, Li, xs, ys, m.keep _ _ h1 n1 (ne_of h1 e2 (fun z => nomatch z)), kp.z h2, m.keep _ _ h4 (ne_of h4 e1 (fun z => nomatch z)) n2, h5.to kp.tups, m.keep _ _ h6 (ne_of h6 e1 (fun z => nomatch z)) n3, h7.to kp.tups, n1, n2, n3⟩, h.ml, h.fm, h.fl, h.l4, h.n1, h.n6⟩
theorem w_c {H : Hp} {p W M Lo : Addr} (h : H p = some (.dK (wD W M Lo))) : DGet H p (.str "called") (some (.ref W)) := get_d h val1
theorem w_m {H : Hp} {p W M Lo : Addr} (h : H p = some (.dK (wD W M Lo))) : DGet H p (.str "marks") (some (.ref M)) := get_d h (val2 (by decide +kernel))
theorem w_l {H : Hp} {p W M Lo : Addr} (h : H p = some (.dK (wD W M Lo))) : DGet H p (.str "lines") (some (.ref Lo)) := get_d h (val3 (by decide +kernel) (by decide +kernel))
def spCode (K : PySem.W.Frag) (C : Addr) : Sp := fun vs H Q _ => ∃ (d g a : Addr) (ns : List Str) (rows : List Row) (marks : List Rst), vs = [.ref a] ∧ WAt K d g H a ns rows marks ∧
  ∀ (p : Addr) (H' : Hp), Same H H' → SysN K C H' p ns rows marks → Q (.ref p) H'
section
variable {P : Program} {w : World} {K : PySem.W.Frag} {mg : Str → Option Value} {base : Heap}
abbrev s_own_form : Stmt := topS 79
theorem sc_own_form : FnScope ["_law_planted_here", "_law_by", "_law_found", "_law_kind", "_law_mix", "_law_spot", "_law_x"] ["_law_planted_here", "_law_by"] (defScope s_own_form) := ⟨rfl, rfl, rfl, by decide +kernel, rfl, by decide +kernel, by decide +kernel⟩
theorem ok_own_form {f : Addr} {fd : FuncData} (F : Fun K "_law_own_form" "_law_own_form" s_own_form f fd) (gl : mg "_law_own_form" = some (.ref f)) (T : Bl mg) : DefG P w K mg base 1 "_law_own_form" ["_law_planted_here", "_law_by"] spOwn := by
  refine def_mk F gl (F.binds fun _ _ _ _ _ _ us hl => match us, hl with | [_, _], _ => rfl) (okG F sc_own_form (fun vs H Q E h => ?_) fun cdv A outer s H vs Q E hr hc h => ?_)
  · obtain ⟨p, W, M, Lo, Fa, xs, wh, mixes, rfl, _⟩ := h
    rfl
  · obtain ⟨p, W, M, Lo, Fa, xs, wh, mixes, rfl, hp, hW, hM, hX, ml, wl, el, F0, FB, q⟩ := h
    have nd := sc_own_form.nd
    have hu := hu_of hr
    refine ⟨_, (pss_cons (ps_set (i := 2) nd rfl (by first | exact Or.inl rfl | exact Or.inr rfl) (pe_lst pa_nil))
      (pss_cons (ps_for PassesOwn.never rfl (pi_enum (by rfl) T.enumerate (pa_cons (pe_dget hu (pv 0) pe_str (fun _ _ => rfl)) pa_nil)) (pg_tup rfl (pgs_cons (pg_name (i := 3) nd rfl (by first | exact Or.inl rfl | exact Or.inr rfl)) (pgs_cons (pg_name (i := 4) nd rfl (by first | exact Or.inl rfl | exact Or.inr rfl)) pgs_nil)))
        (pss_one (ps_expr (pe_bm PySem.F.plainAttrs_list PySem.F.slot_list_append PySem.F.type_list_append mt_append (pv 2) (pa_cons (pe_tupleOf (by rfl) T.tuple (pe_lc (own := [("_law_spot", 5), ("_law_x", 6)]) (g := (gTup K 2 (gCons (gName 5) (gCons (gName 6) gNil)))) (tt := tYes) rfl nd (pi_zipA (by rfl) T.zip (pa_cons (pe_dget hu (pv 0) pe_str (fun _ _ => rfl)) (pa_cons (pv 4) pa_nil))) (blkOk_by (own := [("_law_spot", 5), ("_law_x", 6)]) (N := ["_law_planted_here", "_law_by", "_law_found", "_law_kind", "_law_mix", "_law_spot", "_law_x"]) (sc := defScope s_own_form) (by decide +kernel)) (fun _ _ _ _ _ => (pg_tup rfl (pgs_cons (pg_name (i := 5) nd rfl (by first | exact Or.inl rfl | exact Or.inr rfl)) (pgs_cons (pg_name (i := 6) nd rfl (by first | exact Or.inl rfl | exact Or.inr rfl)) pgs_nil)))) (fun _ _ _ _ _ => pts_nil) (fun _ _ _ _ _ => (pe_op op_mul (pv 1) (pe_op op_sub (pe_callTy call_int1 (by rfl) T.int boot_int (pa_cons (pe_cmpR op_eq (pv 5) (pv 3) (nomark _)) pa_nil)) (pv 6)))))) pa_nil)))))
      (pss_one (ps_ret (pe_tup (pa_cons (pv 1) (pa_cons (pe_tupleOf (by rfl) T.tuple (pe_dget hu (pv 0) pe_str (fun _ _ => rfl))) (pa_cons (pe_tupleOf (by rfl) T.tuple (pv 2)) pa_nil)))))))), ?_⟩
    refine ⟨Nat.zero_le _, fun f1 nf1 => ?_⟩
    have s1 := Same.new (o := .lst []) nf1
    refine ⟨_, rfl, p, _, rfl, plan_M (s1 _ _ hp), M, xs, rfl, tofL (s1 _ _ hM), ?_⟩
    refine for_it (walk_enum (K := K) (a := M) (xs := xs)) (fun i σ Hx => ∃ (zs : List V) (v3 v4 : Option V), σ = [some (.ref p), some (.int Fa), some (.ref f1), v3, v4, none, none] ∧ Hx f1 = some (.lst zs) ∧ MvAt Hx zs (movesOf Fa wh mixes i) ∧ Same H Hx)
      ⟨[], none, none, rfl, upd_same, .nil, s1⟩ (fun i σ Hx _ ⟨_, _, _, _, _, _, sx⟩ => tofL (sx _ _ hM)) ?_ ?_
    · rintro i x σ Hx Ht hi ⟨zs, v3, v4, rfl, hf, hZ, sx⟩ ⟨t, u, v, rfl, nt, rfl, g1, g2⟩
      have e1 : u = .int (i : Nat) := (Option.some.inj g1).symm
      subst e1
      obtain ⟨q1, mx, rfl, _, hq1, hmx⟩ := (hX.same sx).get g2
      have il := (List.getElem?_eq_some_iff.mp hmx).1
      refine ⟨t, _, rfl, tofT upd_same, rfl, _, _, rfl, _, _, rfl, rfl, ?_⟩
      have sn := Same.new (o := .tup [V.int (i : Nat), .ref q1]) nt
      have su : Same H (upd Hx t (.tup [V.int (i : Nat), .ref q1])) := sx.trans sn
      have hfu := sn _ _ hf
      have hZu := hZ.to (tups_same sn)
      have hqu := sn _ _ hq1
      generalize upd Hx t (.tup [V.int (i : Nat), .ref q1]) = Hu at *
      refine ⟨_, rfl, ty_l (tofL hfu), _, rfl, p, _, rfl, plan_W (su _ _ hp), _, rfl, W, q1, _, _, rfl, .inl ⟨tofL (su _ _ hW), tofL hqu, fun D nD => ?_⟩⟩
      have em := el i mx hmx
      have nfD : f1 ≠ D := ne_of_none hfu nD
      refine lc_it (walk_zip (K := K) (a := W) (b := q1) (xs := wh.map vN) (ys := mx.map V.int) (n := wh.length) (by rw [List.length_map, List.length_map]; omega))
        (fun j H2 => Same Hu H2 ∧ H2 D = some (.lst (((moveOf Fa wh i mx).take j).map V.int))) ⟨Same.new nD, upd_same⟩ (fun j H2 _ h => ⟨tofL ((su.trans h.1) _ _ hW), tofL (h.1 _ _ hqu)⟩) ?_ ?_
      · rintro j x H2 H3 hj ⟨s2, hD⟩ ⟨t2, u, v, rfl, nt2, rfl, r1, r2⟩
        have e0 : wh[j]? = some (wh[j]'(by omega)) := List.getElem?_eq_getElem _
        have e2 : mx[j]? = some (mx[j]'(by omega)) := List.getElem?_eq_getElem _
        have e3 : u = vN (wh[j]'(by omega)) := by
          have r3 : (wh.map vN)[j]? = some u := r1
          rw [List.getElem?_map, e0] at r3
          exact (Option.some.inj r3).symm
        have e4 : v = .int (mx[j]'(by omega)) := by
          have r3 : (mx.map V.int)[j]? = some v := r2
          rw [List.getElem?_map, e2] at r3
          exact (Option.some.inj r3).symm
        subst e3 e4
        have ea := moveOf_at (b := Fa) (j := i) e0 e2
        have nDt : D ≠ t2 := ne_of_none hD nt2
        refine ⟨t2, _, rfl, tofT upd_same, rfl, _, _, rfl, _, _, rfl, rfl, rfl, ?_⟩
        refine ⟨_, rfl, _, rfl, _, rfl, rfl, .inr ⟨_, rfl, _, rfl, _, _, rfl, rfl, _, _, rfl, rfl, .inl ⟨by omega, by omega⟩, _, (by rw [upd_ne nDt]; exact hD), ?_, ?_, ?_⟩⟩
        · rw [List.length_map, List.length_take]; exact smallt (by omega)
        · intro b o hb
          rw [upd_ne (ne_of_none hb nD), upd_ne (ne_of_none (s2 _ _ hb) nt2)]
          exact s2 _ _ hb
        · rw [upd_same, List.take_add_one, ea, List.map_append]
          have ed : (if decide (vN (wh[j]'(by omega)) = V.int ((i : Nat) : Int)) = true then (1 : Int) else 0) = if wh[j]'(by omega) = i then 1 else 0 := by
            by_cases h : wh[j]'(by omega) = i
            · rw [if_pos h, if_pos (decide_eq_true (by rw [h]; rfl))]
            · rw [if_neg h, if_neg (fun z => h (by
                have := V.int.inj (of_decide_eq_true z)
                omega))]
          rw [ed]
          rfl
      · rintro H2 ⟨s2, hD⟩
        rw [List.take_of_length_le (by rw [moveOf_len em]; omega)] at hD
        refine .inl ⟨D, _, rfl, tofL hD, fun t2 nt2 => ?_⟩
        have hf2 := s2 _ _ hfu
        have n2 : f1 ≠ t2 := ne_of_none hf2 nt2
        have zl := hZ.len
        have il6 : zs.length ≤ 6 := by
          rw [zl]; unfold movesOf; rw [List.length_map, List.length_range]; omega
        refine ⟨f1, _, _, rfl, rfl, by rw [upd_ne n2]; exact hf2, smallt (by omega), zs ++ [.ref t2], _, _, rfl, upd_same, ?_, ?_⟩
        · rw [movesOf_succ, getD_of hmx]
          have kt : ∀ (o o2 : HO) b us, H2 b = some (.tup us) → upd (upd H2 t2 o) f1 o2 b = some (.tup us) := fun o o2 b us hb => by
            rw [upd_ne (fun e => by rw [e, hf2] at hb; cases hb), upd_ne (ne_of_none hb nt2)]
            exact hb
          exact ((hZu.to (tups_same s2)).to (kt _ _)).snoc (by rw [upd_ne n2.symm]; exact upd_same)
        · intro b o hb
          rw [upd_ne (ne_of_none hb nf1), upd_ne (ne_of_none ((su.trans s2) _ _ hb) nt2)]
          exact (su.trans s2) _ _ hb
    · rintro σ Hx ⟨zs, v3, v4, rfl, hf, hZ, sx⟩
      rw [hX.len] at hZ
      refine ⟨_, rfl, _, rfl, p, _, rfl, plan_W (sx _ _ hp), .inl ⟨W, _, rfl, tofL (sx _ _ hW), fun tw ntw => ?_⟩⟩
      refine ⟨_, rfl, .inl ⟨f1, _, rfl, tofL (Same.new ntw _ _ hf), fun tm ntm => ⟨(show 3 ≤ sizeLine from small (by decide)), fun t nt => ?_⟩⟩⟩
      have s3 := Same.new (o := .tup (wh.map vN)) ntw
      have s4 := Same.new (o := .tup zs) ntm
      have s5 := Same.new (o := .tup [.int Fa, .ref tw, .ref tm]) nt
      refine q t _ (sx.trans (s3.trans (s4.trans s5))) ⟨tw, tm, zs, upd_same, ?_, s5 _ _ upd_same, ((hZ.to (tups_same s3)).to (tups_same s4)).to (tups_same s5)⟩
      rw [← map_vN]
      exact s5 _ _ (s4 _ _ upd_same)
abbrev s_code : Stmt := topS 74
theorem sc_code : FnScope ["_law_w"] ["_law_w"] (defScope s_code) := ⟨rfl, rfl, rfl, by decide +kernel, rfl, by decide +kernel, by decide +kernel⟩
theorem ok_code {f C fI : Addr} {fd fdI : FuncData} (F : Fun K "_law_code" "_law_code" s_code f fd) (gl : mg "_law_code" = some (.ref f)) (T : Bl mg) (S : Sys K mg C)
    (MK : Mk K C fI) (FI : FnG P w K mg base CX0 1 fI fdI ["self", "names", "rows", "rests"] (spInit C)) (BI : Binds K fdI ["self", "names", "rows", "rests"] []) : DefG P w K mg base 3 "_law_code" ["_law_w"] (spCode K C) := by
  refine def_mk F gl (F.binds fun _ _ _ _ _ _ us hl => match us, hl with | [_], _ => rfl) (okG F sc_code (fun vs H Q E h => ?_) fun cdv A outer s H vs Q E hr hc h => ?_)
  · obtain ⟨d, g, a, ns, rows, marks, rfl, _⟩ := h
    rfl
  · obtain ⟨d, g, a, ns, rows, marks, rfl, hw, q⟩ := h
    have nd := sc_code.nd
    have hu := hu_of hr
    refine ⟨_, (pss_one (ps_ret (pe_makeG MK FI (hr.mono (by decide)) hc (by rfl) S.mgC BI .nil pass0 (pa_cons (pe_dget hu (pv 0) pe_str (fun _ _ => rfl)) (pa_cons (pe_tupleOf (by rfl) T.tuple (pe_dget hu (pv 0) pe_str (fun _ _ => rfl))) (pa_cons (pe_tupleOf (by rfl) T.tuple (pe_dget hu (pv 0) pe_str (fun _ _ => rfl))) pa_nil)))))), ?_⟩
    obtain ⟨tn, Ma, Li, xs, ys, h1, h2, h4, h5, h6, h7, _⟩ := hw.ex
    refine ⟨_, rfl, a, _, rfl, w_c h1, _, rfl, a, _, rfl, w_l h1, .inl ⟨Li, _, rfl, tofL h6, fun tr ntr => ?_⟩⟩
    have s1 := Same.new (o := .tup ys) ntr
    refine ⟨_, rfl, a, _, rfl, w_m (s1 _ _ h1), .inl ⟨Ma, _, rfl, tofL (s1 _ _ h4), fun ts nts => ?_⟩⟩
    have s2 := Same.new (o := .tup xs) nts
    refine fun x dx nx ndx ne => ⟨x, dx, _, _, _, rfl, upd_same, rfl, ?_⟩
    have sm := made_same (C := C) (a := .ref tn) (b := .ref tr) (c := .ref ts) nx ndx ne
    have sall := (s1.trans s2).trans sm
    exact q x _ sall ⟨dx, tn, tr, ts, ys, xs, upd_same, (Kp.of sall).z h2, tofT (sm _ _ (s2 _ _ upd_same)), h7.to (tups_same sall), tofT (sm _ _ upd_same), h5.to (tups_same sall)⟩
end
end NK29
namespace GL
open PySem PySem.Spec PyProof.Rows L2
def rListOf (K : PySem.W.Frag) : List V → Hp → VK → Prop := fun xs H Q => ∃ p ys, xs = [.ref p] ∧ (SqL K H p ys ∨ SqT K H p ys) ∧ ∀ l, H l = none → Q (.ref l) (upd H l (.lst ys))
theorem call_list_ofK {X : Cx} {K : PySem.W.Frag} (h : X.K = K := by rfl) : CallR X (.type "list") (rListOf K) := h ▸ call_list_of
end GL
namespace NK29
open PySem PySem.Spec PyProof.Rows L2 GL RZ G3
def RInv (d g it : Addr) (b : Nat) (H0 : Hp) (n : Nat) (lots : List (List Int)) (marks : List Rst) (bud B m : Nat) : L2.St → Hp → Prop := fun σ Hx =>
  ∃ (Fa : Int) (wh : List Nat) (mvs : List (List Int)) (W Pl : Addr) (xs : List V) (v6 v7 v8 v11 v12 : Option V), σ = [some (.ref d), some (.ref it), some (.int Fa), some (.ref W), some (.ref Pl), none, v6, v7, v8, none, none, v11, v12] ∧
    Hx W = some (.lst (wh.map vN)) ∧ Hx Pl = some (.lst xs) ∧ LsAt [g, Pl] Hx xs mvs ∧ W ≠ Pl ∧ W ≠ g ∧ H0 Pl = none ∧ FOk n lots marks Fa wh mvs ∧ Bd B Fa mvs ∧ mvs.length = m ∧ Dk ks Hx d g (b + bud) ∧ Mv d g H0 Hx
theorem RInv.mono {d g it : Addr} {b : Nat} {H0 : Hp} {n : Nat} {lots : List (List Int)} {marks : List Rst} {bud bud' B B' m : Nat} {σ : L2.St} {Hx : Hp} (h : RInv d g it b H0 n lots marks bud B m σ Hx) (h1 : bud' ≤ bud) (h2 : B ≤ B') : RInv d g it b H0 n lots marks bud' B' m σ Hx := by
  obtain ⟨Fa, wh, mvs, W, Pl, xs, v6, v7, v8, v11, v12, e, hW, hP, hX, nWP, nWg, nP0, ok, bd, ml', Dx, Mx⟩ := h
  exact ⟨Fa, wh, mvs, W, Pl, xs, v6, v7, v8, v11, v12, e, hW, hP, hX, nWP, nWg, nP0, ok, bd.mono h2, ml', Dx.mono (by omega), Mx⟩
theorem LsAt.app {ex : List Addr} {H : Hp} : ∀ {xs ys : List V} {ms ns : List (List Int)}, LsAt ex H xs ms → LsAt ex H ys ns → LsAt ex H (xs ++ ys) (ms ++ ns)
  | _, _, _, _, .nil, h => h
  | _, _, _, _, .cons n a t, h => .cons n a (t.app h)
theorem LsAt.take {ex : List Addr} {H : Hp} : ∀ {xs : List V} {ms : List (List Int)} (i : Nat), LsAt ex H xs ms → LsAt ex H (xs.take i) (ms.take i)
  | _, _, 0, _ => .nil
  | _, _, i + 1, .nil => .nil
  | _, _, i + 1, .cons n a t => .cons n a (t.take i)
theorem LsAt.drop {ex : List Addr} {H : Hp} : ∀ {xs : List V} {ms : List (List Int)} (i : Nat), LsAt ex H xs ms → LsAt ex H (xs.drop i) (ms.drop i)
  | _, _, 0, h => h
  | _, _, i + 1, .nil => .nil
  | _, _, i + 1, .cons n a t => t.drop i
theorem insL_len {a : Nat} {z : List Int} {mvs : List (List Int)} : (insL a z mvs).length = mvs.length + 1 := by
  unfold insL
  rw [List.length_append, List.length_append, List.length_take, List.length_drop, List.length_singleton]
  omega
theorem bump_val (k a : Nat) : V.int ((k : Int) + if decide ((a : Int) ≤ (k : Int)) = true then 1 else 0) = vN (k + if a ≤ k then 1 else 0) := by
  by_cases h : a ≤ k
  · rw [if_pos h, if_pos (decide_eq_true (by omega))]; rfl
  · rw [if_neg h, if_neg (fun z => h (by have := of_decide_eq_true z; omega))]
    show V.int ((k : Int) + 0) = V.int (((k + 0 : Nat)) : Int)
    rw [Int.add_zero]; rfl
theorem insL_at {ex : List Addr} {H : Hp} {xs : List V} {mvs : List (List Int)} {p : Addr} {z : List Int} {a : Nat} (h : LsAt ex H xs mvs) (n : p ∉ ex) (hp : H p = some (.lst (z.map V.int))) : LsAt ex H (xs.take a ++ [.ref p] ++ xs.drop a) (insL a z mvs) :=
  (((h.take a).snoc n hp)).app (h.drop a)
theorem bump_at {a : Nat} {wh : List Nat} {i x : Nat} (h : wh[i]? = some x) : (bump a wh)[i]? = some (x + if a ≤ x then 1 else 0) := by
  unfold bump; rw [List.getElem?_map, h]; rfl
def spRew : Sp := fun vs H Q _ => ∃ (d g it : Addr) (b n : Nat) (lots : List (List Int)) (marks : List Rst) (Fa : Int) (wh : List Nat) (mvs : List (List Int)), vs = [.ref d, .ref it] ∧ Dk ks H d g (b + 100) ∧ FormAt H it Fa wh mvs ∧ FOk n lots marks Fa wh mvs ∧ Bd (2 ^ 20) Fa mvs ∧ mvs.length ≤ 6 ∧ 1 ≤ n ∧ n ≤ 6 ∧
  ∀ (t : Addr) (Fa : Int) (wh : List Nat) (mvs : List (List Int)) (H' : Hp), Dk ks H' d g b → Mv d g H H' → FormAt H' t Fa wh mvs → FOk n lots marks Fa wh mvs → Bd (2 ^ 60) Fa mvs → mvs.length ≤ 12 → Q (.ref t) H'
theorem lst_ne {Hh : Hp} {d g a : Addr} {bb : Nat} {ys : List V} (Dh : Dk ks Hh d g bb) (e : Hh a = some (.lst ys)) : a ≠ d := by
  obtain ⟨m', n', L, e1, e2, _⟩ := Dh.ex
  exact ne_of e e1 (fun z => nomatch z)
theorem FOk.len1 {n : Nat} {lots : List (List Int)} {marks : List Rst} {F : Int} {wh : List Nat} {mvs : List (List Int)} (ok : FOk n lots marks F wh mvs) (h : 1 ≤ n) : 1 ≤ mvs.length := by
  have e : wh[0]? = some (wh[0]'(by rw [ok.wl]; omega)) := List.getElem?_eq_getElem _
  obtain ⟨mv, e1, _⟩ := ok.fr 0 _ e
  have := (List.getElem?_eq_some_iff.mp e1).1
  omega
section
variable {P : Program} {w : World} {K : PySem.W.Frag} {mg : Str → Option Value} {base : Heap}
abbrev s_rewritten : Stmt := topS 80
theorem sc_rewritten : FnScope ["_law_deck_here", "_law_it", "_law_factor", "_law_where", "_law_lots", "_law_lot", "_law_k", "_law_by", "_law_mate", "_law_x", "_law_y", "_law_at", "_law_go"] ["_law_deck_here", "_law_it"] (defScope s_rewritten) := ⟨rfl, rfl, rfl, by decide +kernel, rfl, by decide +kernel, by decide +kernel⟩
theorem ok_rewritten {f : Addr} {fd : FuncData} (F : Fun K "_law_rewritten" "_law_rewritten" s_rewritten f fd) (gl : mg "_law_rewritten" = some (.ref f)) (T : Bl mg) (D_draw : DefG P w K mg base 1 "_law_draw" ["_law_deck_here", "_law_many"] (spDrw ks)) : DefG P w K mg base 2 "_law_rewritten" ["_law_deck_here", "_law_it"] spRew := by
  refine def_mk F gl (F.binds fun _ _ _ _ _ _ us hl => match us, hl with | [_, _], _ => rfl) (okG F sc_rewritten (fun vs H Q E h => ?_) fun cdv A outer s H vs Q E hr hc h => ?_)
  · obtain ⟨d, g, it, b, n, lots, marks, Fa, wh, mvs, rfl, _⟩ := h
    rfl
  · obtain ⟨d, g, it, b, n, lots, marks, Fa, wh, mvs, rfl, D, hf, ok, bd, ml, n1, n6, q⟩ := h
    have nd := sc_rewritten.nd
    have hu := hu_of hr
    refine ⟨_, (pss_cons (ps_par3 (i := 2) (j := 3) (l := 4) rfl nd rfl rfl rfl (by decide) (by decide) (by decide) rfl rfl rfl (pa_cons (pe_ix ix_tup (pv 1) pe_int (fun _ _ => rfl)) (pa_cons (pe_callTy call_list_of (by rfl) T.list boot_list (pa_cons (pe_ix ix_tup (pv 1) pe_int (fun _ _ => rfl)) pa_nil)) (pa_cons (pe_lc (own := [("_law_lot", 5)]) (g := (gName 5)) (tt := tYes) rfl nd (pi_tup (pe_ix ix_tup (pv 1) pe_int (fun _ _ => rfl))) (blkOk_by (own := [("_law_lot", 5)]) (N := ["_law_deck_here", "_law_it", "_law_factor", "_law_where", "_law_lots", "_law_lot", "_law_k", "_law_by", "_law_mate", "_law_x", "_law_y", "_law_at", "_law_go"]) (sc := defScope s_rewritten) (by decide +kernel)) (fun _ _ _ _ _ => (pg_name (i := 5) nd rfl (by first | exact Or.inl rfl | exact Or.inr rfl))) (fun _ _ _ _ _ => pts_nil) (fun _ _ _ _ _ => (pe_callTy (call_list_ofK (K := K)) (by rfl) T.list boot_list (pa_cons (pv 5) pa_nil)))) pa_nil))) rfl)
      (pss_cons (ps_for PassesOwn.never rfl (pi_range2 (by rfl) T.range (pa_cons pe_int (pa_cons (pe_callB call_len_seq (by rfl) T.len boot_len (pa_cons (pv 4) pa_nil)) pa_nil))) (pg_name (i := 6) nd rfl (by first | exact Or.inl rfl | exact Or.inr rfl))
        (pss_cons (ps_asg (pe_tup (pa_cons (pe_op op_sub (pe_def D_draw (hr.mono (by decide)) hc (by rfl) (pa_cons (pv 0) (pa_cons pe_int pa_nil))) pe_int) (pa_cons (pe_ix ix_list (pv 4) (pe_def D_draw (hr.mono (by decide)) hc (by rfl) (pa_cons (pv 0) (pa_cons (pv 6) pa_nil))) (fun _ _ => rfl)) pa_nil))) (pg_tup rfl (pgs_cons (pg_name (i := 7) nd rfl (by first | exact Or.inl rfl | exact Or.inr rfl)) (pgs_cons (pg_name (i := 8) nd rfl (by first | exact Or.inl rfl | exact Or.inr rfl)) pgs_nil))))
        (pss_one (ps_asg (pe_lc (own := [("_law_x", 9), ("_law_y", 10)]) (g := (gTup K 2 (gCons (gName 9) (gCons (gName 10) gNil)))) (tt := tYes) rfl nd (pi_zipA (by rfl) T.zip (pa_cons (pe_ix ix_list (pv 4) (pv 6) (fun _ _ => rfl)) (pa_cons (pv 8) pa_nil))) (blkOk_by (own := [("_law_x", 9), ("_law_y", 10)]) (N := ["_law_deck_here", "_law_it", "_law_factor", "_law_where", "_law_lots", "_law_lot", "_law_k", "_law_by", "_law_mate", "_law_x", "_law_y", "_law_at", "_law_go"]) (sc := defScope s_rewritten) (by decide +kernel)) (fun _ _ _ _ _ => (pg_tup rfl (pgs_cons (pg_name (i := 9) nd rfl (by first | exact Or.inl rfl | exact Or.inr rfl)) (pgs_cons (pg_name (i := 10) nd rfl (by first | exact Or.inl rfl | exact Or.inr rfl)) pgs_nil)))) (fun _ _ _ _ _ => pts_nil) (fun _ _ _ _ _ => (pe_op op_add (pv 9) (pe_op op_mul (pv 7) (pv 10))))) (pg_sub (pv 4) (pv 6) set_list)))))
      (C8.pss_cut (ps_if (pt_cmpR op_eq (pe_def D_draw (hr.mono (by decide)) hc (by rfl) (pa_cons (pv 0) (pa_cons pe_int pa_nil))) pe_int (nomark _))
        (pss_cons (ps_set (i := 7) nd rfl (by first | exact Or.inl rfl | exact Or.inr rfl) (pe_op op_add pe_int (pe_def D_draw (hr.mono (by decide)) hc (by rfl) (pa_cons (pv 0) (pa_cons (pe_op op_pow pe_int pe_int) pa_nil)))))
        (pss_one (ps_par (i := 2) (j := 4) rfl nd rfl rfl (by decide) rfl rfl (pa_cons (pe_op op_mul (pv 2) (pv 7)) (pa_cons (pe_lc (own := [("_law_lot", 5)]) (g := (gName 5)) (tt := tYes) rfl nd (pi_list (pv 4)) (blkOk_by (own := [("_law_lot", 5)]) (N := ["_law_deck_here", "_law_it", "_law_factor", "_law_where", "_law_lots", "_law_lot", "_law_k", "_law_by", "_law_mate", "_law_x", "_law_y", "_law_at", "_law_go"]) (sc := defScope s_rewritten) (by decide +kernel)) (fun _ _ _ _ _ => (pg_name (i := 5) nd rfl (by first | exact Or.inl rfl | exact Or.inr rfl))) (fun _ _ _ _ _ => pts_nil) (fun _ _ _ _ _ => (pe_lc (own := [("_law_x", 9)]) (g := (gName 9)) (tt := tYes) rfl nd (pi_listK (K := K) (pv 5)) (blkOk_by (own := [("_law_x", 9)]) (by with_unfolding_all rfl)) (fun _ _ _ _ _ => (pg_name (i := 9) nd rfl (by first | exact Or.inl rfl | exact Or.inr rfl))) (fun _ _ _ _ _ => pts_nil) (fun _ _ _ _ _ => (pe_op op_mul (pv 9) (pv 7)))))) pa_nil)) rfl)))
        pss_nil)
      (C8.pss_cut (ps_if (pt_cmpR op_eq (pe_def D_draw (hr.mono (by decide)) hc (by rfl) (pa_cons (pv 0) (pa_cons pe_int pa_nil))) pe_int (nomark _))
        (pss_cons (ps_set (i := 11) nd rfl (by first | exact Or.inl rfl | exact Or.inr rfl) (pe_def D_draw (hr.mono (by decide)) hc (by rfl) (pa_cons (pv 0) (pa_cons (pe_op op_add (pe_callB call_len_seq (by rfl) T.len boot_len (pa_cons (pv 4) pa_nil)) pe_int) pa_nil))))
        (pss_cons (ps_expr (pe_bm PySem.F.plainAttrs_list PySem.F.slot_list_insert PySem.F.type_list_insert mt_insert (pv 4) (pa_cons (pv 11) (pa_cons (pe_op op_rep (pe_lst (pa_cons pe_int pa_nil)) (pe_callB call_len_seq (by rfl) T.len boot_len (pa_cons (pv 3) pa_nil))) pa_nil))))
        (pss_one (ps_setLc (i := 3) (own := [("_law_k", 6)]) (g := (gName 6)) (tt := tYes) rfl nd rfl rfl (sw_true rfl rfl rfl (by decide +kernel)) (pi_list (pv 3)) (blkOk_by (own := [("_law_k", 6)]) (N := ["_law_deck_here", "_law_it", "_law_factor", "_law_where", "_law_lots", "_law_lot", "_law_k", "_law_by", "_law_mate", "_law_x", "_law_y", "_law_at", "_law_go"]) (sc := defScope s_rewritten) (by decide +kernel)) (fun _ _ _ _ _ => (pg_name (i := 6) nd rfl (by first | exact Or.inl rfl | exact Or.inr rfl))) (fun _ _ _ _ _ => pts_nil) (fun _ _ _ _ _ => (pe_op op_add (pv 6) (pe_callTy call_int1 (by rfl) T.int boot_int (pa_cons (pe_cmpR op_ge (pv 6) (pv 11) (nomark _)) pa_nil))))))))
        pss_nil)
      (pss_cons (ps_for PassesOwn.never rfl (pi_range1 (by rfl) T.range (pa_cons (pe_def D_draw (hr.mono (by decide)) hc (by rfl) (pa_cons (pv 0) (pa_cons pe_int pa_nil))) pa_nil)) (pg_name (i := 12) nd rfl (by first | exact Or.inl rfl | exact Or.inr rfl))
        (pss_cons (ps_set (i := 7) nd rfl (by first | exact Or.inl rfl | exact Or.inr rfl) (pe_op op_sub (pe_def D_draw (hr.mono (by decide)) hc (by rfl) (pa_cons (pv 0) (pa_cons pe_int pa_nil))) pe_int))
        (pss_one (ps_expr (pe_bm PySem.F.plainAttrs_list PySem.F.slot_list_append PySem.F.type_list_append mt_append (pv 4) (pa_cons (pe_lc (own := [("_law_x", 9)]) (g := (gName 9)) (tt := tYes) rfl nd (pi_list (pe_ix ix_list (pv 4) (pe_def D_draw (hr.mono (by decide)) hc (by rfl) (pa_cons (pv 0) (pa_cons (pe_callB call_len_seq (by rfl) T.len boot_len (pa_cons (pv 4) pa_nil)) pa_nil))) (fun _ _ => rfl))) (blkOk_by (own := [("_law_x", 9)]) (N := ["_law_deck_here", "_law_it", "_law_factor", "_law_where", "_law_lots", "_law_lot", "_law_k", "_law_by", "_law_mate", "_law_x", "_law_y", "_law_at", "_law_go"]) (sc := defScope s_rewritten) (by decide +kernel)) (fun _ _ _ _ _ => (pg_name (i := 9) nd rfl (by first | exact Or.inl rfl | exact Or.inr rfl))) (fun _ _ _ _ _ => pts_nil) (fun _ _ _ _ _ => (pe_op op_mul (pv 7) (pv 9)))) pa_nil))))))
      (pss_one (ps_ret (pe_tup (pa_cons (pv 2) (pa_cons (pe_tupleOf (by rfl) T.tuple (pv 3)) (pa_cons (pe_tupleOf (by rfl) T.tuple (pe_lc (own := [("_law_lot", 5)]) (g := (gName 5)) (tt := tYes) rfl nd (pi_list (pv 4)) (blkOk_by (own := [("_law_lot", 5)]) (N := ["_law_deck_here", "_law_it", "_law_factor", "_law_where", "_law_lots", "_law_lot", "_law_k", "_law_by", "_law_mate", "_law_x", "_law_y", "_law_at", "_law_go"]) (sc := defScope s_rewritten) (by decide +kernel)) (fun _ _ _ _ _ => (pg_name (i := 5) nd rfl (by first | exact Or.inl rfl | exact Or.inr rfl))) (fun _ _ _ _ _ => pts_nil) (fun _ _ _ _ _ => (G3.pe_tupleOfK (K := K) (by rfl) T.tuple (pv 5))))) pa_nil))))))))))), ?_⟩
    obtain ⟨tw, tm, xs, h1, hw, hm, hv⟩ := hf
    have m1 := ok.len1 n1
    -- the three
    refine ⟨_, rfl, it, _, 0, _, rfl, rfl, tofT h1, rfl, _, rfl, it, _, 1, _, rfl, rfl, tofT h1, rfl, tw, _, rfl, .inr (tofT hw), fun W nW => ?_⟩
    rw [← map_vN]
    have s1 : Same H (upd H W (.lst (wh.map vN))) := Same.new nW
    have hW1 : upd H W (.lst (wh.map vN)) W = some (.lst (wh.map vN)) := upd_same
    have offW := D.off nW
    generalize upd H W (.lst (wh.map vN)) = H1 at *
    have D1 := D.same s1
    refine ⟨_, rfl, it, _, 2, _, rfl, rfl, tofT (s1 _ _ h1), rfl, tm, rfl, ⟨_, tofT (s1 _ _ hm)⟩, fun Pl nP => ?_⟩
    have offP := D1.off nP
    have nWP : W ≠ Pl := ne_of_none hW1 nP
    refine lc_tup (K := K) (a := tm) (xs := xs) (fun i Hy => Same H1 Hy ∧ ∃ zs, Hy Pl = some (.lst zs) ∧ LsAt [g, Pl] Hy zs (mvs.take i)) ⟨Same.new nP, [], upd_same, .nil⟩ (fun i Hy _ h => tofT (h.1 _ _ (s1 _ _ hm))) ?_ ?_
    · rintro i y Hy hi ⟨sy, zs, hP, hZ⟩
      obtain ⟨p, mv, rfl, hp, hmv⟩ := (hv.to (tups_same (s1.trans sy))).get hi
      have il := (List.getElem?_eq_some_iff.mp hmv).1
      have zl := hZ.len
      rw [List.length_take] at zl
      refine ⟨rfl, _, rfl, p, _, rfl, .inr (tofT hp), fun l nl => ?_⟩
      have sn := Same.new (o := .lst (mv.map V.int)) nl
      have offl := (D1.same sy).off nl
      have nPl : Pl ≠ l := ne_of_none hP nl
      refine ⟨zs, sn _ _ hP, smallt (by omega), ?_, zs ++ [.ref l], upd_same, ?_⟩
      · intro c u hc'
        rw [upd_ne (ne_of_none hc' nP)]
        exact sn _ _ (sy _ _ hc')
      · rw [List.take_add_one, hmv]
        exact ((hZ.same sn).upd (by simp)).snoc (by simp [offl.2, nPl.symm]) (by rw [upd_ne nPl.symm]; exact upd_same)
    rintro Hy ⟨sy, zs, hP, hZ⟩
    rw [hv.len, List.take_length] at hZ
    refine ⟨_, _, _, rfl, ?_⟩
    have D2 := D1.same sy
    have M2 : Mv d g H Hy := Mv.of (s1.trans sy)
    have inv0 : RInv d g it b H n lots marks 99 (2 ^ 20) mvs.length [some (.ref d), some (.ref it), some (.int Fa), some (.ref W), some (.ref Pl), none, none, none, none, none, none, none, none] Hy :=
      ⟨Fa, wh, mvs, W, Pl, zs, none, none, none, none, none, rfl, sy _ _ hW1, hP, hZ, nWP, offW.2, s1.free nP, ok, bd, rfl, D2.mono (by omega), M2⟩
    -- tuples ahead added
    refine ⟨_, rfl, Pl, _, rfl, .inl (tofL hP), 1, _, rfl, by rw [hZ.len]; omega, ?_⟩
    have em : (((zs.length : Nat) : Int) - 1).toNat = mvs.length - 1 := by rw [hZ.len]; omega
    rw [em]
    generalize mvs.length = m0 at *
    refine for_range (fun i σ Hx => RInv d g it b H n lots marks (99 - 3 * i) (2 ^ 20 * 4 ^ i) m0 σ Hx) inv0 ?_ ?_
    · rintro i σ Hx hi ⟨Fa, wh, mvs, W, Pl, xs, v6, v7, v8, v11, v12, rfl, hW, hP, hX, nWP, nWg, nP0, ok, bd, ml', Dx, Mx⟩
      have offP := (show Pl ≠ d ∧ Pl ≠ g from D.off nP0)
      obtain ⟨B, eB⟩ : ∃ B, B = b + (99 - 3 * (i + 1)) := ⟨_, rfl⟩
      have Dx : Dk ks Hx d g (B + 3) := Dx.mono (by omega)
      have xl := hX.len
      refine ⟨_, rfl, d, g, 5, _, rfl, Dx, by decide, bigN (by decide) (by decide), fun r Hy r0 r1 Dy My => ⟨_, _, rfl, rfl, ?_⟩⟩
      refine ⟨_, rfl, _, rfl, _, rfl, d, g, 1 + (i : Int), _, rfl, Dy, by omega, bigN (by omega) (by omega), fun r2 Hz r20 r21 Dz Mz => ?_⟩
      obtain ⟨j, rfl⟩ : ∃ j : Nat, r2 = (j : Int) := ⟨r2.toNat, by omega⟩
      have Mxz : Mv d g Hx Hz := My.trans Mz
      have hPz := Mxz.at hP offP
      have hWz := Mxz.at hW ⟨lst_ne Dx hW, nWg⟩
      have hXz := hX.mv Dx Mxz (by simp)
      have ej : mvs[j]? = some (mvs[j]'(by omega)) := List.getElem?_eq_getElem _
      have ek : mvs[i + 1]? = some (mvs[i + 1]'(by omega)) := List.getElem?_eq_getElem _
      generalize (mvs[j]'(by omega)) = my at *
      generalize (mvs[i + 1]'(by omega)) = mx at *
      obtain ⟨qy, ey, nqy, hqy⟩ := hXz.at ej
      obtain ⟨qx, exx, nqx, hqx⟩ := hXz.at ek
      refine ⟨Pl, _, _, _, rfl, rfl, tofL hPz, atI_nat ey, (show 2 ≤ sizeLine from small (by decide)), fun t nt => ?_⟩
      refine ⟨t, _, rfl, tofT upd_same, rfl, _, _, rfl, _, _, rfl, rfl, ?_⟩
      have sn := Same.new (o := .tup [V.int (r - 2), .ref qy]) nt
      have Dt := Dz.same sn
      have Mt : Mv d g Hx (upd Hz t (.tup [V.int (r - 2), .ref qy])) := Mxz.trans (Mv.of sn)
      have hPt := sn _ _ hPz
      have hWt := sn _ _ hWz
      have hXt := hXz.same sn
      have hqyt := sn _ _ hqy
      have hqxt := sn _ _ hqx
      generalize upd Hz t (.tup [V.int (r - 2), .ref qy]) = Ht at *
      have lx := ok.ml mx (List.mem_of_getElem? ek)
      have ly := ok.ml my (List.mem_of_getElem? ej)
      refine ⟨_, rfl, _, rfl, Pl, _, _, _, rfl, rfl, tofL hPt, at_of (show (1 : Int) + (i : Nat) = ((i + 1 : Nat) : Int) by omega) exx, _, rfl, qx, qy, _, _, rfl, .inl ⟨tofL hqxt, tofL hqyt, fun Dn nDn => ?_⟩⟩
      refine lc_it (walk_zip (K := K) (a := qx) (b := qy) (xs := mx.map V.int) (ys := my.map V.int) (n := n) (by rw [List.length_map, List.length_map]; omega))
        (fun j2 H2 => Same Ht H2 ∧ H2 Dn = some (.lst (((addM (r - 2) mx my).take j2).map V.int))) ⟨Same.new nDn, upd_same⟩ (fun j2 H2 _ h => ⟨tofL (h.1 _ _ hqxt), tofL (h.1 _ _ hqyt)⟩) ?_ ?_
      · rintro j2 x H2 H3 hj2 ⟨s2, hD⟩ ⟨t2, u, v, rfl, nt2, rfl, g1, g2⟩
        have e0 : mx[j2]? = some (mx[j2]'(by omega)) := List.getElem?_eq_getElem _
        have e2 : my[j2]? = some (my[j2]'(by omega)) := List.getElem?_eq_getElem _
        have e3 : u = .int (mx[j2]'(by omega)) := by
          have r3 : (mx.map V.int)[j2]? = some u := g1
          rw [List.getElem?_map, e0] at r3
          exact (Option.some.inj r3).symm
        have e4 : v = .int (my[j2]'(by omega)) := by
          have r3 : (my.map V.int)[j2]? = some v := g2
          rw [List.getElem?_map, e2] at r3
          exact (Option.some.inj r3).symm
        subst e3 e4
        have ea := addM_at (b := r - 2) e0 e2
        have nDt : Dn ≠ t2 := ne_of_none hD nt2
        refine ⟨t2, _, rfl, tofT upd_same, rfl, _, _, rfl, _, _, rfl, rfl, rfl, ?_⟩
        refine ⟨_, rfl, _, rfl, _, rfl, _, _, rfl, rfl, .inl ⟨by omega, by omega⟩, _, _, rfl, rfl, _, (by rw [upd_ne nDt]; exact hD), ?_, ?_, ?_⟩
        · rw [List.length_map, List.length_take]; exact smallt (by omega)
        · intro b o hb
          rw [upd_ne (ne_of_none hb nDn), upd_ne (ne_of_none (s2 _ _ hb) nt2)]
          exact s2 _ _ hb
        · rw [upd_same, List.take_add_one, ea, List.map_append]; rfl
      rintro H2 ⟨s2, hD⟩
      rw [List.take_of_length_le (by rw [addM_len (by omega)]; omega)] at hD
      have hP2 := s2 _ _ hPt
      have nPD : Pl ≠ Dn := ne_of_none hPt nDn
      have offD := Dt.off nDn
      refine ⟨_, rfl, _, rfl, Pl, _, 1 + (i : Int), i + 1, rfl, rfl, hP2, (by rw [ixN_of (by omega) (by omega)]; congr 1; omega), ?_⟩
      refine ⟨Fa, wh, mvs.set (i + 1) (addM (r - 2) mx my), W, Pl, xs.set (i + 1) (.ref Dn), _, _, _, _, _, rfl, ?_, upd_same, ?_, nWP, nWg, nP0, ok.add (by omega) ek ej, (bd.add (by omega) ek ej).mono (by rw [Nat.pow_succ]; omega), by rw [List.length_set]; exact ml', ((Dt.same s2).mono (by omega)).mut offP, ((Mx.trans Mt).trans (Mv.of s2)).mut nP0⟩
      · rw [upd_ne nWP]; exact s2 _ _ hWt
      · exact ((hXt.same s2).upd (by simp)).set (by simp [offD.2, nPD.symm]) (by rw [upd_ne nPD.symm]; exact hD) _
    rintro σ Hx inv1
    have p5 : 2 ^ 20 * 4 ^ (m0 - 1) ≤ 2 ^ 30 := Nat.le_trans (Nat.mul_le_mul_left _ (Nat.pow_le_pow_right (by decide) (show m0 - 1 ≤ 5 by omega))) (by decide)
    have inv1 := inv1.mono (bud' := 80) (B' := 2 ^ 30) (by omega) p5
    -- all times an integer
    refine ⟨fun σ Hx => RInv d g it b H n lots marks 70 (2 ^ 50) m0 σ Hx, ?_, ?_⟩
    · obtain ⟨Fa, wh, mvs, W, Pl, xs, v6, v7, v8, v11, v12, rfl, hW, hP, hX, nWP, nWg, nP0, ok, bd, ml', Dx, Mx⟩ := inv1
      have offP := (show Pl ≠ d ∧ Pl ≠ g from D.off nP0)
      refine ⟨_, rfl, d, g, 2, b + 79, rfl, Dx, by decide, bigN (by decide) (by decide), fun r Hy r0 r1 Dy My => ?_⟩
      have hPy := My.at hP offP
      have hWy := My.at hW ⟨lst_ne Dx hW, nWg⟩
      have hXy := hX.mv Dx My (by simp)
      refine ⟨rfl, _, rfl, ite2 (fun e => ?_) (fun e => ?_)⟩
      · refine ⟨_, rfl, _, _, rfl, rfl, ⟨by decide, by decide, by decide⟩, d, g, _, b + 78, rfl, Dy, by decide, bigN (by decide) (by decide), fun r2 Hz r20 r21 Dz Mz => ⟨2, r2, rfl, rfl, ?_⟩⟩
        have b20 : (2 + r2).natAbs ≤ 2 ^ 20 := by
          have : r2 < 10 ^ 6 := r21
          omega
        have hPz := Mz.at hPy offP
        have hWz := Mz.at hWy ⟨lst_ne Dy hWy, nWg⟩
        have hXz := hXy.mv Dy Mz (by simp)
        have xl := hX.len
        refine ⟨_, rfl, _, rfl, _, _, rfl, rfl, mul_smallR (by omega) (by omega), _, rfl, Pl, rfl, ⟨_, tofL hPz⟩, fun P2 nP2 => ?_⟩
        have offP2 := Dz.off nP2
        have nWP2 : W ≠ P2 := ne_of_none hWz nP2
        refine lc_list (K := K) (a := Pl) (xs := xs) (fun i Hv => Same Hz Hv ∧ ∃ zs, Hv P2 = some (.lst zs) ∧ LsAt [g, P2] Hv zs ((mvs.take i).map fun mv => mv.map fun x => x * (2 + r2))) ⟨Same.new nP2, [], upd_same, .nil⟩ (fun i Hv _ h => tofL (h.1 _ _ hPz)) ?_ ?_
        · rintro i y Hv hi ⟨sv, zs, hP2, hZ⟩
          obtain ⟨p, mv, rfl, np, hp, hmv⟩ := (hXz.same sv).get hi
          have il := (List.getElem?_eq_some_iff.mp hmv).1
          have lm := ok.ml mv (List.mem_of_getElem? hmv)
          have zl := hZ.len
          rw [List.length_map, List.length_take] at zl
          refine ⟨rfl, _, rfl, p, rfl, ⟨_, tofL hp⟩, fun D2 nD2 => ?_⟩
          have nP2D : P2 ≠ D2 := ne_of_none hP2 nD2
          have offD2 := (Dz.same sv).off nD2
          refine lc_list (K := K) (a := p) (xs := mv.map V.int) (fun j Hu => Same Hv Hu ∧ Hu D2 = some (.lst (((mv.take j).map fun x => x * (2 + r2)).map V.int))) ⟨Same.new nD2, upd_same⟩ (fun j Hu _ h => tofL (h.1 _ _ hp)) ?_ ?_
          · rintro j x Hu hj ⟨su, hD⟩
            obtain ⟨z, hz, rfl⟩ : ∃ z, mv[j]? = some z ∧ x = .int z := by
              rw [List.getElem?_map] at hj
              cases e : mv[j]? with
              | none => rw [e] at hj; cases hj
              | some k => rw [e] at hj; exact ⟨k, rfl, (Option.some.inj hj).symm⟩
            have jl := (List.getElem?_eq_some_iff.mp hz).1
            refine ⟨rfl, _, rfl, _, rfl, _, _, rfl, rfl, mul_smallR (by omega) (by omega), _, hD, ?_, ?_, ?_⟩
            · rw [List.length_map, List.length_map, List.length_take]; exact smallt (by omega)
            · intro c u hc'
              rw [upd_ne (ne_of_none hc' nD2)]
              exact su _ _ hc'
            · rw [upd_same, List.take_add_one, hz, List.map_append, List.map_append]; rfl
          rintro Hu ⟨su, hD⟩
          rw [List.length_map, List.take_length] at hD
          have hP2u := su _ _ hP2
          refine ⟨zs, hP2u, smallt (by omega), ?_, zs ++ [.ref D2], upd_same, ?_⟩
          · intro c u hc'
            rw [upd_ne (ne_of_none hc' nP2)]
            exact su _ _ (sv _ _ hc')
          · rw [List.take_add_one, hmv, List.map_append]
            exact ((hZ.same su).upd (by simp)).snoc (by simp [offD2.2, nP2D.symm]) (by rw [upd_ne nP2D.symm]; exact hD)
        rintro Hv ⟨sv, zs, hP2, hZ⟩
        rw [xl, List.take_length] at hZ
        refine ⟨_, _, rfl, ?_⟩
        exact ⟨Fa * (2 + r2), wh, mvs.map fun mv => mv.map fun x => x * (2 + r2), W, P2, zs, _, _, _, _, _, rfl, sv _ _ hWz, hP2, hZ, nWP2, nWg, Mv.free3 ((Mx.trans My).trans Mz) Dz nP2, ok.scale (by omega), (bd.scale b20).mono (by decide), by rw [List.length_map]; exact ml', (Dz.same sv).mono (by omega), ((Mx.trans My).trans Mz).trans (Mv.of sv)⟩
      · exact ⟨Fa, wh, mvs, W, Pl, xs, v6, v7, v8, v11, v12, rfl, hWy, hPy, hXy, nWP, nWg, nP0, ok, bd.mono (by decide), ml', Dy.mono (by omega), Mx.trans My⟩
    rintro σ Hx inv2
    -- a tuple of zeros anywhere
    refine ⟨fun σ Hx => ∃ m1, m1 ≤ 7 ∧ RInv d g it b H n lots marks 60 (2 ^ 50) m1 σ Hx, ?_, ?_⟩
    · obtain ⟨Fa, wh, mvs, W, Pl, xs, v6, v7, v8, v11, v12, rfl, hW, hP, hX, nWP, nWg, nP0, ok, bd, ml', Dx, Mx⟩ := inv2
      have offP := (show Pl ≠ d ∧ Pl ≠ g from D.off nP0)
      refine ⟨_, rfl, d, g, 2, b + 69, rfl, Dx, by decide, bigN (by decide) (by decide), fun r Hy r0 r1 Dy My => ?_⟩
      have hPy := My.at hP offP
      have hWy := My.at hW ⟨lst_ne Dx hW, nWg⟩
      have hXy := hX.mv Dx My (by simp)
      have xl := hX.len
      refine ⟨rfl, _, rfl, ite2 (fun e => ?_) (fun e => ?_)⟩
      · refine ⟨_, rfl, _, rfl, Pl, _, rfl, .inl (tofL hPy), _, _, rfl, rfl, d, g, _, b + 68, rfl, Dy, by omega, bigN (by omega) (by omega), fun r2 Hz r20 r21 Dz Mz => ?_⟩
        obtain ⟨a, rfl⟩ : ∃ a : Nat, r2 = (a : Int) := ⟨r2.toNat, by omega⟩
        have hPz := Mz.at hPy offP
        have hWz := Mz.at hWy ⟨lst_ne Dy hWy, nWg⟩
        have hXz := hXy.mv Dy Mz (by simp)
        refine ⟨_, rfl, ty_l (tofL hPz), _, rfl, (show 1 ≤ sizeLine from small (by decide)), fun z1 nz1 => ?_⟩
        have t1 := Same.new (o := .lst [.int 0]) nz1
        refine ⟨_, rfl, W, _, rfl, .inl (tofL (t1 _ _ hWz)), z1, _, _, rfl, rfl, upd_same, by omega, by rw [List.length_map, ok.wl]; omega, small (by rw [List.length_map, ok.wl, Int.toNat_natCast, List.length_singleton]; omega), fun z2 nz2 => ?_⟩
        have t2 := Same.new (o := .lst (List.replicate ((wh.map vN).length : Int).toNat [V.int 0]).flatten) nz2
        have al : a ≤ mvs.length := by omega
        have hz2 : upd (upd Hz z1 (.lst [.int 0])) z2 (.lst (List.replicate ((wh.map vN).length : Int).toNat [V.int 0]).flatten) z2 = some (.lst ((List.replicate n (0 : Int)).map V.int)) := by
          rw [upd_same, List.flatten_replicate_singleton, List.map_replicate, Int.toNat_natCast, List.length_map, ok.wl]
        have sz := t1.trans t2
        have D2 := Dz.same sz
        have nz2P : Pl ≠ z2 := ne_of_none (t1 _ _ hPz) nz2
        have offz2 := (Dz.same t1).off nz2
        generalize upd (upd Hz z1 (.lst [.int 0])) z2 (.lst (List.replicate ((wh.map vN).length : Int).toNat [V.int 0]).flatten) = H2 at *
        have hP2 := sz _ _ hPz
        refine ⟨Pl, xs, (a : Int), .ref z2, rfl, rfl, hP2, smallt (by omega), by omega, by omega, ?_⟩
        rw [Int.toNat_natCast]
        have hP3 : upd H2 Pl (.lst (xs.take a ++ [.ref z2] ++ xs.drop a)) Pl = _ := upd_same
        have hW3 : upd H2 Pl (.lst (xs.take a ++ [.ref z2] ++ xs.drop a)) W = some (.lst (wh.map vN)) := by rw [upd_ne nWP]; exact sz _ _ hWz
        have hX3 : LsAt [g, Pl] (upd H2 Pl (.lst (xs.take a ++ [.ref z2] ++ xs.drop a))) (xs.take a ++ [.ref z2] ++ xs.drop a) (insL a (List.replicate n 0) mvs) :=
          insL_at ((hXz.same sz).upd (by simp)) (by simp [offz2.2, nz2P.symm]) (by rw [upd_ne nz2P.symm]; exact hz2)
        have D3 : Dk ks (upd H2 Pl (.lst (xs.take a ++ [.ref z2] ++ xs.drop a))) d g (b + 68) := D2.mut offP
        have M3 : Mv d g H (upd H2 Pl (.lst (xs.take a ++ [.ref z2] ++ xs.drop a))) := (((Mx.trans My).trans Mz).trans (Mv.of sz)).mut nP0
        generalize upd H2 Pl (.lst (xs.take a ++ [.ref z2] ++ xs.drop a)) = H3 at *
        refine ⟨_, rfl, W, rfl, ⟨_, tofL hW3⟩, fun W2 nW2 => ?_⟩
        have offW2 := D3.off nW2
        have nW2P : W2 ≠ Pl := (ne_of_none hP3 nW2).symm
        refine lc_list (K := K) (a := W) (xs := wh.map vN) (fun i Hv => Same H3 Hv ∧ Hv W2 = some (.lst (((bump a wh).take i).map vN))) ⟨Same.new nW2, upd_same⟩ (fun i Hv _ h => tofL (h.1 _ _ hW3)) ?_ ?_
        · rintro i y Hv hi ⟨sv, hW2⟩
          obtain ⟨k, hk, rfl⟩ : ∃ k, wh[i]? = some k ∧ y = vN k := by
            rw [List.getElem?_map] at hi
            cases e : wh[i]? with
            | none => rw [e] at hi; cases hi
            | some k => rw [e] at hi; exact ⟨k, rfl, (Option.some.inj hi).symm⟩
          have il := (List.getElem?_eq_some_iff.mp hk).1
          have wl := ok.wl
          refine ⟨rfl, _, rfl, _, rfl, _, rfl, _, _, rfl, rfl, .inr ⟨_, rfl, _, _, rfl, rfl, _, hW2, ?_, ?_, ?_⟩⟩
          · rw [List.length_map, List.length_take]; exact smallt (by omega)
          · intro c u hc'
            rw [upd_ne (ne_of_none hc' nW2)]
            exact sv _ _ hc'
          · rw [upd_same, List.take_add_one, bump_at hk, List.map_append]
            exact congrArg (fun z => some (HO.lst (_ ++ [z]))) (bump_val k a)
        rintro Hv ⟨sv, hW2⟩
        rw [List.length_map, List.take_of_length_le (by unfold bump; rw [List.length_map]; omega)] at hW2
        exact ⟨m0 + 1, by omega, Fa, bump a wh, insL a (List.replicate n 0) mvs, W2, Pl, _, _, _, _, _, _, rfl, hW2, sv _ _ hP3, hX3.same sv, nW2P, offW2.2, nP0, ok.ins al, bd.ins, by rw [insL_len]; omega, (D3.same sv).mono (by omega), M3.trans (Mv.of sv)⟩
      · exact ⟨m0, by omega, Fa, wh, mvs, W, Pl, xs, v6, v7, v8, v11, v12, rfl, hWy, hPy, hXy, nWP, nWg, nP0, ok, bd, ml', Dy.mono (by omega), Mx.trans My⟩
    rintro σ Hx ⟨m1, m17, inv3⟩
    -- tuples behind
    obtain ⟨Fa, wh, mvs, W, Pl, xs, v6, v7, v8, v11, v12, rfl, hW, hP, hX, nWP, nWg, nP0, ok, bd, ml', Dx, Mx⟩ := inv3
    refine ⟨_, rfl, d, g, 6, b + 59, rfl, Dx, by decide, bigN (by decide) (by decide), fun r Hy r0 r1 Dy My => ⟨r, rfl, by omega, by omega, ?_⟩⟩
    have inv4 : RInv d g it b H n lots marks (50 - 3 * 0) (2 ^ 50 * 4 ^ 0) (m1 + 0) [some (.ref d), some (.ref it), some (.int Fa), some (.ref W), some (.ref Pl), none, v6, v7, v8, none, none, v11, v12] Hy :=
      ⟨Fa, wh, mvs, W, Pl, xs, v6, v7, v8, v11, v12, rfl, My.at hW ⟨lst_ne Dx hW, nWg⟩, My.at hP (D.off nP0), hX.mv Dx My (by simp), nWP, nWg, nP0, ok, by simpa using bd, by simpa using ml', Dy.mono (by omega), Mx.trans My⟩
    refine for_range (fun i σ Hx => RInv d g it b H n lots marks (50 - 3 * i) (2 ^ 50 * 4 ^ i) (m1 + i) σ Hx) inv4 ?_ ?_
    · rintro i σ Hx hi ⟨Fa, wh, mvs, W, Pl, xs, v6, v7, v8, v11, v12, rfl, hW, hP, hX, nWP, nWg, nP0, ok, bd, ml', Dx, Mx⟩
      have offP := (show Pl ≠ d ∧ Pl ≠ g from D.off nP0)
      obtain ⟨B, eB⟩ : ∃ B, B = b + (50 - 3 * (i + 1)) := ⟨_, rfl⟩
      have Dx : Dk ks Hx d g (B + 3) := Dx.mono (by omega)
      have xl := hX.len
      have lm1 := ok.len1 n1
      refine ⟨_, rfl, d, g, 7, _, rfl, Dx, by decide, bigN (by decide) (by decide), fun r Hy r0 r1 Dy My => ⟨_, _, rfl, rfl, ?_⟩⟩
      have hPy := My.at hP offP
      refine ⟨_, rfl, ty_l (tofL hPy), _, rfl, _, rfl, _, rfl, Pl, _, rfl, .inl (tofL hPy), d, g, _, _, rfl, Dy, by omega, bigN (by omega) (by omega), fun r2 Hz r20 r21 Dz Mz => ?_⟩
      obtain ⟨j, rfl⟩ : ∃ j : Nat, r2 = (j : Int) := ⟨r2.toNat, by omega⟩
      have Mxz : Mv d g Hx Hz := My.trans Mz
      have hPz := Mxz.at hP offP
      have hWz := Mxz.at hW ⟨lst_ne Dx hW, nWg⟩
      have hXz := hX.mv Dx Mxz (by simp)
      have ej : mvs[j]? = some (mvs[j]'(by omega)) := List.getElem?_eq_getElem _
      generalize (mvs[j]'(by omega)) = my at *
      obtain ⟨qy, ey, nqy, hqy⟩ := hXz.at ej
      have mm := List.mem_of_getElem? ej
      have ly := ok.ml my mm
      refine ⟨Pl, _, _, _, rfl, rfl, tofL hPz, atI_nat ey, qy, rfl, ⟨_, tofL hqy⟩, fun Dn nDn => ?_⟩
      refine lc_list (K := K) (a := qy) (xs := my.map V.int) (fun j2 Hu => Same Hz Hu ∧ Hu Dn = some (.lst (((my.take j2).map fun y => (r - 3) * y).map V.int))) ⟨Same.new nDn, upd_same⟩ (fun j2 Hu _ h => tofL (h.1 _ _ hqy)) ?_ ?_
      · rintro j2 x Hu hj ⟨su, hD⟩
        obtain ⟨z, hz, rfl⟩ : ∃ z, my[j2]? = some z ∧ x = .int z := by
          rw [List.getElem?_map] at hj
          cases e : my[j2]? with
          | none => rw [e] at hj; cases hj
          | some k => rw [e] at hj; exact ⟨k, rfl, (Option.some.inj hj).symm⟩
        have jl := (List.getElem?_eq_some_iff.mp hz).1
        refine ⟨rfl, _, rfl, _, rfl, _, _, rfl, rfl, .inl ⟨by omega, by omega⟩, _, hD, ?_, ?_, ?_⟩
        · rw [List.length_map, List.length_map, List.length_take]; exact smallt (by omega)
        · intro c u hc'
          rw [upd_ne (ne_of_none hc' nDn)]
          exact su _ _ hc'
        · rw [upd_same, List.take_add_one, hz, List.map_append, List.map_append]; rfl
      rintro Hu ⟨su, hD⟩
      rw [List.length_map, List.take_length] at hD
      have hPu := su _ _ hPz
      have nPD : Pl ≠ Dn := ne_of_none hPz nDn
      have offD := Dz.off nDn
      refine ⟨Pl, _, _, rfl, rfl, hPu, smallt (by omega), Fa, wh, mvs ++ [my.map fun y => (r - 3) * y], W, Pl, xs ++ [.ref Dn], _, _, _, _, _, rfl, ?_, upd_same, ?_, nWP, nWg, nP0, ok.app mm, (bd.app (by omega) mm).mono (by rw [Nat.pow_succ]; omega), by rw [List.length_append, ml']; rfl, ((Dz.same su).mono (by omega)).mut offP, ((Mx.trans Mxz).trans (Mv.of su)).mut nP0⟩
      · rw [upd_ne nWP]; exact su _ _ hWz
      · exact ((hXz.same su).upd (by simp)).snoc (by simp [offD.2, nPD.symm]) (by rw [upd_ne nPD.symm]; exact hD)
    rintro σ Hx ⟨Fa, wh, mvs, W, Pl, xs, v6, v7, v8, v11, v12, rfl, hW, hP, hX, nWP, nWg, nP0, ok, bd, ml', Dx, Mx⟩
    have r5 : r.toNat ≤ 5 := by omega
    have bd60 : Bd (2 ^ 60) Fa mvs := bd.mono (Nat.le_trans (Nat.mul_le_mul_left _ (Nat.pow_le_pow_right (by decide) r5)) (by decide))
    -- what is returned
    refine ⟨_, rfl, _, rfl, .inl ⟨W, _, rfl, tofL hW, fun tw ntw => ?_⟩⟩
    have s1 := Same.new (o := .tup (wh.map vN)) ntw
    refine ⟨_, rfl, Pl, rfl, ⟨_, tofL (s1 _ _ hP)⟩, fun Dn nDn => ?_⟩
    have hX1 := hX.same s1
    have htw : upd Hx tw (.tup (wh.map vN)) tw = some (.tup (wh.map vN)) := upd_same
    have hP1 := s1 _ _ hP
    generalize upd Hx tw (.tup (wh.map vN)) = H1 at *
    refine lc_list (K := K) (a := Pl) (xs := xs) (fun i Hy => Same H1 Hy ∧ ∃ zs, Hy Dn = some (.lst zs) ∧ MvAt Hy zs (mvs.take i)) ⟨Same.new nDn, [], upd_same, .nil⟩ (fun i Hy _ h => tofL (h.1 _ _ hP1)) ?_ ?_
    · rintro i y Hy hi ⟨sy, zs, hD, hZ⟩
      obtain ⟨p, mv, rfl, np, hp, hmv⟩ := (hX1.same sy).get hi
      have il := (List.getElem?_eq_some_iff.mp hmv).1
      have zl := hZ.len
      rw [List.length_take] at zl
      refine ⟨rfl, _, rfl, .inl ⟨p, _, rfl, tofL hp, fun t nt => ?_⟩⟩
      have nDt : Dn ≠ t := ne_of_none hD nt
      have sn := Same.new (o := .tup (mv.map V.int)) nt
      refine ⟨zs, sn _ _ hD, smallt (by omega), ?_, zs ++ [.ref t], upd_same, ?_⟩
      · intro c u hc'
        rw [upd_ne (ne_of_none hc' nDn)]
        exact sn _ _ (sy _ _ hc')
      · have kt : ∀ (o o2 : HO) b us, (∃ l, o2 = .lst l) → Hy b = some (.tup us) → upd (upd Hy t o) Dn o2 b = some (.tup us) := fun o o2 b us _ hb => by
          rw [upd_ne (fun e => by rw [e, hD] at hb; cases hb), upd_ne (ne_of_none hb nt)]
          exact hb
        rw [List.take_add_one, hmv]
        exact (hZ.to fun a us h => kt _ _ a us ⟨_, rfl⟩ h).snoc (by rw [upd_ne nDt.symm]; exact upd_same)
    rintro Hy ⟨sy, zs, hD, hZ⟩
    rw [hX1.len, List.take_length] at hZ
    refine .inl ⟨Dn, _, rfl, tofL hD, fun tm2 ntm => ⟨(show 3 ≤ sizeLine from small (by decide)), fun t nt => ?_⟩⟩
    have s3 := Same.new (o := .tup zs) ntm
    have s4 := Same.new (o := .tup [.int Fa, .ref tw, .ref tm2]) nt
    have sall := s1.trans (sy.trans (s3.trans s4))
    refine q t Fa wh mvs _ ((Dx.mono (by omega)).same sall) (Mx.trans (Mv.of sall)) ⟨tw, tm2, zs, upd_same, ?_, s4 _ _ upd_same, (hZ.to (tups_same s3)).to (tups_same s4)⟩ ok bd60 (by omega)
    rw [← map_vN]
    exact s4 _ _ (s3 _ _ (sy _ _ htw))
end
end NK29
namespace L2
open PySem PySem.Spec PyProof.Rows
theorem cr_anyK {X : Cx} {K : PySem.W.Frag} (hc : X.calm = true) (h : X.K = K := by rfl) : CallR X (.builtin "any") (rAny K) := h ▸ cr_any hc
end L2
namespace NK29
open PySem PySem.Spec PyProof.Rows L2 GL RZ G3
theorem any_take {α : Type} {l : List α} {p : α → Bool} {i : Nat} {x : α} (h : l[i]? = some x) : (l.take (i + 1)).map p = (l.take i).map p ++ [p x] := by
  rw [List.take_add_one, h, List.map_append]; rfl
theorem word_ne {a b : String} (h : (PySem.Str.ofString a = PySem.Str.ofString b) → False) : decide (PySem.Str.ofString a = PySem.Str.ofString b) = false := decide_eq_false h
theorem map_id_any (l : List Bool) : l.any id = l.any (fun b => b) := rfl
section
variable {P : Program} {w : World} {K : PySem.W.Frag} {mg : Str → Option Value} {base : Heap}
abbrev s_are_unlike : Stmt := topS 67
theorem sc_are_unlike : FnScope ["system", "moves", "unlike", "move", "one", "other"] ["system", "moves", "unlike"] (defScope s_are_unlike) := ⟨rfl, rfl, rfl, by decide +kernel, rfl, by decide +kernel, by decide +kernel⟩
theorem ok_are_unlike {f C : Addr} {fd : FuncData} (F : Fun K "_are_unlike" "_are_unlike" s_are_unlike f fd) (gl : mg "_are_unlike" = some (.ref f)) (T : Bl mg) (S : Sys K mg C) (D_differs : DefG P w K mg base 1 "_differs" ["system", "row", "one", "other"] (spDif K C)) : DefG P w K mg base 2 "_are_unlike" ["system", "moves", "unlike"] (spUnl K C) := by
  refine def_mk F gl (F.binds fun _ _ _ _ _ _ us hl => match us, hl with | [_, _, _], _ => rfl) (okG F sc_are_unlike (fun vs H Q E h => ?_) fun cdv A outer s H vs Q E hr hc h => ?_)
  · obtain ⟨a, tm, u, xs, us, ns, rows, marks, mvs, prs, rfl, _⟩ := h
    rfl
  · obtain ⟨a, tm, u, xs, us, ns, rows, marks, mvs, prs, rfl, hs, hm, hv, hl, m1, hu, hp, p1, hn, q⟩ := h
    have nd := sc_are_unlike.nd
    refine ⟨_, (pss_one (ps_ret (pe_callB (cr_all rfl) (by rfl) T.all boot_all (pa_cons (pe_lc (own := [("one", 4), ("other", 5)]) (g := (gTup K 2 (gCons (gName 4) (gCons (gName 5) gNil)))) (tt := tYes) rfl nd (pi_tup (pv 2)) (blkOk_by (own := [("one", 4), ("other", 5)]) (N := ["system", "moves", "unlike", "move", "one", "other"]) (sc := defScope s_are_unlike) (by decide +kernel)) (fun _ _ _ _ _ => (pg_tup rfl (pgs_cons (pg_name (i := 4) nd rfl (by first | exact Or.inl rfl | exact Or.inr rfl)) (pgs_cons (pg_name (i := 5) nd rfl (by first | exact Or.inl rfl | exact Or.inr rfl)) pgs_nil)))) (fun _ _ _ _ _ => pts_nil) (fun _ _ _ _ _ => (pe_callB (cr_anyK (K := K) rfl) (by rfl) T.any boot_any (pa_cons (pe_lc (own := [("move", 3)]) (g := (gName 3)) (tt := tYes) rfl nd (pi_tupK (K := K) (pv 1)) (blkOk_by (own := [("move", 3)]) (by with_unfolding_all rfl)) (fun _ _ _ _ _ => (pg_name (i := 3) nd rfl (by first | exact Or.inl rfl | exact Or.inr rfl))) (fun _ _ _ _ _ => pts_nil) (fun _ _ _ _ _ => (pe_def D_differs (hr.mono (by decide)) hc (by rfl) (pa_cons (pv 0) (pa_cons (pv 3) (pa_cons (pv 4) (pa_cons (pv 5) pa_nil))))))) pa_nil)))) pa_nil)))), ?_⟩
    refine ⟨_, rfl, u, rfl, ⟨_, hu⟩, fun D nD => ?_⟩
    refine lc_tup (K := K) (a := u) (xs := us) (fun i H2 => Same H H2 ∧ H2 D = some (.lst (((prs.take i).map fun p => mvs.any (dif ns p.1 p.2)).map V.bl))) ⟨Same.new nD, upd_same⟩ (fun i H2 _ h => Same.tup h.1 hu) ?_ ?_
    · rintro i x H2 hi ⟨s2, hD⟩
      obtain ⟨p, z1, z2, rfl, hp2, hpi⟩ := (hp.to (tups_same s2)).get hi
      have pm := hn _ (List.mem_of_getElem? hpi)
      have il := (List.getElem?_eq_some_iff.mp hpi).1
      refine ⟨p, _, rfl, tofT hp2, rfl, _, _, rfl, _, _, rfl, rfl, rfl, ?_⟩
      refine ⟨_, rfl, tm, rfl, ⟨_, tofT (s2 _ _ hm)⟩, fun D2 nD2 => ?_⟩
      have nDD : D ≠ D2 := ne_of_none hD nD2
      refine lc_tup (K := K) (a := tm) (xs := xs) (fun j H3 => Same H2 H3 ∧ H3 D2 = some (.lst (((mvs.take j).map (dif ns z1 z2)).map V.bl))) ⟨Same.new nD2, upd_same⟩ (fun j H3 _ h => tofT ((s2.trans h.1) _ _ hm)) ?_ ?_
      · rintro j y H3 hj ⟨s3, hD2⟩
        obtain ⟨p3, mv, rfl, hp3, hmv⟩ := (hv.to (tups_same (s2.trans s3))).get hj
        have jl := (List.getElem?_eq_some_iff.mp hmv).1
        refine ⟨rfl, _, rfl, _, rfl, _, rfl, _, rfl, a, p3, z1, z2, ns, rows, marks, mv, rfl, hs.kp (Kp.of (s2.trans s3)), hp3, hl mv (List.mem_of_getElem? hmv), pm.1, pm.2, _, hD2, ?_, ?_, ?_⟩
        · rw [List.length_map, List.length_map, List.length_take]; exact smallt (by omega)
        · intro c o hc'
          rw [upd_ne (ne_of_none hc' nD2)]
          exact s3 _ _ hc'
        · rw [upd_same, any_take hmv, List.map_append]; rfl
      rintro H3 ⟨s3, hD2⟩
      rw [hv.len, List.take_length] at hD2
      refine ⟨D2, _, rfl, tofL hD2, _, s3 _ _ hD, ?_, ?_, ?_⟩
      · rw [List.length_map, List.length_map, List.length_take]; exact smallt (by omega)
      · intro c o hc'
        rw [upd_ne (ne_of_none hc' nD)]
        exact s3 _ _ (s2 _ _ hc')
      · rw [upd_same, any_take hpi, List.map_append]
        have e : ((mvs.map (dif ns z1 z2)).any id) = mvs.any (dif ns z1 z2) := by rw [List.any_map]; rfl
        rw [e]; rfl
    rintro H2 ⟨s2, hD⟩
    rw [hp.len, List.take_length] at hD
    refine ⟨D, _, rfl, tofL hD, ?_⟩
    have e : ((prs.map fun p => mvs.any (dif ns p.1 p.2)).all id) = partd ns mvs prs := by
      unfold partd
      rw [List.all_map]; rfl
    rw [e]
    exact q H2 s2
abbrev s_verdict_holds : Stmt := topS 60
theorem sc_verdict_holds : FnScope ["system", "thing", "unlike", "modulus", "number", "one", "other", "shown", "prime"] ["system", "thing", "unlike"] (defScope s_verdict_holds) := ⟨rfl, rfl, rfl, by decide +kernel, rfl, by decide +kernel, by decide +kernel⟩
theorem ok_verdict_holds {f C : Addr} {fd : FuncData} {kws : List (Str × V)} (F : FunD K "verdict_holds" "verdict_holds" (defArgs s_verdict_holds) (defBody s_verdict_holds) (defScope s_verdict_holds) [] kws f fd) (T : Bl mg) (S : Sys K mg C)
    (D_is_alike : DefG P w K mg base 3 "_is_alike" ["system", "number"] (spAlike K C)) (D_form_holds : DefG P w K mg base 5 "form_holds" ["system", "thing"] (spHolds K C)) (D_are_unlike : DefG P w K mg base 2 "_are_unlike" ["system", "moves", "unlike"] (spUnl K C)) : FnG P w K mg base CX0 6 f fd ["system", "thing", "unlike"] (spVh K C) := by
  refine okD F sc_verdict_holds (fun vs H Q E h => ?_) fun cdv A outer s H vs Q E hr hc h => ?_
  · obtain ⟨a, t, u, us, ns, rows, marks, prs, th, rfl, _⟩ := h
    rfl
  · obtain ⟨a, t, u, us, ns, rows, marks, prs, th, rfl, hs, n1, n6, l1, l2, fR, fS, ht, ok, hu, hp, p1, hn, q⟩ := h
    have nd := sc_verdict_holds.nd
    refine ⟨_, (pss_cons (ps_if (pt_not (pt_val (pe_callB call_isi (by rfl) T.isinstance boot_isinstance (pa_cons (pv 1) (pa_cons (pe_bltn (v := .ty "tuple") (by rfl) T.tuple boot_tuple rfl) pa_nil)))))
        (pss_one (ps_ret pe_bl))
        pss_nil)
      (pss_cons (ps_match (pv 1) (pmc_word rfl nd (PCap.cons (i := 3) rfl (by first | exact Or.inl rfl | exact Or.inr rfl) (by first | exact Or.inl rfl | exact Or.inr rfl) PCap.nil)
        (pss_one ps_never)
        (pmc_word rfl nd (PCap.cons (i := 4) rfl (by first | exact Or.inl rfl | exact Or.inr rfl) (by first | exact Or.inl rfl | exact Or.inr rfl) PCap.nil)
        (pss_one (ps_ret (pe_and (pe_notT (pv 2)) (pe_and (pe_def D_is_alike (hr.mono (by decide)) hc (by rfl) (pa_cons (pv 0) (pa_cons (pv 4) pa_nil))) (pe_one (pe_cmpR op_ge (pv 4) pe_int (nomark _)))))))
        (pmc_word rfl nd (PCap.cons (i := 5) rfl (by first | exact Or.inl rfl | exact Or.inr rfl) (by first | exact Or.inl rfl | exact Or.inr rfl) (PCap.cons (i := 6) rfl (by first | exact Or.inl rfl | exact Or.inr rfl) (by first | exact Or.inl rfl | exact Or.inr rfl) PCap.nil))
        (pss_one ps_never)
        (pmc_word rfl nd (PCap.cons (i := 4) rfl (by first | exact Or.inl rfl | exact Or.inr rfl) (by first | exact Or.inl rfl | exact Or.inr rfl) (PCap.cons (i := 7) rfl (by first | exact Or.inl rfl | exact Or.inr rfl) (by first | exact Or.inl rfl | exact Or.inr rfl) PCap.nil))
        (pss_one (ps_ret (pe_and (pe_def D_is_alike (hr.mono (by decide)) hc (by rfl) (pa_cons (pv 0) (pa_cons (pv 4) pa_nil))) (pe_and (pe_def D_form_holds (hr.mono (by decide)) hc (by rfl) (pa_cons (pv 0) (pa_cons (pv 7) pa_nil))) (pe_one (pe_def D_are_unlike (hr.mono (by decide)) hc (by rfl) (pa_cons (pv 0) (pa_cons (pe_ix ix_tup (pv 7) pe_int (fun _ _ => rfl)) (pa_cons (pv 2) pa_nil)))))))))
        (pmc_word rfl nd (PCap.cons (i := 4) rfl (by first | exact Or.inl rfl | exact Or.inr rfl) (by first | exact Or.inl rfl | exact Or.inr rfl) (PCap.cons (i := 8) rfl (by first | exact Or.inl rfl | exact Or.inr rfl) (by first | exact Or.inl rfl | exact Or.inr rfl) PCap.nil))
        (pss_one ps_never)
        pmc_nil))))))
      (pss_one (ps_ret pe_bl)))), ?_⟩
    cases th with
    | alike k =>
      have ht : H t = some (.tup [.str "alike", .int k]) := ht
      refine ⟨_, rfl, _, _, _, _, true, rfl, .ty "tuple", .base (.tup ht), if_pos (by decide), _, rfl, ?_⟩
      refine ite2 (fun e => absurd e (by decide)) (fun _ => ?_)
      refine ⟨_, rfl, t, _, _, rfl, tofT ht, ite2 (fun _ => ite2 (fun e => absurd e (by decide +kernel)) (fun _ => ?_)) (fun e => absurd rfl e)⟩
      refine ⟨t, _, _, rfl, tofT ht, ite2 (fun _ => ite2 (fun _ => ?_) (fun e => absurd (by decide +kernel) e)) (fun e => absurd rfl e)⟩
      refine ⟨_, rfl, _, .inr (.inl ⟨us, hu, rfl⟩), _, rfl, ?_⟩
      have ep : (!(!us.isEmpty)) = decide (prs = []) := by
        have := hp.len
        cases us with
        | nil => cases prs with
          | nil => rfl
          | cons _ _ => simp at this
        | cons _ _ => cases prs with
          | nil => simp at this
          | cons _ _ => rfl
      rw [ep]
      refine ite2 (fun e1 => ?_) (fun e1 => ?_)
      · refine ⟨_, rfl, _, rfl, a, k, ns, rows, marks, rfl, hs, n1, by omega, l1, l2, fR, fS, fun H1 s1 => ⟨_, rfl, ite2 (fun e2 => ?_) (fun e2 => ?_)⟩⟩
        · refine ⟨_, rfl, _, _, rfl, rfl, ?_⟩
          have qq := q H1 s1
          have ev : vh ns rows marks prs (.alike k) = decide (1 ≤ k) := by
            show (decide (prs = []) && alikeB ns.length rows marks k && decide (1 ≤ k)) = _
            rw [e1, e2]; rfl
          rw [ev] at qq
          exact qq
        · have qq := q H1 s1
          have ev : vh ns rows marks prs (.alike k) = false := by
            show (decide (prs = []) && alikeB ns.length rows marks k && decide (1 ≤ k)) = _
            rw [show alikeB ns.length rows marks k = false by simpa using e2, Bool.and_false]; rfl
          rw [ev] at qq
          exact qq
      · have qq := q H (Same.refl H)
        have ev : vh ns rows marks prs (.alike k) = false := by
          show (decide (prs = []) && alikeB ns.length rows marks k && decide (1 ≤ k)) = _
          rw [show decide (prs = []) = false by simpa using e1]; rfl
        rw [ev] at qq
        exact qq
    | form k Fa wh mvs =>
      obtain ⟨f1, ht, hf⟩ := ht
      obtain ⟨k0, fk, m12, _⟩ := ok
      refine ⟨_, rfl, _, _, _, _, true, rfl, .ty "tuple", .base (.tup ht), if_pos (by decide), _, rfl, ?_⟩
      refine ite2 (fun e => absurd e (by decide)) (fun _ => ?_)
      refine ⟨_, rfl, t, _, _, rfl, tofT ht, ite2 (fun e => absurd (of_decide_eq_true e) (by show ¬ (2 = 1); decide)) (fun _ => ?_)⟩
      refine ⟨t, _, _, rfl, tofT ht, ite2 (fun e => absurd (of_decide_eq_true e) (by show ¬ (2 = 1); decide)) (fun _ => ?_)⟩
      refine ⟨t, _, _, rfl, tofT ht, ite2 (fun _ => ite2 (fun e => absurd e (by decide +kernel)) (fun _ => ?_)) (fun e => absurd rfl e)⟩
      refine ⟨t, _, _, rfl, tofT ht, ite2 (fun _ => ite2 (fun _ => ?_) (fun e => absurd (by decide +kernel) e)) (fun e => absurd rfl e)⟩
      refine ⟨_, rfl, _, rfl, a, k, ns, rows, marks, rfl, hs, n1, by omega, l1, l2, fR, fS, fun H1 s1 => ⟨_, rfl, ite2 (fun e2 => ?_) (fun e2 => ?_)⟩⟩
      · have okR : OkR ns.length (rows.map Prod.fst) rows := ⟨l1, fun r hr => ⟨List.mem_map.mpr ⟨r, hr, rfl⟩, fR r hr⟩⟩
        refine ⟨_, rfl, _, rfl, a, f1, ns.length, rows.map Prod.fst, rows, marks, Fa, wh, mvs, rfl, (hs.kp (Kp.of s1)).raw, okR, ⟨l2, fS⟩, n1, n6, hf.kp (Kp.of s1), fk, m12, fun H2 s2 => ⟨_, rfl, ?_⟩⟩
        refine ite2 (fun _ => ?_) (fun e => absurd rfl e)
        obtain ⟨tw, tm, xs, g1, g2, g3, g4⟩ := hf.kp (Kp.of (s1.trans s2))
        refine ⟨_, rfl, _, rfl, f1, _, 2, _, rfl, rfl, tofT g1, rfl, _, rfl, a, tm, u, xs, us, ns, rows, marks, mvs, prs, rfl, hs.kp (Kp.of (s1.trans s2)), g3, g4, fk.ml, by omega, Same.tup (s1.trans s2) hu, hp.to (tups_same (s1.trans s2)), p1, hn, fun H3 s3 => ?_⟩
        have qq := q H3 ((s1.trans s2).trans s3)
        have ev : vh ns rows marks prs (.form k Fa wh mvs) = partd ns mvs prs := by
          show (alikeB ns.length rows marks k && partd ns mvs prs) = _
          rw [e2]; rfl
        rw [ev] at qq
        exact qq
      · have qq := q H1 s1
        have ev : vh ns rows marks prs (.form k Fa wh mvs) = false := by
          show (alikeB ns.length rows marks k && partd ns mvs prs) = _
          rw [show alikeB ns.length rows marks k = false by simpa using e2]; rfl
        rw [ev] at qq
        exact qq
end
end NK29
namespace NK29
open PySem PySem.Spec PyProof.Rows L2 GL RZ G3
def spMet (K : PySem.W.Frag) : Sp := fun vs H Q _ => ∃ (d g a t : Addr) (ns : List Str) (rows : List Row) (marks : List Rst) (ms : List Int), vs = [.ref a, .ref t] ∧ WAt K d g H a ns rows marks ∧ H t = some (.tup (ms.map V.int)) ∧ ms.length = ns.length ∧ ∀ H', Same H H' → Q (.bl (dueB rows marks ms)) H'
def spApart (K : PySem.W.Frag) : Sp := fun vs H Q _ => ∃ (d g a : Addr) (b m : Nat) (ns : List Str) (rows : List Row) (marks : List Rst), vs = [.ref d, .ref a, .int (m : Int)] ∧ WAt K d g H a ns rows marks ∧ Dk ks H d g (b + 10) ∧ m ≤ 2 ∧
  ∀ (t : Addr) (us : List V) (prs : Prs) (H' : Hp), Dk ks H' d g b → Mv d g H H' → H' t = some (.tup us) → PrsAt H' us prs → prs.length ≤ 2 → (∀ p ∈ prs, p.1 ∈ ns ∧ p.2 ∈ ns) → Q (.ref t) H'
def spParted (K : PySem.W.Frag) : Sp := fun vs H Q _ => ∃ (d g a tm u : Addr) (xs us : List V) (ns : List Str) (rows : List Row) (marks : List Rst) (mvs : List (List Int)) (prs : Prs), vs = [.ref a, .ref tm, .ref u] ∧ WAt K d g H a ns rows marks ∧ H tm = some (.tup xs) ∧ MvAt H xs mvs ∧ (∀ mv ∈ mvs, mv.length = ns.length) ∧
  mvs.length ≤ 100 ∧ H u = some (.tup us) ∧ PrsAt H us prs ∧ prs.length ≤ 100 ∧ (∀ p ∈ prs, p.1 ∈ ns ∧ p.2 ∈ ns) ∧ ∀ H', Same H H' → Q (.bl (partd ns mvs prs)) H'
theorem WAt.same {K : PySem.W.Frag} {d g a : Addr} {ns : List Str} {H H' : Hp} {rows : List Row} {marks : List Rst} (h : WAt K d g H a ns rows marks) (s : Same H H') : WAt K d g H' a ns rows marks := by
  obtain ⟨tn, Ma, Li, xs, ys, h1, h2, h4, h5, h6, h7, n1, n2, n3⟩ := h.ex
  exact ⟨⟨tn, Ma, Li, xs, ys, s _ _ h1, (Kp.of s).z h2, s _ _ h4, h5.to (tups_same s), s _ _ h6, h7.to (tups_same s), n1, n2, n3⟩, h.ml, h.fm, h.fl, h.l4, h.n1, h.n6⟩
theorem eqv_list_nil : ∀ ds : List PyData, PyData.eqv (.list ds) (.list []) = ds.isEmpty
  | [] => rfl
  | d :: r => rfl
section
variable {P : Program} {w : World} {K : PySem.W.Frag} {mg : Str → Option Value} {base : Heap}
abbrev s_is_met : Stmt := topS 75
theorem sc_is_met : FnScope ["_law_w", "_law_some", "_law_worth", "_law_due", "_law_by"] ["_law_w", "_law_some"] (defScope s_is_met) := ⟨rfl, rfl, rfl, by decide +kernel, rfl, by decide +kernel, by decide +kernel⟩
theorem ok_is_met {f : Addr} {fd : FuncData} (F : Fun K "_law_is_met" "_law_is_met" s_is_met f fd) (gl : mg "_law_is_met" = some (.ref f)) (T : Bl mg) (D_ldot : DefG P w K mg base 1 "_law_dot" ["_law_a", "_law_b"] (spDot K)) : DefG P w K mg base 2 "_law_is_met" ["_law_w", "_law_some"] (spMet K) := by
  refine def_mk F gl (F.binds fun _ _ _ _ _ _ us hl => match us, hl with | [_, _], _ => rfl) (okG F sc_is_met (fun vs H Q E h => ?_) fun cdv A outer s H vs Q E hr hc h => ?_)
  · obtain ⟨d, g, a, t, ns, rows, marks, ms, rfl, _⟩ := h
    rfl
  · obtain ⟨d, g, a, t, ns, rows, marks, ms, rfl, hw, ht, hl, q⟩ := h
    have nd := sc_is_met.nd
    have hu := hu_of hr
    refine ⟨_, (pss_cons (ps_for PassesOwn.never rfl (pi_list (pe_dget hu (pv 0) pe_str (fun _ _ => rfl))) (pg_tup rfl (pgs_cons (pg_name (i := 2) nd rfl (by first | exact Or.inl rfl | exact Or.inr rfl)) (pgs_cons (pg_name (i := 3) nd rfl (by first | exact Or.inl rfl | exact Or.inr rfl)) pgs_nil)))
        (pss_one (ps_if (pt_cmpR op_ne (pe_def D_ldot (hr.mono (by decide)) hc (by rfl) (pa_cons (pv 2) (pa_cons (pv 1) pa_nil))) (pv 3) (nomark _))
          (pss_one (ps_ret pe_bl))
          pss_nil)))
      (pss_cons (ps_for PassesOwn.never rfl (pi_list (pe_dget hu (pv 0) pe_str (fun _ _ => rfl))) (pg_tup rfl (pgs_cons (pg_name (i := 2) nd rfl (by first | exact Or.inl rfl | exact Or.inr rfl)) (pgs_cons (pg_name (i := 3) nd rfl (by first | exact Or.inl rfl | exact Or.inr rfl)) (pgs_cons (pg_name (i := 4) nd rfl (by first | exact Or.inl rfl | exact Or.inr rfl)) pgs_nil))))
        (pss_one (ps_if (pt_cmpR op_ne (pe_op op_mod (pe_callTy call_int1 (by rfl) T.int boot_int (pa_cons (pe_op op_sub (pe_def D_ldot (hr.mono (by decide)) hc (by rfl) (pa_cons (pv 2) (pa_cons (pv 1) pa_nil))) (pv 3)) pa_nil)) (pv 4)) pe_int (nomark _))
          (pss_one (ps_ret pe_bl))
          pss_nil)))
      (pss_one (ps_ret pe_bl)))), ?_⟩
    obtain ⟨tn, Ma, Li, xs, ys, h1, h2, h4, h5, h6, h7, n1, n2, n3⟩ := id hw.ex
    have fl := hw.fl
    have fm := hw.fm
    have n6 := hw.n6
    refine ⟨_, rfl, a, _, rfl, w_l h1, Li, rfl, ⟨_, tofL h6⟩, for_list (K := K) (a := Li) (xs := ys) (fun i σ Hx => Same H Hx ∧ (rows.take i).all (okRow ms) = true ∧ ∃ v2 v3 v4, σ = [some (.ref a), some (.ref t), v2, v3, v4]) ⟨Same.refl H, rfl, none, none, none, rfl⟩ (fun i σ Hx _ h => tofL (h.1 _ _ h6)) ?_ ?_⟩
    · rintro i y σ Hx hi ⟨sx, al, v2, v3, v4, rfl⟩
      obtain ⟨k1, k2, fs, c, rfl, hk1, hk2, hr2⟩ := (h7.to (tups_same sx)).get hi
      have fr : Fine ns.length fs ∧ -41 ≤ c ∧ c ≤ 41 := fl _ (List.mem_of_getElem? hr2)
      refine ⟨k1, _, rfl, tofT hk1, rfl, _, _, rfl, _, _, rfl, rfl, ?_⟩
      refine ⟨_, rfl, _, rfl, k2, t, fs, ms, rfl, tofT hk2, tofT (sx _ _ ht), by rw [fr.1.1, hl], by rw [fr.1.1]; omega, fr.1.small, fun H3 s3 => ⟨_, rfl, rfl, _, rfl, ?_⟩⟩
      rw [dec_int]
      refine ite2 (fun e => ?_) (fun e => ?_)
      · have z : dueB rows marks ms = false := by
          unfold dueB
          rw [all_bad hr2 (show okRow ms (fs, c) = false by unfold okRow; simpa using e)]
          rfl
        have qq := q H3 (sx.trans s3)
        rw [z] at qq
        exact qq
      · refine ⟨sx.trans s3, ?_, _, _, _, rfl⟩
        rw [all_take hr2, al]
        show (true && okRow ms (fs, c)) = true
        unfold okRow
        simpa using e
    · rintro σ Hx ⟨sx, al, v2, v3, v4, rfl⟩
      rw [h7.len, List.take_length] at al
      refine ⟨_, rfl, a, _, rfl, w_m (sx _ _ h1), Ma, rfl, ⟨_, tofL (sx _ _ h4)⟩, for_list (K := K) (a := Ma) (xs := xs) (fun i σ Hy => Same H Hy ∧ (marks.take i).all (okRst ms) = true ∧ ∃ v2 v3 v4, σ = [some (.ref a), some (.ref t), v2, v3, v4]) ⟨sx, rfl, _, _, _, rfl⟩ (fun i σ Hy _ h => tofL (h.1 _ _ h4)) ?_ ?_⟩
      · rintro i y σ Hy hi ⟨sy, bl, v2, v3, v4, rfl⟩
        obtain ⟨k1, k2, fs, c, m, rfl, hk1, hk2, hr2⟩ := (h5.to (tups_same sy)).get hi
        have fr : Fine ns.length fs ∧ (-41 ≤ c ∧ c ≤ 41) ∧ 2 ≤ m ∧ m ≤ 12 := fm _ (List.mem_of_getElem? hr2)
        refine ⟨k1, _, rfl, tofT hk1, rfl, _, _, rfl, _, _, rfl, _, _, rfl, rfl, ?_⟩
        refine ⟨_, rfl, _, rfl, k2, t, fs, ms, rfl, tofT hk2, tofT (sy _ _ ht), by rw [fr.1.1, hl], by rw [fr.1.1]; omega, fr.1.small, fun H3 s3 => ?_⟩
        refine ⟨_, rfl, _, _, rfl, rfl, .inl ⟨_, rfl, _, rfl, _, _, rfl, rfl, (show (0 : Int) < m by omega), rfl, _, rfl, ?_⟩⟩
        refine ite2 (fun e => ?_) (fun e => ?_)
        · have z : dueB rows marks ms = false := by
            unfold dueB
            rw [all_bad hr2 (show okRst ms (fs, c, m) = false by
              unfold okRst
              refine decide_eq_false fun h => ?_
              have h : (dotI fs ms - c) % m = 0 := h
              rw [decide_eq_true (show (fun i j => V.int (i % j)) (dotI fs ms - c) m = V.int 0 from congrArg V.int h)] at e
              cases e), Bool.and_false]
          have qq := q H3 (sy.trans s3)
          rw [z] at qq
          exact qq
        · refine ⟨sy.trans s3, ?_, _, _, _, rfl⟩
          rw [all_take hr2, bl]
          show (true && okRst ms (fs, c, m)) = true
          unfold okRst
          have e' : (dotI fs ms - c) % m = 0 := Classical.byContradiction fun hz => e (by
            rw [decide_eq_false (show ¬ ((fun i j => V.int (i % j)) (dotI fs ms - c) m = V.int 0) from fun z => hz (V.int.inj z))]
            rfl)
          rw [decide_eq_true (show (dotI (fs, c, m).1 ms - (fs, c, m).2.1) % (fs, c, m).2.2 = 0 from e')]
          rfl
      · rintro σ Hy ⟨sy, bl, v2, v3, v4, rfl⟩
        rw [h5.len, List.take_length] at bl
        have qq := q Hy sy
        have z : dueB rows marks ms = true := by unfold dueB; rw [al, bl]; rfl
        rw [z] at qq
        exact qq
abbrev s_apart : Stmt := topS 81
theorem sc_apart : FnScope ["_law_deck_here", "_law_w", "_law_many", "_law_found", "_law_n", "_law_go", "_law_k", "_law_j"] ["_law_deck_here", "_law_w", "_law_many"] (defScope s_apart) := ⟨rfl, rfl, rfl, by decide +kernel, rfl, by decide +kernel, by decide +kernel⟩
theorem ok_apart {f : Addr} {fd : FuncData} (F : Fun K "_law_apart" "_law_apart" s_apart f fd) (gl : mg "_law_apart" = some (.ref f)) (T : Bl mg) (D_draw : DefG P w K mg base 1 "_law_draw" ["_law_deck_here", "_law_many"] (spDrw ks)) : DefG P w K mg base 2 "_law_apart" ["_law_deck_here", "_law_w", "_law_many"] (spApart K) := by
  refine def_mk F gl (F.binds fun _ _ _ _ _ _ us hl => match us, hl with | [_, _, _], _ => rfl) (okG F sc_apart (fun vs H Q E h => ?_) fun cdv A outer s H vs Q E hr hc h => ?_)
  · obtain ⟨d, g, a, b, m, ns, rows, marks, rfl, _⟩ := h
    rfl
  · obtain ⟨d, g, a, b, m, ns, rows, marks, rfl, hw, D, m2, q⟩ := h
    have nd := sc_apart.nd
    have hu := hu_of hr
    refine ⟨_, (pss_cons (ps_par (i := 3) (j := 4) rfl nd rfl rfl (by decide) rfl rfl (pa_cons (pe_lst pa_nil) (pa_cons (pe_callB call_len_seq (by rfl) T.len boot_len (pa_cons (pe_dget hu (pv 1) pe_str (fun _ _ => rfl)) pa_nil)) pa_nil)) rfl)
      (pss_cons (ps_for PassesOwn.never rfl (pi_range1 (by rfl) T.range (pa_cons (pe_ifExp (pt_cmpR op_gt (pv 4) pe_int (nomark _)) (pv 2) pe_int) pa_nil)) (pg_name (i := 5) nd rfl (by first | exact Or.inl rfl | exact Or.inr rfl))
        (pss_cons (ps_set (i := 6) nd rfl (by first | exact Or.inl rfl | exact Or.inr rfl) (pe_def D_draw (hr.mono (by decide)) hc (by rfl) (pa_cons (pv 0) (pa_cons (pv 4) pa_nil))))
        (pss_cons (ps_set (i := 7) nd rfl (by first | exact Or.inl rfl | exact Or.inr rfl) (pe_op op_mod (pe_op op_add (pe_op op_add (pv 6) pe_int) (pe_def D_draw (hr.mono (by decide)) hc (by rfl) (pa_cons (pv 0) (pa_cons (pe_op op_sub (pv 4) pe_int) pa_nil)))) (pv 4)))
        (pss_one (ps_expr (pe_bm PySem.F.plainAttrs_list PySem.F.slot_list_append PySem.F.type_list_append mt_append (pv 3) (pa_cons (pe_tup (pa_cons (pe_ix ix_tup (pe_dget hu (pv 1) pe_str (fun _ _ => rfl)) (pv 6) (fun _ _ => rfl)) (pa_cons (pe_ix ix_tup (pe_dget hu (pv 1) pe_str (fun _ _ => rfl)) (pv 7) (fun _ _ => rfl)) pa_nil))) pa_nil)))))))
      (pss_one (ps_ret (pe_tupleOf (by rfl) T.tuple (pv 3)))))), ?_⟩
    obtain ⟨tn, Ma, Li, xs, ys, h1, h2, h4, h5, h6, h7, n1, n2, n3⟩ := id hw.ex
    have l1 := hw.n1
    have l6 := hw.n6
    refine ⟨Nat.zero_le _, fun p np => ?_⟩
    have offp := D.off np
    have s1 := Same.new (o := .lst []) np
    refine ⟨_, rfl, a, _, rfl, w_c (s1 _ _ h1), tn, _, rfl, .inr ((Kp.of s1).z h2).t, _, _, rfl, ?_⟩
    have D1 := D.new (o := .lst []) np
    have M1 : Mv d g H (upd H p (.lst [])) := Mv.of s1
    have hp1 : upd H p (.lst []) p = some (.lst []) := upd_same
    generalize upd H p (.lst []) = H1 at *
    have fin : ∀ (Hx : Hp) (us : List V) (prs : Prs) (i : Nat), i ≤ 2 → Hx p = some (.lst us) → PrsAt Hx us prs → prs.length = i → (∀ q ∈ prs, q.1 ∈ ns ∧ q.2 ∈ ns) → Dk ks Hx d g (b + 10 - 3 * i) → Mv d g H Hx → kTup K (.ref p) Hx Q := by
      intro Hx us prs i i2 hp hP pl hn Dx Mx
      refine .inl ⟨p, _, rfl, tofL hp, fun t nt => ?_⟩
      have sn := Same.new (o := .tup us) nt
      exact q t us prs _ ((Dx.mono (by omega)).same sn) (Mx.trans (Mv.of sn)) upd_same (hP.to (tups_same sn)) (by omega) hn
    refine ⟨_, rfl, _, _, rfl, rfl, _, rfl, ite2 (fun e => ?_) (fun e => ?_)⟩
    · have n2' : 2 ≤ ns.length := by
        have := of_decide_eq_true e
        rw [List.length_map] at this
        omega
      refine ⟨_, rfl, (m : Int), rfl, by omega, by omega, ?_⟩
      rw [Int.toNat_natCast]
      refine for_range (fun i σ Hx => ∃ (us : List V) (prs : Prs) (v5 v6 v7 : Option V), σ = [some (.ref d), some (.ref a), some (.int (m : Int)), some (.ref p), some (.int ((ns.map V.str).length : Nat)), v5, v6, v7] ∧ Hx p = some (.lst us) ∧ PrsAt Hx us prs ∧ prs.length = i ∧ (∀ q ∈ prs, q.1 ∈ ns ∧ q.2 ∈ ns) ∧ Dk ks Hx d g (b + 10 - 3 * i) ∧ Mv d g H Hx)
        ⟨[], [], none, none, none, rfl, hp1, .nil, rfl, fun q h => (by cases h), D1, M1⟩ ?_ ?_
      · rintro i σ Hx hi ⟨us, prs, v5, v6, v7, rfl, hp, hP, pl, hn, Dx, Mx⟩
        obtain ⟨B, eB⟩ : ∃ B, B = b + 10 - 3 * (i + 1) := ⟨_, rfl⟩
        have Dx : Dk ks Hx d g (B + 3) := Dx.mono (by omega)
        refine ⟨_, rfl, _, rfl, d, g, _, _, rfl, Dx, by rw [List.length_map]; omega, bigN (by omega) (by rw [List.length_map]; omega), fun r Hy r0 r1 Dy My => ?_⟩
        refine ⟨_, rfl, _, _, rfl, rfl, _, rfl, _, rfl, _, _, rfl, rfl, d, g, _, _, rfl, Dy, by rw [List.length_map]; omega, bigN (by rw [List.length_map]; omega) (by rw [List.length_map]; omega), fun r2 Hz r20 r21 Dz Mz => ?_⟩
        refine ⟨_, _, rfl, rfl, _, rfl, _, _, rfl, rfl, (show (0 : Int) < ((ns.map V.str).length : Nat) by rw [List.length_map]; omega), ?_⟩
        rw [List.length_map] at r1 r21
        obtain ⟨jj, ejj, jl⟩ : ∃ jj : Nat, (r + 1 + r2) % (((ns.map V.str).length : Nat) : Int) = (jj : Int) ∧ jj < ns.length := by
          have j0 := Int.emod_nonneg (r + 1 + r2) (show ((((ns.map V.str).length : Nat)) : Int) ≠ 0 by rw [List.length_map]; omega)
          have j1 := Int.emod_lt_of_pos (r + 1 + r2) (show (0 : Int) < (((ns.map V.str).length : Nat) : Int) by rw [List.length_map]; omega)
          refine ⟨((r + 1 + r2) % (((ns.map V.str).length : Nat) : Int)).toNat, (Int.toNat_of_nonneg j0).symm, ?_⟩
          rw [List.length_map] at j1 ⊢
          rw [List.length_map] at j0
          omega
        obtain ⟨k, rfl⟩ : ∃ k : Nat, r = (k : Int) := ⟨r.toNat, by omega⟩
        have Mxz : Mv d g Hx Hz := My.trans Mz
        have hpz := Mxz.at hp offp
        have hwz := (hw.mv D Mx).mv Dx Mxz
        obtain ⟨tn', Ma', Li', xs', ys', g1, g2, _⟩ := hwz.ex
        have ek : (ns.map V.str)[k]? = some (.str (ns[k]'(by omega))) := by rw [List.getElem?_map, List.getElem?_eq_getElem (by omega)]; rfl
        have ej : (ns.map V.str)[jj]? = some (.str (ns[jj]'jl)) := by rw [List.getElem?_map, List.getElem?_eq_getElem jl]; rfl
        refine ⟨_, rfl, ty_l (tofL hpz), _, rfl, a, _, rfl, w_c g1, _, rfl, tn', _, _, _, rfl, rfl, g2.t, atI_nat ek, ?_⟩
        refine ⟨_, rfl, a, _, rfl, w_c g1, _, rfl, tn', _, _, _, rfl, rfl, g2.t, at_of ejj ej, (show 2 ≤ sizeLine from small (by decide)), fun t nt => ?_⟩
        have npt : p ≠ t := ne_of_none hpz nt
        have sn := Same.new (o := .tup [.str (ns[k]'(by omega)), .str (ns[jj]'jl)]) nt
        have plen := hP.len
        refine ⟨p, _, _, rfl, rfl, sn _ _ hpz, smallt (by omega), us ++ [.ref t], prs ++ [(ns[k]'(by omega), ns[jj]'jl)], _, _, _, rfl, upd_same, ?_, by rw [List.length_append, pl]; rfl, fun q hq => ?_, ((Dz.mono (by omega)).same sn).mut offp, ((Mx.trans Mxz).trans (Mv.of sn)).mut np⟩
        · have kt : ∀ (o o2 : HO) c vs, (∃ l, o2 = .lst l) → Hz c = some (.tup vs) → upd (upd Hz t o) p o2 c = some (.tup vs) := fun o o2 c vs _ hb => by
            rw [upd_ne (fun e => by rw [e, hpz] at hb; cases hb), upd_ne (ne_of_none hb nt)]
            exact hb
          exact ((hP.to (Kp.mv Dx Mxz).tups).to fun c vs h => kt _ _ c vs ⟨_, rfl⟩ h).snoc (by rw [upd_ne npt.symm]; exact upd_same)
        · rcases List.mem_append.mp hq with hq | hq
          · exact hn q hq
          · rw [List.mem_singleton.mp hq]
            exact ⟨List.getElem_mem _, List.getElem_mem _⟩
      · rintro σ Hx ⟨us, prs, v5, v6, v7, rfl, hp, hP, pl, hn, Dx, Mx⟩
        exact ⟨_, rfl, fin Hx us prs m m2 hp hP pl hn Dx Mx⟩
    · refine ⟨0, rfl, by decide, by decide, for_range (fun i σ Hx => Hx = H1 ∧ σ = [some (.ref d), some (.ref a), some (.int (m : Int)), some (.ref p), some (.int ((ns.map V.str).length : Nat)), none, none, none]) ⟨rfl, rfl⟩ (fun i σ Hx hi => absurd hi (Nat.not_lt_zero i)) ?_⟩
      rintro σ Hx ⟨rfl, rfl⟩
      exact ⟨_, rfl, fin Hx [] [] 0 (by decide) hp1 .nil rfl (fun q h => (by cases h)) D1 M1⟩
end
end NK29
namespace NK29
open PySem PySem.Spec PyProof.Rows L2 GL RZ G3
theorem canLayAll_of : ∀ ds : List PyData, (∀ d ∈ ds, d.canLay0 = true) → PyData.canLayAll0 ds = true
  | [], _ => rfl
  | d :: r, h => by
    show (PyData.canLay0 d && PyData.canLayAll0 r) = true
    rw [h d List.mem_cons_self, canLayAll_of r fun x hx => h x (List.mem_cons_of_mem _ hx)]; rfl
def mvD (mv : List Int) : PyData := .tuple (mv.map PyData.int)
theorem shaped_mvs (ms : List (List Int)) : SeqAt.shaped (.list (ms.map mvD)) = true := by
  unfold SeqAt.shaped
  have h1 : PyData.canLayAll0 (ms.map mvD) = true := canLayAll_of _ fun d hd => by
    obtain ⟨mv, _, rfl⟩ := List.mem_map.mp hd
    exact lay_ints mv
  have h2 : PyData.depthAll (ms.map mvD) ≤ 1 := depthAll_of _ fun d hd => by
    obtain ⟨mv, _, rfl⟩ := List.mem_map.mp hd
    show PyData.depthAll (mv.map PyData.int) + 1 ≤ 1
    rw [depth_ints]; exact Nat.le_refl _
  rw [show PyData.canLay0 (.list (ms.map mvD)) = PyData.canLayAll0 (ms.map mvD) from rfl, h1, show PyData.depth (.list (ms.map mvD)) = PyData.depthAll (ms.map mvD) + 1 from rfl]
  rw [Bool.true_and]
  exact decide_eq_true (by omega)
theorem MvAt.dp {K : PySem.W.Frag} {H : Hp} : ∀ {xs : List V} {ms : List (List Int)}, MvAt H xs ms → DpAll K H xs (ms.map mvD)
  | _, _, .nil => .nil
  | _, _, .cons a t => .cons (.tup (tofT a) (dpa_ints _)) t.dp
section
variable {P : Program} {w : World} {K : PySem.W.Frag} {mg : Str → Option Value} {base : Heap}
abbrev s_are_parted : Stmt := topS 82
theorem sc_are_parted : FnScope ["_law_w", "_law_lots", "_law_apart_here", "_law_a", "_law_b", "_law_x", "_law_y", "_law_lot"] ["_law_w", "_law_lots", "_law_apart_here"] (defScope s_are_parted) := ⟨rfl, rfl, rfl, by decide +kernel, rfl, by decide +kernel, by decide +kernel⟩
theorem ok_are_parted {f : Addr} {fd : FuncData} (F : Fun K "_law_are_parted" "_law_are_parted" s_are_parted f fd) (gl : mg "_law_are_parted" = some (.ref f)) (T : Bl mg) : DefG P w K mg base 1 "_law_are_parted" ["_law_w", "_law_lots", "_law_apart_here"] (spParted K) := by
  refine def_mk F gl (F.binds fun _ _ _ _ _ _ us hl => match us, hl with | [_, _, _], _ => rfl) (okG F sc_are_parted (fun vs H Q E h => ?_) fun cdv A outer s H vs Q E hr hc h => ?_)
  · obtain ⟨d, g, a, tm, u, xs, us, ns, rows, marks, mvs, prs, rfl, _⟩ := h
    rfl
  · obtain ⟨d, g, a, tm, u, xs, us, ns, rows, marks, mvs, prs, rfl, hw, hm, hv, hl, m1, hu', hp, p1, hn, q⟩ := h
    have nd := sc_are_parted.nd
    have hu := hu_of hr
    have hu64 := hr.units
    refine ⟨_, (pss_cons (ps_for PassesOwn.never rfl (pi_tup (pv 2)) (pg_tup rfl (pgs_cons (pg_name (i := 3) nd rfl (by first | exact Or.inl rfl | exact Or.inr rfl)) (pgs_cons (pg_name (i := 4) nd rfl (by first | exact Or.inl rfl | exact Or.inr rfl)) pgs_nil)))
        (pss_cons (ps_asg (pe_tup (pa_cons (pe_bmZ PySem.F.slot_tuple_index PySem.F.type_tuple_index mt_tup_index (pe_dget hu (pv 0) pe_str (fun _ _ => rfl)) (pa_cons (pv 3) pa_nil)) (pa_cons (pe_bmZ PySem.F.slot_tuple_index PySem.F.type_tuple_index mt_tup_index (pe_dget hu (pv 0) pe_str (fun _ _ => rfl)) (pa_cons (pv 4) pa_nil)) pa_nil))) (pg_tup rfl (pgs_cons (pg_name (i := 5) nd rfl (by first | exact Or.inl rfl | exact Or.inr rfl)) (pgs_cons (pg_name (i := 6) nd rfl (by first | exact Or.inl rfl | exact Or.inr rfl)) pgs_nil))))
        (pss_one (ps_if (pt_cmpR (op_eqD hu64) (pe_lc (own := [("_law_lot", 7)]) (g := (gName 7)) rfl nd (pi_tup (pv 1)) (blkOk_by (own := [("_law_lot", 7)]) (N := ["_law_w", "_law_lots", "_law_apart_here", "_law_a", "_law_b", "_law_x", "_law_y", "_law_lot"]) (sc := defScope s_are_parted) (by decide +kernel)) (fun _ _ _ _ _ => (pg_name (i := 7) nd rfl (by first | exact Or.inl rfl | exact Or.inr rfl))) (fun _ _ _ _ _ => (pts_one (pt_cmpR op_ne (pe_ix (G3.ix_tupK (K := K)) (pv 7) (pv 5) (fun _ _ => rfl)) (pe_ix (G3.ix_tupK (K := K)) (pv 7) (pv 6) (fun _ _ => rfl)) (nomark _)))) (fun _ _ _ _ _ => (pv 7))) (pe_lst pa_nil) (nomark _))
          (pss_one (ps_ret pe_bl))
          pss_nil))))
      (pss_one (ps_ret pe_bl))), ?_⟩
    obtain ⟨tn, Ma, Li, xs', ys', h1, h2, _⟩ := id hw.ex
    refine ⟨_, rfl, u, rfl, ⟨_, tofT hu'⟩, for_tup (K := K) (a := u) (xs := us) (fun i σ Hx => Same H Hx ∧ (prs.take i).all (fun p => mvs.any (dif ns p.1 p.2)) = true ∧ ∃ v3 v4 v5 v6, σ = [some (.ref a), some (.ref tm), some (.ref u), v3, v4, v5, v6, none]) ⟨Same.refl H, rfl, none, none, none, none, rfl⟩ (fun i σ Hx _ h => tofT (h.1 _ _ hu')) ?_ ?_⟩
    · rintro i y σ Hx hi ⟨sx, al, v3, v4, v5, v6, rfl⟩
      obtain ⟨p, z1, z2, rfl, hp2, hpi⟩ := (hp.to (tups_same sx)).get hi
      have pm := hn _ (List.mem_of_getElem? hpi)
      obtain ⟨x1, x2⟩ := idx_factsS z1 ns pm.1
      obtain ⟨y1, y2⟩ := idx_factsS z2 ns pm.2
      have xl := (List.getElem?_eq_some_iff.mp x1).1
      have yl := (List.getElem?_eq_some_iff.mp y1).1
      refine ⟨p, _, rfl, tofT hp2, rfl, _, _, rfl, _, _, rfl, rfl, ?_⟩
      have z2' := (Kp.of sx).z h2
      refine ⟨_, rfl, a, _, rfl, w_c (sx _ _ h1), ⟨tn, _, rfl, z2'⟩, _, rfl, tn, ns, z1, _, rfl, rfl, z2'.t, x1, x2, ?_⟩
      refine ⟨_, rfl, a, _, rfl, w_c (sx _ _ h1), ⟨tn, _, rfl, z2'⟩, _, rfl, tn, ns, z2, _, rfl, rfl, z2'.t, y1, y2, ?_⟩
      refine ⟨(show 2 ≤ sizeLine from small (by decide)), fun t nt => ⟨t, _, rfl, tofT upd_same, rfl, _, _, rfl, _, _, rfl, rfl, ?_⟩⟩
      have s1 : Same H (upd Hx t (.tup [.int ((ns.idxOf z1 : Nat) : Int), .int ((ns.idxOf z2 : Nat) : Int)])) := sx.trans (Same.new nt)
      generalize upd Hx t (.tup [.int ((ns.idxOf z1 : Nat) : Int), .int ((ns.idxOf z2 : Nat) : Int)]) = H1 at *
      have hm1 := s1 _ _ hm
      refine ⟨_, rfl, tm, rfl, ⟨_, tofT hm1⟩, fun D nD => ?_⟩
      refine lc_tup (K := K) (a := tm) (xs := xs) (fun j Hy => Same H1 Hy ∧ ∃ zs, Hy D = some (.lst zs) ∧ MvAt Hy zs ((mvs.take j).filter (dif ns z1 z2))) ⟨Same.new nD, [], upd_same, .nil⟩ (fun j Hy _ h => tofT (h.1 _ _ hm1)) ?_ ?_
      · rintro j y Hy hj ⟨sy, zs, hD, hZ⟩
        obtain ⟨p3, mv, rfl, hp3, hmv⟩ := (hv.to (tups_same (s1.trans sy))).get hj
        have jl := (List.getElem?_eq_some_iff.mp hmv).1
        have lm := hl mv (List.mem_of_getElem? hmv)
        have mx : (mv.map V.int)[ns.idxOf z1]? = some (.int (mv.getD (ns.idxOf z1) 0)) := by
          have h : mv[ns.idxOf z1]? = some (mv[ns.idxOf z1]'(by omega)) := List.getElem?_eq_getElem _
          rw [List.getElem?_map, h, getD_of h]; rfl
        have my : (mv.map V.int)[ns.idxOf z2]? = some (.int (mv.getD (ns.idxOf z2) 0)) := by
          have h : mv[ns.idxOf z2]? = some (mv[ns.idxOf z2]'(by omega)) := List.getElem?_eq_getElem _
          rw [List.getElem?_map, h, getD_of h]; rfl
        have zl : zs.length ≤ 100 := by
          rw [hZ.len]
          exact Nat.le_trans (List.length_filter_le _ _) (by rw [List.length_take]; omega)
        have ed : (!decide (V.int (mv.getD (ns.idxOf z1) 0) = V.int (mv.getD (ns.idxOf z2) 0))) = dif ns z1 z2 mv := by
          unfold dif
          by_cases h : mv.getD (ns.idxOf z1) 0 = mv.getD (ns.idxOf z2) 0
          · rw [decide_eq_true h, decide_eq_true (congrArg V.int h)]
          · rw [decide_eq_false h, decide_eq_false (fun z => h (V.int.inj z))]
        refine ⟨rfl, _, rfl, _, rfl, p3, _, _, _, rfl, rfl, tofT hp3, atI_nat mx, _, rfl, _, rfl, p3, _, _, _, rfl, rfl, tofT hp3, atI_nat my, rfl, _, rfl, ?_⟩
        rw [ed]
        refine ite2 (fun e => ?_) (fun e => ?_)
        · refine ⟨_, rfl, zs, hD, smallt (by omega), ?_, zs ++ [.ref p3], upd_same, ?_⟩
          · intro c u' hc'
            rw [upd_ne (ne_of_none hc' nD)]
            exact sy _ _ hc'
          · have kt : ∀ b us, Hy b = some (.tup us) → upd Hy D (.lst (zs ++ [.ref p3])) b = some (.tup us) := fun b us hb => by
              rw [upd_ne (fun e => by rw [e, hD] at hb; cases hb)]
              exact hb
            rw [List.take_add_one, hmv, List.filter_append, show List.filter (dif ns z1 z2) (some mv).toList = [mv] by simp [e]]
            exact (hZ.to kt).snoc (kt _ _ hp3)
        · refine ⟨sy, zs, hD, ?_⟩
          rw [List.take_add_one, hmv, List.filter_append, show List.filter (dif ns z1 z2) (some mv).toList = [] by simp [e], List.append_nil]
          exact hZ
      rintro Hy ⟨sy, zs, hD, hZ⟩
      rw [hv.len, List.take_length] at hZ
      refine ⟨Nat.zero_le _, fun o no => ?_⟩
      have s2 := Same.new (o := .lst []) no
      refine ⟨.list ((mvs.filter (dif ns z1 z2)).map mvD), .list [], .lst (tofL (s2 _ _ hD)) (hZ.to (tups_same s2)).dp, .lst (tofL upd_same) .nil, shaped_mvs _, shaped_ints [], _, rfl, ?_⟩
      rw [eqv_list_nil]
      have sall := s1.trans (sy.trans s2)
      have ea : ((mvs.filter (dif ns z1 z2)).map mvD).isEmpty = !(mvs.any (dif ns z1 z2)) := by
        rw [List.isEmpty_map]
        by_cases h : mvs.any (dif ns z1 z2) = true
        · rw [h]
          obtain ⟨m, hm', e⟩ := List.any_eq_true.mp h
          have : m ∈ mvs.filter (dif ns z1 z2) := List.mem_filter.mpr ⟨hm', e⟩
          cases hf : mvs.filter (dif ns z1 z2) with
          | nil => rw [hf] at this; cases this
          | cons _ _ => rfl
        · have h' : mvs.any (dif ns z1 z2) = false := by simpa using h
          rw [h']
          have : mvs.filter (dif ns z1 z2) = [] := List.filter_eq_nil_iff.mpr fun m hm' e => h (List.any_eq_true.mpr ⟨m, hm', e⟩)
          rw [this]; rfl
      rw [ea]
      refine ite2 (fun e => ?_) (fun e => ?_)
      · have z : partd ns mvs prs = false := by
          unfold partd
          exact all_bad hpi (by simpa using e)
        have qq := q _ sall
        rw [z] at qq
        exact qq
      · refine ⟨sall, ?_, _, _, _, _, rfl⟩
        rw [all_take hpi, al]
        simpa using e
    · rintro σ Hx ⟨sx, al, v3, v4, v5, v6, rfl⟩
      have qq := q Hx sx
      have e : partd ns mvs prs = true := by
        unfold partd
        rw [hp.len, List.take_length] at al
        exact al
      rw [e] at qq
      exact qq
end
end NK29
namespace L2
open PySem PySem.Spec PyProof.Rows
theorem cr_sumTK {X : Cx} {K : PySem.W.Frag} (hc : X.calm = true) (h : X.K = K := by rfl) : CallR X (.builtin "sum") (rSumT K) := h ▸ cr_sumT hc
end L2
namespace NK29
open PySem PySem.Spec PyProof.Rows L2 GL RZ G3
theorem merge2 {x y : Str} (xy : ¬ x = y) (a b : V) : mergeK [] [((Sum.inr x : Key), a), (Sum.inr y, b)] = [((Sum.inr x : Key), a), (Sum.inr y, b)] := by
  have e1 : putK ([] : List (Key × V)) (Sum.inr x : Key) a = [((Sum.inr x : Key), a)] := rfl
  have e2 : putK [((Sum.inr x : Key), a)] (Sum.inr y : Key) b = [((Sum.inr x : Key), a), ((Sum.inr y : Key), b)] := by
    unfold putK
    simp only [List.any_cons, List.any_nil, decide_eq_false (inr_ne xy), Bool.or_false]
    rfl
  show putK (putK ([] : List (Key × V)) (Sum.inr x : Key) a) (Sum.inr y : Key) b = _
  rw [e1, e2]
theorem put2 {x y z : Str} (xz : ¬ x = z) (yz : ¬ y = z) (a b c : V) : putK [((Sum.inr x : Key), a), ((Sum.inr y : Key), b)] (Sum.inr z : Key) c = [((Sum.inr x : Key), a), (Sum.inr y, b), (Sum.inr z, c)] := by
  unfold putK
  simp only [List.any_cons, List.any_nil, decide_eq_false (inr_ne xz), decide_eq_false (inr_ne yz), Bool.or_false]
  rfl
def w2 (tn Ma : Addr) : List (Key × V) := [(Sum.inr "called", .ref tn), (Sum.inr "marks", .ref Ma)]
theorem w2_m {H : Hp} {p W M : Addr} (h : H p = some (.dK (w2 W M))) : DGet H p (.str "marks") (some (.ref M)) := get_d h (val2 (by decide +kernel))
theorem w2_put {H : Hp} {p W M L : Addr} (h : H p = some (.dK (w2 W M))) : DPut H p (.str "lines") (.ref L) (upd H p (.dK (wD W M L))) :=
  (show putK (w2 W M) (Sum.inr "lines" : Key) (.ref L) = wD W M L from put2 (by decide +kernel) (by decide +kernel) _ _ _) ▸ DPut.k (k := Sum.inr "lines") h (show 2 < sizeLine from smallt (by omega))
theorem dvd_step {marks : List Rst} {i : Nat} {r : Rst} {b : Int} (h : ∀ r ∈ marks.take i, r.2.2 ∣ b) (e : marks[i]? = some r) : ∀ x ∈ marks.take (i + 1), x.2.2 ∣ b * r.2.2 := fun x hx => by
  rw [List.take_add_one, e] at hx
  rcases List.mem_append.mp hx with hx | hx
  · exact Int.dvd_trans (h x hx) (Int.dvd_mul_right _ _)
  · rw [Option.toList_some] at hx
    rw [List.mem_singleton.mp hx]
    exact Int.dvd_mul_left _ _
theorem by_step {b m : Int} {i : Nat} (h1 : 1 ≤ b) (h2 : b ≤ 3 * 12 ^ i) (m2 : 2 ≤ m) (m12 : m ≤ 12) : 1 ≤ b * m ∧ b * m ≤ 3 * 12 ^ (i + 1) := by
  constructor
  · have := Int.mul_le_mul h1 (show (1 : Int) ≤ m by omega) (by omega) (by omega)
    omega
  · have h := Int.mul_le_mul h2 m12 (by omega) (show (0 : Int) ≤ 3 * 12 ^ i by omega)
    rw [Int.pow_succ]
    generalize (12 : Int) ^ i = z at *
    omega
theorem ab40 {x m : Int} (h : (if x < 0 then -x else x) ≤ m) (hm : ¬ m > 40) : -40 ≤ x ∧ x ≤ 40 := by
  by_cases h0 : x < 0
  · rw [if_pos h0] at h; omega
  · rw [if_neg h0] at h; omega
def rowsOf (lots : List (List Int)) (t : Int) : List Row := lots.map fun fs => (fs, fs.sum * t)
theorem rowsOf_fst (lots : List (List Int)) (t : Int) : (rowsOf lots t).map Prod.fst = lots := by
  unfold rowsOf
  rw [List.map_map]
  exact List.map_id' lots
def spWorld (K : PySem.W.Frag) : Sp := fun vs H Q _ => ∃ (d g : Addr) (b : Nat), vs = [.ref d] ∧ Dk ks H d g (b + 300) ∧
  ∀ (tt wA ow : Addr) (t : Int) (ns : List Str) (lots : List (List Int)) (marks : List Rst) (Fa : Int) (wh : List Nat) (mvs : List (List Int)) (H' : Hp), Dk ks H' d g b → Mv d g H H' → H' tt = some (.tup [.ref wA, .int t, .ref ow]) → WAt K d g H' wA ns (rowsOf lots t) marks →
    -4 ≤ t → t ≤ 4 → (∀ x ∈ marks, x.2.1 = x.1.sum * t % x.2.2) → FormAt H' ow Fa wh mvs → FOk ns.length lots marks Fa wh mvs → Bd (2 ^ 20) Fa mvs → mvs.length ≤ 6 → Q (.ref tt) H'
section
variable {P : Program} {w : World} {K : PySem.W.Frag} {mg : Str → Option Value} {base : Heap}
abbrev s_sure_world : Stmt := topS 83
theorem sc_sure_world : FnScope ["_law_deck_here", "_law_n", "_law_t", "_law_planted_here", "_law_by", "_law_some", "_law_w", "_law_worth", "_law_due", "_law_more"] ["_law_deck_here"] (defScope s_sure_world) := ⟨rfl, rfl, rfl, by decide +kernel, rfl, by decide +kernel, by decide +kernel⟩
theorem ok_sure_world {f : Addr} {fd : FuncData} (F : Fun K "_law_sure_world" "_law_sure_world" s_sure_world f fd) (gl : mg "_law_sure_world" = some (.ref f)) (T : Bl mg) (D_draw : DefG P w K mg base 1 "_law_draw" ["_law_deck_here", "_law_many"] (spDrw ks))
    (D_called : DefG P w K mg base 2 "_law_called" ["_law_deck_here", "_law_n"] (spCalled K)) (D_marks : DefG P w K mg base 2 "_law_marks" ["_law_deck_here", "_law_n", "_law_t", "_law_many"] spMarks) (D_planted : DefG P w K mg base 2 "_law_planted" ["_law_deck_here", "_law_n", "_law_many"] spPlanted) (D_own_form : DefG P w K mg base 1 "_law_own_form" ["_law_planted_here", "_law_by"] spOwn) : DefG P w K mg base 3 "_law_sure_world" ["_law_deck_here"] (spWorld K) := by
  refine def_mk F gl (F.binds fun _ _ _ _ _ _ us hl => match us, hl with | [_], _ => rfl) (okG F sc_sure_world (fun vs H Q E h => ?_) fun cdv A outer s H vs Q E hr hc h => ?_)
  · obtain ⟨d, g, b, rfl, _⟩ := h
    rfl
  · obtain ⟨d, g, b, rfl, D, q⟩ := h
    have nd := sc_sure_world.nd
    have hu := hu_of hr
    refine ⟨_, (pss_cons (ps_asg (pe_tup (pa_cons (pe_op op_add pe_int (pe_def D_draw (hr.mono (by decide)) hc (by rfl) (pa_cons (pv 0) (pa_cons pe_int pa_nil)))) (pa_cons (pe_op op_sub (pe_def D_draw (hr.mono (by decide)) hc (by rfl) (pa_cons (pv 0) (pa_cons pe_int pa_nil))) pe_int) pa_nil))) (pg_tup rfl (pgs_cons (pg_name (i := 1) nd rfl (by first | exact Or.inl rfl | exact Or.inr rfl)) (pgs_cons (pg_name (i := 2) nd rfl (by first | exact Or.inl rfl | exact Or.inr rfl)) pgs_nil))))
      (pss_cons (ps_par (i := 3) (j := 4) rfl nd rfl rfl (by decide) rfl rfl (pa_cons (pe_def D_planted (hr.mono (by decide)) hc (by rfl) (pa_cons (pv 0) (pa_cons (pv 1) (pa_cons (pe_op op_add pe_int (pe_def D_draw (hr.mono (by decide)) hc (by rfl) (pa_cons (pv 0) (pa_cons pe_int pa_nil)))) pa_nil)))) (pa_cons (pe_op op_add pe_int (pe_def D_draw (hr.mono (by decide)) hc (by rfl) (pa_cons (pv 0) (pa_cons pe_int pa_nil)))) pa_nil)) rfl)
      (C8.pss_cut (ps_if (pt_cmpR op_gt (pe_callB (cr_max rfl) (by rfl) T.max boot_max (pa_cons (pe_lc (own := [("_law_some", 5)]) (g := (gName 5)) (tt := tYes) rfl nd (pi_list (pe_dget hu (pv 3) pe_str (fun _ _ => rfl))) (blkOk_by (own := [("_law_some", 5)]) (N := ["_law_deck_here", "_law_n", "_law_t", "_law_planted_here", "_law_by", "_law_some", "_law_w", "_law_worth", "_law_due", "_law_more"]) (sc := defScope s_sure_world) (by decide +kernel)) (fun _ _ _ _ _ => (pg_name (i := 5) nd rfl (by first | exact Or.inl rfl | exact Or.inr rfl))) (fun _ _ _ _ _ => pts_nil) (fun _ _ _ _ _ => (pe_callB call_abs (by rfl) T.abs boot_abs (pa_cons (pe_op op_mul (pe_callB (cr_sumTK (K := K) rfl) (by rfl) T.sum boot_sum (pa_cons (pv 5) pa_nil)) (pv 2)) pa_nil)))) pa_nil)) pe_int (nomark _))
        (pss_one (ps_set (i := 2) nd rfl (by first | exact Or.inl rfl | exact Or.inr rfl) pe_int))
        pss_nil)
      (pss_cons (ps_set (i := 6) nd rfl (by first | exact Or.inl rfl | exact Or.inr rfl) (pe_disp (pps_cons pe_str (pe_def D_called (hr.mono (by decide)) hc (by rfl) (pa_cons (pv 0) (pa_cons (pv 1) pa_nil))) (pps_cons pe_str (pe_def D_marks (hr.mono (by decide)) hc (by rfl) (pa_cons (pv 0) (pa_cons (pv 1) (pa_cons (pv 2) (pa_cons (pe_def D_draw (hr.mono (by decide)) hc (by rfl) (pa_cons (pv 0) (pa_cons pe_int pa_nil))) pa_nil))))) pps_nil)) rfl rfl (by decide) (by decide)))
      (pss_cons (ps_dput hu (pv 6) pe_str (pe_lc (own := [("_law_some", 5)]) (g := (gName 5)) (tt := tYes) rfl nd (pi_list (pe_dget hu (pv 3) pe_str (fun _ _ => rfl))) (blkOk_by (own := [("_law_some", 5)]) (N := ["_law_deck_here", "_law_n", "_law_t", "_law_planted_here", "_law_by", "_law_some", "_law_w", "_law_worth", "_law_due", "_law_more"]) (sc := defScope s_sure_world) (by decide +kernel)) (fun _ _ _ _ _ => (pg_name (i := 5) nd rfl (by first | exact Or.inl rfl | exact Or.inr rfl))) (fun _ _ _ _ _ => pts_nil) (fun _ _ _ _ _ => (pe_tup (pa_cons (pv 5) (pa_cons (pe_op op_mul (pe_callB (cr_sumTK (K := K) rfl) (by rfl) T.sum boot_sum (pa_cons (pv 5) pa_nil)) (pv 2)) pa_nil))))) rfl)
      (pss_cons (ps_for PassesOwn.never rfl (pi_list (pe_dget hu (pv 6) pe_str (fun _ _ => rfl))) (pg_tup rfl (pgs_cons (pg_name (i := 7) nd rfl (by first | exact Or.inl rfl | exact Or.inr rfl)) (pgs_cons (pg_name (i := 8) nd rfl (by first | exact Or.inl rfl | exact Or.inr rfl)) (pgs_cons (pg_name (i := 9) nd rfl (by first | exact Or.inl rfl | exact Or.inr rfl)) pgs_nil))))
        (pss_one (ps_set (i := 4) nd rfl (by first | exact Or.inl rfl | exact Or.inr rfl) (pe_op op_mul (pv 4) (pv 9)))))
      (pss_one (ps_ret (pe_tup (pa_cons (pv 6) (pa_cons (pv 2) (pa_cons (pe_def D_own_form (hr.mono (by decide)) hc (by rfl) (pa_cons (pv 3) (pa_cons (pv 4) pa_nil))) pa_nil)))))))))))), ?_⟩
    -- how many names, the integer
    refine ⟨_, rfl, d, g, 5, b + 299, rfl, D.mono (by omega), by decide, bigN (by decide) (by decide), fun r H1 r0 r1 D1 M1 => ⟨1, r, rfl, rfl, ?_⟩⟩
    obtain ⟨n, en⟩ : ∃ n : Nat, 1 + r = (n : Int) := ⟨(1 + r).toNat, by omega⟩
    have n1 : 1 ≤ n := by omega
    have n6 : n ≤ 6 := by omega
    refine ⟨_, rfl, d, g, 9, b + 298, rfl, D1, by decide, bigN (by decide) (by decide), fun rt H2 rt0 rt1 D2 M2 => ⟨rt, 4, rfl, rfl, (show 2 ≤ sizeLine from small (by decide)), fun q0 nq0 => ?_⟩⟩
    refine ⟨q0, _, rfl, tofT upd_same, rfl, _, _, rfl, _, _, rfl, rfl, ?_⟩
    have D3 : Dk ks (upd H2 q0 (.tup [.int (1 + r), .int (rt - 4)])) d g (b + 298) := D2.new nq0
    have M3 : Mv d g H (upd H2 q0 (.tup [.int (1 + r), .int (rt - 4)])) := (M1.trans M2).trans (Mv.of (Same.new nq0))
    generalize upd H2 q0 (.tup [.int (1 + r), .int (rt - 4)]) = H3 at *
    -- the classes
    refine ⟨_, rfl, _, rfl, _, rfl, d, g, 3, b + 297, rfl, D3, by decide, bigN (by decide) (by decide), fun rm H6 rm0 rm1 D6 M6 => ⟨1, rm, rfl, rfl, ?_⟩⟩
    obtain ⟨m, em⟩ : ∃ m : Nat, 1 + rm = (m : Int) := ⟨(1 + rm).toNat, by omega⟩
    refine ⟨d, g, n, m, b + 90, (by rw [← en, ← em]; rfl), D6.mono (by omega), n1, n6, by omega, fun pl W M Lo xs2 ys2 wh mixes lots H7 D7 M7 hpl npd nW nM nLo hW hM hX hLo hY ll plan => ?_⟩
    refine ⟨_, rfl, d, g, 3, b + 89, rfl, D7, by decide, bigN (by decide) (by decide), fun rb H8 rb0 rb1 D8 M8 => ⟨1, rb, rfl, rfl, _, _, rfl, ?_⟩⟩
    have k78 : Kp H7 H8 := Kp.mv D7 M8
    have ple : pl ≠ g := by
      obtain ⟨m', n', L, e1, e2, _⟩ := D7.ex
      exact ne_of hpl e2 (fun z => nomatch z)
    have hpl8 : H8 pl = _ := M8.at hpl ⟨npd, ple⟩
    have hW8 : H8 W = _ := M8.at hW ⟨lst_ne D7 hW, nW⟩
    have hM8 : H8 M = _ := M8.at hM ⟨lst_ne D7 hM, nM⟩
    have hLo8 : H8 Lo = _ := M8.at hLo ⟨lst_ne D7 hLo, nLo⟩
    have hX8 := hX.mv D7 M8 (by simp)
    have hY8 := hY.to k78.tups
    have M08 : Mv d g H H8 := M3.trans (M6.trans (M7.trans M8))
    -- not too great
    refine ⟨fun σ Hx => ∃ t' : Int, σ = [some (.ref d), some (.int (1 + r)), some (.int t'), some (.ref pl), some (.int (1 + rb)), none, none, none, none, none] ∧ Same H8 Hx ∧ -4 ≤ t' ∧ t' ≤ 4 ∧ ∀ fs ∈ lots, -40 ≤ fs.sum * t' ∧ fs.sum * t' ≤ 40, ?_, ?_⟩
    · refine ⟨_, rfl, pl, _, rfl, plan_L hpl8, Lo, rfl, ⟨_, tofL hLo8⟩, fun Dn nDn => ?_⟩
      refine lc_list (K := K) (a := Lo) (xs := ys2) (fun i Hv => Same H8 Hv ∧ Hv Dn = some (.lst (((lots.take i).map fun fs => if fs.sum * (rt - 4) < 0 then -(fs.sum * (rt - 4)) else fs.sum * (rt - 4)).map V.int))) ⟨Same.new nDn, upd_same⟩ (fun i Hv _ h => tofL (h.1 _ _ hLo8)) ?_ ?_
      · rintro i y Hv hi ⟨sv, hD⟩
        obtain ⟨q1, fs, rfl, hq1, hfs⟩ := (hY8.to (tups_same sv)).get hi
        have il := (List.getElem?_eq_some_iff.mp hfs).1
        refine ⟨rfl, _, rfl, q1, fs, rfl, tofT hq1, _, rfl, _, _, rfl, rfl, .inr ⟨by omega, by omega⟩, _, rfl, _, hD, ?_, ?_, ?_⟩
        · rw [List.length_map, List.length_map, List.length_take]; exact smallt (by omega)
        · intro c u hc'
          rw [upd_ne (ne_of_none hc' nDn)]
          exact sv _ _ hc'
        · rw [upd_same, List.take_add_one, hfs, List.map_append, List.map_append]; rfl
      rintro Hv ⟨sv, hD⟩
      rw [hY8.len, List.take_length] at hD
      refine ⟨Dn, _, rfl, tofL hD, by rw [List.length_map]; omega, fun mx hmx hle => ⟨_, _, rfl, rfl, _, rfl, ite2 (fun e => ?_) (fun e => ?_)⟩⟩
      · exact ⟨0, rfl, sv, by decide, by decide, fun fs _ => by rw [Int.mul_zero]; exact ⟨by decide, by decide⟩⟩
      · exact ⟨rt - 4, rfl, sv, by omega, by omega, fun fs hfs => ab40 (hle _ (List.mem_map.mpr ⟨fs, hfs, rfl⟩)) (fun z => e (decide_eq_true z))⟩
    rintro σ Hx ⟨t', rfl, sx, t0, t1, tb⟩
    have Dx := D8.same sx
    have Mx : Mv d g H Hx := M08.trans (Mv.of sx)
    have hplx := sx _ _ hpl8
    have hWx := sx _ _ hW8
    have hMx := sx _ _ hM8
    have hLox := sx _ _ hLo8
    have hXx := hX8.same sx
    have hYx := hY8.to (tups_same sx)
    intro p np
    have offp := Dx.off np
    refine ⟨_, rfl, _, rfl, d, g, n, b + 70, (by rw [← en]; rfl), (Dx.new np).mono (by omega), n6, fun tn ns Ha Da Ma' htn hns => ?_⟩
    refine ⟨_, rfl, _, rfl, _, rfl, _, rfl, d, g, 3, b + 69, rfl, Da.mono (by omega), by decide, bigN (by decide) (by decide), fun r4 Hb r40 r41 Db Mb => ?_⟩
    refine ⟨d, g, n, r4.toNat, b + 20, t', (by rw [← en, Int.toNat_of_nonneg r40]; rfl), by omega, by omega, Db.mono (by omega), n6, by omega, fun Ma xs marks Hc Dc Mc nMa hMa hR ml fm tm => ?_⟩
    have hp1 : upd Hx p (.dK []) p = some (.dK []) := upd_same
    have Mxa : Mv d g Hx Hc := (Mv.of (Same.new np)).trans (Ma'.trans (Mb.trans Mc))
    have hp4 := Mc.at (Mb.at (Ma'.at hp1 offp) offp) offp
    have offMa := Db.off nMa
    refine ⟨hp4, w2 tn Ma, rfl, (show 2 ≤ 15 by decide), ?_⟩
    rw [show mergeK [] (w2 tn Ma) = w2 tn Ma from merge2 (by decide +kernel) _ _]
    have npM : Ma ≠ p := ne_of hMa hp4 (fun z => nomatch z)
    have hp5 : upd Hc p (.dK (w2 tn Ma)) p = some (.dK (w2 tn Ma)) := upd_same
    have hMa5 : upd Hc p (.dK (w2 tn Ma)) Ma = some (.lst xs) := by rw [upd_ne npM]; exact hMa
    have kp5 : Kp Hc (upd Hc p (.dK (w2 tn Ma))) := fun c o hb _ n2 => by
      rw [upd_ne (fun e => by rw [e, hp4] at hb; exact n2 _ (Option.some.inj hb).symm)]; exact hb
    have D5 : Dk ks (upd Hc p (.dK (w2 tn Ma))) d g (b + 20) := Dc.mut offp
    have npH : H p = none := Mv.free3 Mx Dx np
    have M05 : Mv d g H (upd Hc p (.dK (w2 tn Ma))) := (Mx.trans Mxa).mut npH
    have Mx5 : Mv d g Hx (upd Hc p (.dK (w2 tn Ma))) := Mxa.mut np
    have hR5 := hR.to kp5.tups
    have htn5 : SqZ K (upd Hc p (.dK (w2 tn Ma))) tn (ns.map V.str) := kp5.z (((Kp.mv Da Mb).trans (Kp.mv Db Mc)).z htn)
    generalize upd Hc p (.dK (w2 tn Ma)) = H5 at *
    have hpl5 := Mx5.at hplx ⟨npd, ple⟩
    have hW5 := Mx5.at hWx ⟨lst_ne Dx hWx, nW⟩
    have hM5 := Mx5.at hMx ⟨lst_ne Dx hMx, nM⟩
    have hLo5 := Mx5.at hLox ⟨lst_ne Dx hLox, nLo⟩
    have hX5 := hXx.mv Dx Mx5 (by simp)
    have hY5 := hYx.to (Kp.mv Dx Mx5).tups
    -- the rows
    refine ⟨_, rfl, pl, _, rfl, plan_L hpl5, Lo, rfl, ⟨_, tofL hLo5⟩, fun L nL => ?_⟩
    have offL := D5.off nL
    refine lc_list (K := K) (a := Lo) (xs := ys2) (fun i Hy => Same H5 Hy ∧ ∃ zs, Hy L = some (.lst zs) ∧ RowsAt Hy zs (rowsOf (lots.take i) t')) ⟨Same.new nL, [], upd_same, .nil⟩ (fun i Hy _ h => tofL (h.1 _ _ hLo5)) ?_ ?_
    · rintro i y Hy hi ⟨sy, zs, hL, hZ⟩
      obtain ⟨q1, fs, rfl, hq1, hfs⟩ := (hY5.to (tups_same sy)).get hi
      have il := (List.getElem?_eq_some_iff.mp hfs).1
      have zl := hZ.len
      unfold rowsOf at zl
      rw [List.length_map, List.length_take] at zl
      refine ⟨rfl, _, rfl, _, rfl, q1, fs, rfl, tofT hq1, _, rfl, _, _, rfl, rfl, .inr ⟨by omega, by omega⟩, (show 2 ≤ sizeLine from small (by decide)), fun t nt => ?_⟩
      have nLt : L ≠ t := ne_of_none hL nt
      have sn := Same.new (o := .tup [.ref q1, .int (fs.sum * t')]) nt
      refine ⟨zs, sn _ _ hL, smallt (by omega), ?_, zs ++ [.ref t], upd_same, ?_⟩
      · intro c u hc'
        rw [upd_ne (ne_of_none hc' nL)]
        exact sn _ _ (sy _ _ hc')
      · have kt : ∀ (o o2 : HO) c us, (∃ l, o2 = .lst l) → Hy c = some (.tup us) → upd (upd Hy t o) L o2 c = some (.tup us) := fun o o2 c us _ hb => by
          rw [upd_ne (fun e => by rw [e, hL] at hb; cases hb), upd_ne (ne_of_none hb nt)]
          exact hb
        have er : rowsOf (lots.take (i + 1)) t' = rowsOf (lots.take i) t' ++ [(fs, fs.sum * t')] := by
          unfold rowsOf
          rw [List.take_add_one, hfs, List.map_append]; rfl
        rw [er]
        exact (hZ.to fun c us h => kt _ _ c us ⟨_, rfl⟩ h).snoc (by rw [upd_ne nLt.symm]; exact upd_same) (kt _ _ _ _ ⟨_, rfl⟩ hq1)
    rintro Hy ⟨sy, zs, hL, hZ⟩
    rw [hY5.len, List.take_length] at hZ
    have hpy := sy _ _ hp5
    refine ⟨_, rfl, p, _, rfl, w2_put hpy, ?_⟩
    have kpy : Kp Hy (upd Hy p (.dK (wD tn Ma L))) := fun c o hb _ n2 => by
      rw [upd_ne (fun e => by rw [e, hpy] at hb; exact n2 _ (Option.some.inj hb).symm)]; exact hb
    have nll : ∀ a us, Hy a = some (.lst us) → upd Hy p (.dK (wD tn Ma L)) a = some (.lst us) := fun a us h => by
      rw [upd_ne (fun e => by rw [e, hpy] at h; cases h)]; exact h
    have npp : pl ≠ p := by
      intro e
      rw [e, hp5] at hpl5
      have e2 : w2 tn Ma = planD W M Lo := by injection (Option.some.inj hpl5)
      cases e2
    have Mz : Mv d g H (upd Hy p (.dK (wD tn Ma L))) := (M05.trans (Mv.of sy)).mut npH
    have Dz : Dk ks (upd Hy p (.dK (wD tn Ma L))) d g (b + 20) := (D5.same sy).mut offp
    have fr : FineR ns.length (rowsOf lots t') := fun x hx => by
      unfold rowsOf at hx
      obtain ⟨fs, h, rfl⟩ := List.mem_map.mp hx
      have := tb fs h
      rw [hns]
      exact ⟨plan.fine fs h, (show -41 ≤ fs.sum * t' by omega), (show fs.sum * t' ≤ 41 by omega)⟩
    have wat : WAt K d g (upd Hy p (.dK (wD tn Ma L))) p ns (rowsOf lots t') marks := ⟨⟨tn, Ma, L, xs, zs, upd_same, kpy.z ((Kp.of sy).z htn5), nll _ _ (sy _ _ hMa5), (hR5.to (tups_same sy)).to kpy.tups, nll _ _ hL, hZ.to kpy.tups, offp.1, offMa.2, offL.2⟩, by omega, by rw [hns]; exact fm, fr, by unfold rowsOf; rw [List.length_map]; omega, by omega, by omega⟩
    have hplz : upd Hy p (.dK (wD tn Ma L)) pl = some (.dK (planD W M Lo)) := by rw [upd_ne npp]; exact sy _ _ hpl5
    have hWz := nll _ _ (sy _ _ hW5)
    have hMz := nll _ _ (sy _ _ hM5)
    have hXz : LsAt [] (upd Hy p (.dK (wD tn Ma L))) xs2 mixes := ((hX5.same sy).weak (by simp)).to fun a us h _ => nll a us h
    have hpz : upd Hy p (.dK (wD tn Ma L)) p = some (.dK (wD tn Ma L)) := upd_same
    have hMaz := nll _ _ (sy _ _ hMa5)
    have hRz := (hR5.to (tups_same sy)).to kpy.tups
    generalize upd Hy p (.dK (wD tn Ma L)) = Hz at *
    -- the factor
    refine ⟨_, rfl, p, _, rfl, w_m hpz, Ma, rfl, ⟨_, tofL hMaz⟩, ?_⟩
    have xl := hRz.len
    refine for_list (K := K) (a := Ma) (xs := xs) (fun i σ Hv => ∃ (by_ : Int) (v7 v8 v9 : Option V), σ = [some (.ref d), some (.int (1 + r)), some (.int t'), some (.ref pl), some (.int by_), none, some (.ref p), v7, v8, v9] ∧ Hv = Hz ∧ 1 ≤ by_ ∧ by_ ≤ 3 * 12 ^ i ∧ ∀ x ∈ marks.take i, x.2.2 ∣ by_)
      ⟨1 + rb, none, none, none, rfl, rfl, by omega, by omega, fun x h => (by cases h)⟩ (fun i σ Hv _ ⟨_, _, _, _, _, e, _⟩ => by rw [e]; exact tofL hMaz) ?_ ?_
    · rintro i y σ Hv hi ⟨by_, v7, v8, v9, rfl, rfl, b1, bB, dv⟩
      obtain ⟨k1, k2, fs, c, m2, rfl, hk1, hk2, hr2⟩ := hRz.get hi
      have fr : Fine n fs ∧ (-41 ≤ c ∧ c ≤ 41) ∧ 2 ≤ m2 ∧ m2 ≤ 12 := fm _ (List.mem_of_getElem? hr2)
      obtain ⟨g1, g2⟩ := by_step b1 bB fr.2.2.1 fr.2.2.2
      refine ⟨k1, _, rfl, tofT hk1, rfl, _, _, rfl, _, _, rfl, _, _, rfl, rfl, ?_⟩
      exact ⟨_, rfl, _, rfl, _, _, rfl, rfl, mul_smallR (by have := fr.2.2.1; omega) (by have := fr.2.2.2; omega), by_ * m2, _, _, _, rfl, rfl, g1, g2, dvd_step dv hr2⟩
    rintro σ Hv ⟨by_, v7, v8, v9, rfl, rfl, b1, bB, dv⟩
    rw [xl, List.take_length] at dv
    have bB2 : by_ ≤ 3 * 12 ^ 3 := Int.le_trans bB (by
      have : xs.length ≤ 3 := by omega
      rcases (show xs.length = 0 ∨ xs.length = 1 ∨ xs.length = 2 ∨ xs.length = 3 by omega) with e | e | e | e <;> rw [e] <;> decide)
    refine ⟨_, rfl, _, rfl, _, rfl, _, rfl, pl, W, M, Lo, by_, xs2, wh, mixes, rfl, hplz, hWz, hMz, hXz, plan.ml, by rw [plan.wl]; omega, fun j mx h => (plan.sp j mx h).1, by omega, by omega, fun ow H' s' hF => ⟨(show 3 ≤ sizeLine from small (by decide)), fun t nt => ?_⟩⟩
    have st := Same.new (o := .tup [.ref p, .int t', .ref ow]) nt
    have Ms : Mv d g Hv (upd H' t (.tup [.ref p, .int t', .ref ow])) := Mv.of (s'.trans st)
    have fok := own_fok (lots := lots) (marks := marks) b1 plan.wl plan.sp plan.kw plan.eq dv
    exact q t p ow t' ns lots marks by_ wh _ _ (((Dz.same s').same st).mono (by omega)) (Mz.trans Ms) upd_same (wat.same (s'.trans st)) t0 t1 tm (hF.kp (Kp.of st)) (hns ▸ fok) (own_bd b1 (by omega) plan.bd) (by unfold movesOf; rw [List.length_map, List.length_range]; exact plan.ml)
end
end NK29
namespace NK29
open PySem PySem.Spec PyProof.Rows L2 GL RZ G3
def formD (Fa : Int) (wh : List Nat) (mvs : List (List Int)) : PyData := .tuple [.int Fa, .tuple ((wh.map fun x : Nat => (x : Int)).map PyData.int), .tuple (mvs.map mvD)]
theorem FormAt.dp {K : PySem.W.Frag} {H : Hp} {a : Addr} {Fa : Int} {wh : List Nat} {mvs : List (List Int)} (h : FormAt H a Fa wh mvs) : Dp K H (.ref a) (formD Fa wh mvs) := by
  obtain ⟨tw, tm, xs, h1, h2, h3, h4⟩ := h
  exact .tup (tofT h1) (.cons (.int _) (.cons (.tup (tofT h2) (dpa_ints _)) (.cons (.tup (tofT h3) h4.dp) .nil)))
theorem Nice.i60 {i : Int} (h : i.natAbs ≤ 2 ^ 60) : Nice 62 0 (.int i) := by
  have l : i.natAbs.log2 < 61 := PySem.Flt.log2_lt_of (by decide) (Nat.lt_of_le_of_lt h (by decide))
  refine ⟨decide_eq_true (Nat.lt_trans l (by decide)), rfl, Nat.le_refl _, ?_⟩
  show (PySem.Str.ofString (toString i)).length ≤ 62
  rw [PySem.ofString_length]
  exact PySem.int_text_length_le (k := 61) (by decide) l
theorem nice_form {n : Nat} {lots : List (List Int)} {marks : List Rst} {Fa : Int} {wh : List Nat} {mvs : List (List Int)} (ok : FOk n lots marks Fa wh mvs) (bd : Bd (2 ^ 60) Fa mvs) (n6 : n ≤ 6) (ml : mvs.length ≤ 12) : Nice 14022 3 (formD Fa wh mvs) := by
  have h : ∀ d ∈ [PyData.int Fa, .tuple ((wh.map fun x : Nat => (x : Int)).map PyData.int), .tuple (mvs.map mvD)], Nice 4671 2 d := fun d hd => by
    rcases List.mem_cons.mp hd with rfl | hd
    · exact (Nice.i60 bd.1).mono (by decide) (by decide)
    rcases List.mem_cons.mp hd with rfl | hd
    · refine (Nice.tup (n := 6) (B := 62) (k := 0) (fun x hx => ?_) (by rw [List.length_map, List.length_map, ok.wl]; exact n6)).mono (by decide) (by decide)
      obtain ⟨y, hy, rfl⟩ := List.mem_map.mp hx
      obtain ⟨z, hz, rfl⟩ := List.mem_map.mp hy
      obtain ⟨k, hk⟩ := List.mem_iff_getElem?.mp hz
      obtain ⟨mv, e1, _⟩ := ok.fr k z hk
      have := (List.getElem?_eq_some_iff.mp e1).1
      exact Nice.i60 (by omega)
    · rw [List.mem_singleton.mp hd]
      refine Nice.tup (n := 12) (B := 387) (k := 1) (fun x hx => ?_) (by rw [List.length_map]; exact ml)
      obtain ⟨mv, hm, rfl⟩ := List.mem_map.mp hx
      refine (Nice.tup (n := 6) (B := 62) (k := 0) (fun y hy => ?_) (by rw [List.length_map, ok.ml mv hm]; exact n6)).mono (by decide) (by decide)
      obtain ⟨z, hz, rfl⟩ := List.mem_map.mp hy
      exact Nice.i60 (bd.2 mv hm z hz)
  exact (Nice.tup (n := 3) h (Nat.le_refl _)).mono (by decide) (by decide)
theorem nice_two (a b : Bool) : Nice 17 1 (.list [.bool a, .bool b]) := Nice.lst (n := 2) (B := 5) (k := 0) (fun d hd => by
  rcases List.mem_cons.mp hd with rfl | hd
  · exact Nice.bl a
  · rw [List.mem_singleton.mp hd]; exact Nice.bl b) (Nat.le_refl _)
def thD : Th → PyData
  | .alike k => .tuple [.str "alike", .int k]
  | .form k Fa wh mvs => .tuple [.str "form", .int k, formD Fa wh mvs]
theorem ThAt.dp {K : PySem.W.Frag} {H : Hp} {a : Addr} {th : Th} (h : ThAt H a th) : Dp K H (.ref a) (thD th) := by
  cases th with
  | alike k =>
    have h : H a = some (.tup [.str "alike", .int k]) := h
    exact .tup (tofT h) (.cons (.str _) (.cons (.int _) .nil))
  | form k Fa wh mvs =>
    obtain ⟨f, h1, h2⟩ := h
    exact .tup (tofT h1) (.cons (.str _) (.cons (.int _) (.cons h2.dp .nil)))
theorem nice_word {z : Str} (h1 : z.cps.toList.length ≤ 5) (h2 : ∀ c ∈ z.cps.toList, c < 128) : Nice 14022 3 (.str z) := (Nice.str (n := 5) h1 h2).mono (by decide) (by decide)
theorem nice_th {n : Nat} {lots : List (List Int)} {marks : List Rst} {th : Th} (ok : th.ok n lots marks) (n6 : n ≤ 6) : Nice 42075 4 (thD th) := by
  cases th with
  | alike k =>
    have ok : -2000 ≤ k ∧ k ≤ 2000 := ok
    refine (Nice.tup (ds := [.str "alike", .int k]) (n := 3) (B := 14022) (k := 3) (fun d hd => ?_) (show 2 ≤ 3 by decide)).mono (by decide) (by decide)
    rcases List.mem_cons.mp hd with rfl | hd
    · exact nice_word (by decide +kernel) (by decide +kernel)
    · rw [List.mem_singleton.mp hd]
      exact (Nice.i60 (by omega)).mono (by decide) (by decide)
  | form k Fa wh mvs =>
    obtain ⟨k0, fk, m12, bd⟩ := ok
    refine (Nice.tup (ds := [.str "form", .int k, formD Fa wh mvs]) (n := 3) (B := 14022) (k := 3) (fun d hd => ?_) (show 3 ≤ 3 by decide)).mono (by decide) (by decide)
    rcases List.mem_cons.mp hd with rfl | hd
    · exact nice_word (by decide +kernel) (by decide +kernel)
    rcases List.mem_cons.mp hd with rfl | hd
    · exact (Nice.i60 (by omega)).mono (by decide) (by decide)
    · rw [List.mem_singleton.mp hd]
      exact nice_form fk bd n6 m12
def spTold (K : PySem.W.Frag) (C : Addr) : Sp := fun vs H Q _ => ∃ (a t u du : Addr) (us : List V) (ns : List Str) (rows : List Row) (marks : List Rst) (prs : Prs) (th : Th), vs = [.ref a, .ref t, .ref u, .ref du] ∧ SysN K C H a ns rows marks ∧ 1 ≤ ns.length ∧ ns.length ≤ 6 ∧ rows.length ≤ 100 ∧ marks.length ≤ 100 ∧ FineR ns.length rows ∧ FineS ns.length marks ∧
  ThAt H t th ∧ th.ok ns.length (rows.map Prod.fst) marks ∧ H u = some (.tup us) ∧ PrsAt H us prs ∧ prs.length ≤ 100 ∧ (∀ p ∈ prs, p.1 ∈ ns ∧ p.2 ∈ ns) ∧ H du = some (.lst [.bl (vh ns rows marks prs th), .bl (vh ns rows marks [] th)]) ∧ ∀ H', Same H H' → Q (.bl true) H'
section
variable {P : Program} {w : World} {K : PySem.W.Frag} {mg : Str → Option Value} {base : Heap}
abbrev s_is_told : Stmt := topS 84
theorem sc_is_told : FnScope ["_law_code_here", "_law_it", "_law_apart_here", "_law_due", "_law_kept", "_law_told"] ["_law_code_here", "_law_it", "_law_apart_here", "_law_due"] (defScope s_is_told) := ⟨rfl, rfl, rfl, by decide +kernel, rfl, by decide +kernel, by decide +kernel⟩
theorem ok_is_told {f C E0 : Addr} {fd : FuncData} (F : Fun K "_law_is_told" "_law_is_told" s_is_told f fd) (gl : mg "_law_is_told" = some (.ref f)) (T : Bl mg) (hE : ∀ H, SqT K H E0 []) (N_vh : DefNG P w K mg base 6 "verdict_holds" ["system", "thing", "unlike"] [.ref E0] 2 ["unlike"] (fun vs zs => vs ++ zs) (spVh K C)) : DefG P w K mg base 7 "_law_is_told" ["_law_code_here", "_law_it", "_law_apart_here", "_law_due"] (spTold K C) := by
  refine def_mk F gl (F.binds fun _ _ _ _ _ _ us hl => match us, hl with | [_, _, _, _], _ => rfl) (okG F sc_is_told (fun vs H Q E h => ?_) fun cdv A outer s H vs Q E hr hc h => ?_)
  · obtain ⟨a, t, u, du, us, ns, rows, marks, prs, th, rfl, _⟩ := h
    rfl
  · obtain ⟨a, t, u, du, us, ns, rows, marks, prs, th, rfl, hs, n1, n6, l1, l2, fR, fS, ht, ok, hu, hp, p1, hn, hd, q⟩ := h
    have nd := sc_is_told.nd
    have hu100 : (A.deeper (envOfC "_law_is_told" (defScope s_is_told) s.heap.objs.size f cdv)).units + 100 < cLine := by have := hr.un; omega
    refine ⟨_, (pss_cons (ps_set (i := 4) nd rfl (by first | exact Or.inl rfl | exact Or.inr rfl) (pe_callB (call_reprN hc hu100) (by rfl) T.repr boot_repr (pa_cons (pv 1) pa_nil)))
      (pss_cons (ps_set (i := 5) nd rfl (by first | exact Or.inl rfl | exact Or.inr rfl) (pe_lst (pa_cons (pe_defNK N_vh (hr.mono (by decide)) hc (by rfl) (pa_cons (pv 0) (pa_cons (pv 1) pa_nil)) (pk_cons (pv 2) pk_nil)) (pa_cons (pe_defND N_vh (hr.mono (by decide)) hc (by rfl) (pa_cons (pv 0) (pa_cons (pv 1) pa_nil))) pa_nil))))
      (pss_one (ps_ret (pe_and (pe_cmpR op_eq (pe_callB (call_reprN hc hu100) (by rfl) T.repr boot_repr (pa_cons (pv 5) pa_nil)) (pe_callB (call_reprN hc hu100) (by rfl) T.repr boot_repr (pa_cons (pv 3) pa_nil)) (nomark _)) (pe_one (pe_cmpR op_eq (pe_callB (call_reprN hc hu100) (by rfl) T.repr boot_repr (pa_cons (pv 1) pa_nil)) (pv 4) (nomark _)))))))), ?_⟩
    have nt := nice_th ok n6
    refine ⟨_, rfl, t, thD th, 42075, 4, rfl, ht.dp, nt, by decide, by decide, ?_⟩
    refine ⟨_, rfl, _, rfl, _, rfl, rfl, rfl, a, t, u, us, ns, rows, marks, prs, th, rfl, hs, n1, n6, l1, l2, fR, fS, ht, ok, tofT hu, hp, p1, hn, fun H1 s1 => ?_⟩
    refine ⟨_, rfl, _, rfl, a, t, E0, [], ns, rows, marks, [], th, rfl, hs.kp (Kp.of s1), n1, n6, l1, l2, fR, fS, ht.kp (Kp.of s1), ok, hE _, .nil, (show 0 ≤ 100 by decide), (fun p h => by cases h), fun H2 s2 => ⟨(show 2 ≤ sizeLine from small (by decide)), fun l nl => ?_⟩⟩
    have s3 := Same.new (o := .lst [.bl (vh ns rows marks prs th), .bl (vh ns rows marks [] th)]) nl
    have sall := s1.trans (s2.trans s3)
    refine ⟨_, rfl, l, .list [.bool (vh ns rows marks prs th), .bool (vh ns rows marks [] th)], 17, 1, rfl, .lst (tofL upd_same) (.cons (.bl _) (.cons (.bl _) .nil)), nice_two _ _, by decide, by decide, ?_⟩
    refine ⟨_, rfl, du, .list [.bool (vh ns rows marks prs th), .bool (vh ns rows marks [] th)], 17, 1, rfl, .lst (tofL (sall _ _ hd)) (.cons (.bl _) (.cons (.bl _) .nil)), nice_two _ _, by decide, by decide, rfl, _, rfl, ?_⟩
    rw [if_pos (decide_eq_true rfl)]
    refine ⟨_, rfl, t, thD th, 42075, 4, rfl, (ht.kp (Kp.of sall)).dp, nt, by decide, by decide, _, rfl, rfl, ?_⟩
    rw [decide_eq_true rfl]
    exact q _ sall
end
end NK29
namespace NK29
open PySem PySem.Spec PyProof.Rows L2 GL RZ G3
section
variable {X : Cx} {e : Expr} {t : TE}
/-- an expression, told only by what its answer must be -/
def tCutE (t : TE) : TE := fun σ H Q => ∃ Q' : VK, t σ H Q' ∧ ∀ x H', Q' x H' → Q x H'
theorem pe_cutE (h : PE X e t) : PE X e (tCutE t) := ⟨fun pins s σ H Q I ⟨Q', hw, m⟩ => thn (h.run pins s σ H Q' I hw) fun _ _ ⟨x, H1, I1, r, q⟩ => ⟨x, H1, I1, r, m x H1 q⟩⟩
end
theorem dot_rep (t : Int) : ∀ fs : List Int, dotI fs (List.replicate fs.length t) = fs.sum * t
  | [] => by rw [List.length_nil, List.replicate_zero, dot_nil, List.sum_nil, Int.zero_mul]
  | f :: r => by rw [List.length_cons, List.replicate_succ, dot_cons, dot_rep t r, List.sum_cons, Int.add_mul]
theorem alike_self {n : Nat} {lots : List (List Int)} {marks : List Rst} {t : Int} (fR : FineR n (rowsOf lots t)) (fS : FineS n marks) (hm : ∀ x ∈ marks, x.2.1 = x.1.sum * t % x.2.2) : alikeB n (rowsOf lots t) marks t = true := by
  unfold alikeB dueB
  rw [Bool.and_eq_true]
  constructor
  · rw [List.all_eq_true]
    intro r hr
    obtain ⟨f1, f2⟩ := (fR r hr).1
    obtain ⟨fs, _, rfl⟩ := List.mem_map.mp hr
    have f1 : fs.length = n := f1
    show decide (dotI fs (List.replicate n t) - fs.sum * t = 0) = true
    rw [← f1, dot_rep, Int.sub_self]; rfl
  · rw [List.all_eq_true]
    intro r hr
    obtain ⟨f1, f2⟩ := (fS r hr).1
    have e := hm r hr
    refine decide_eq_true ?_
    rw [e, ← f1, dot_rep]
    exact Int.emod_eq_zero_of_dvd (Int.dvd_self_sub_emod)
def metL (p : Int → Bool) (j : Nat) : List Int := ((List.range j).map fun i : Nat => (-60 : Int) + i).filter p
theorem metL_step (p : Int → Bool) (j : Nat) : metL p (j + 1) = metL p j ++ (if p (-60 + (j : Int)) = true then [-60 + (j : Int)] else []) := by
  unfold metL
  rw [List.range_succ, List.map_append, List.filter_append]
  congr 1
  show List.filter p [-60 + (j : Int)] = _
  rw [List.filter_cons]; rfl
theorem metL_mem {p : Int → Bool} {j : Nat} {k : Int} : k ∈ metL p j ↔ (-60 ≤ k ∧ k < -60 + (j : Int)) ∧ p k = true := by
  unfold metL
  rw [List.mem_filter, List.mem_map]
  constructor
  · rintro ⟨⟨i, hi, rfl⟩, h⟩
    rw [List.mem_range] at hi
    exact ⟨⟨by omega, by omega⟩, h⟩
  · rintro ⟨⟨h1, h2⟩, h⟩
    exact ⟨⟨(k + 60).toNat, List.mem_range.mpr (by omega), by omega⟩, h⟩
theorem metL_len (p : Int → Bool) (j : Nat) : (metL p j).length ≤ j := by
  unfold metL
  refine Nat.le_trans (List.length_filter_le _ _) ?_
  rw [List.length_map, List.length_range]; exact Nat.le_refl _
theorem metL_asc (p : Int → Bool) (j : Nat) : (metL p j).Pairwise (· < ·) := by
  unfold metL
  refine List.Pairwise.filter _ ?_
  rw [List.pairwise_map]
  exact List.pairwise_lt_range.imp fun h => by omega
theorem first_le {s0 t : Int} {r : List Int} (h : (s0 :: r).Pairwise (· < ·)) (m : t ∈ s0 :: r) : s0 ≤ t := by
  rcases List.mem_cons.mp m with rfl | m
  · exact Int.le_refl _
  · exact Int.le_of_lt ((List.pairwise_cons.mp h).1 t m)
theorem cut_end (xs : List V) (v : V) : cutV (xs ++ [v]) (some (-1)) none = [v] := by
  unfold cutV
  have l : (xs ++ [v]).length = xs.length + 1 := by rw [List.length_append]; rfl
  have e1 : HT.sIx (xs ++ [v]).length 0 (some (-1)) = xs.length := by
    rw [l]; unfold HT.sIx
    simp
    try omega
  have e2 : HT.sIx (xs ++ [v]).length (xs ++ [v]).length none = xs.length + 1 := by rw [l]; rfl
  rw [e1, e2, List.drop_left, show xs.length + 1 - xs.length = 1 by omega]
  rfl
def prD (p : Str × Str) : PyData := .tuple [.str p.1, .str p.2]
theorem PrsAt.dp {K : PySem.W.Frag} {H : Hp} : ∀ {xs : List V} {ps : Prs}, PrsAt H xs ps → DpAll K H xs (ps.map prD)
  | _, _, .nil => .nil
  | _, _, .cons a t => .cons (.tup (tofT a) (.cons (.str _) (.cons (.str _) .nil))) t.dp
theorem plain_prs : ∀ ps : Prs, PyData.plain (.tuple (ps.map prD)) = true
  | [] => rfl
  | p :: r => plain_prs r
theorem depth_prs : ∀ ps : Prs, PyData.depthAll (ps.map prD) ≤ 1 := fun ps => depthAll_of _ fun d hd => by
  obtain ⟨mv, _, rfl⟩ := List.mem_map.mp hd
  exact Nat.le_refl 1
/-- ==, of data without dicts, whatever the texts -/
def rEqP (K : PySem.W.Frag) : R2 := fun x y H Q => ∃ d e, Dp K H x d ∧ Dp K H y e ∧ d.plain = true ∧ e.plain = true ∧ d.depth ≤ 60 ∧ Q (.bl (PyData.eqv d e)) H
theorem op_eqP {X : Cx} {K : PySem.W.Frag} (hu : X.A.units + 64 < cLine) (h : X.K = K := by rfl) : OpR X (compareOp .Eq) (rEqP K) := by
  subst h
  intro pins s σ H x y v u Q I rx ry hh
  obtain ⟨d, e, hd, he, sd, se, dp, q⟩ := hh
  obtain ⟨as, r1⟩ := Dp.reads I d x v hd rx
  obtain ⟨bs, r2⟩ := Dp.reads I e y u he ry
  exact SeqAt.eq_plain r1 r2 sd se (by have : min d.depth e.depth ≤ d.depth := Nat.min_le_left _ _; omega) ⟨.bl _, H, I, rfl, q⟩
theorem eqv_prs_nil : ∀ ps : Prs, PyData.eqv (.tuple (ps.map prD)) (.tuple []) = decide (ps = [])
  | [] => rfl
  | p :: r => rfl
theorem rep_of {K : PySem.W.Frag} {H : Hp} {l : Addr} {k : Int} {n : Nat} {Q : VK} (hl : H l = some (.tup [.int k])) (n1 : 1 ≤ n) (n2 : n ≤ 6) (q : ∀ t H', Same H H' → H' t = some (.tup ((List.replicate n k).map V.int)) → Q (.ref t) H') : rRepP K (.ref l) (.int (n : Nat)) H Q := by
  refine ⟨l, _, [.int k], rfl, rfl, tofT hl, (fun z => nomatch z), by omega, by omega, (show 1 ≤ 1000 by decide), fun e1 => ?_, fun e2 p np => ?_⟩
  · have e : n = 1 := by omega
    subst e
    exact q l H (Same.refl H) hl
  · refine q p _ (Same.new np) ?_
    rw [upd_same, Int.toNat_natCast, List.flatten_replicate_singleton, List.map_replicate]
end NK29
namespace NK29
open PySem PySem.Spec PyProof.Rows L2 GL RZ G3
theorem mem_cutV {xs : List V} {lo hi : Option Int} {v : V} (h : v ∈ cutV xs lo hi) : v ∈ xs := List.mem_of_mem_drop (List.mem_of_mem_take h)
theorem vh_form {ns : List Str} {rows : List Row} {marks : List Rst} {prs : Prs} {k Fa : Int} {wh : List Nat} {mvs : List (List Int)} : vh ns rows marks prs (.form k Fa wh mvs) = (alikeB ns.length rows marks k && partd ns mvs prs) := rfl
theorem vh_form0 {ns : List Str} {rows : List Row} {marks : List Rst} {k Fa : Int} {wh : List Nat} {mvs : List (List Int)} : vh ns rows marks [] (.form k Fa wh mvs) = alikeB ns.length rows marks k := Bool.and_true _
def spRight : Sp := fun vs H Q _ => ∃ (d g : Addr) (b : Nat), vs = [.ref d] ∧ Dk ks H d g (b + 500) ∧ ∀ H', Dk ks H' d g b → Q (.bl true) H'
/-- a form that is right, and its verdicts -/
def GoodF (H : Hp) (n : Nat) (lots : List (List Int)) (marks : List Rst) (x : V) : Prop := ∃ (f : Addr) (Fa : Int) (wh : List Nat) (mvs : List (List Int)), x = .ref f ∧ FormAt H f Fa wh mvs ∧ FOk n lots marks Fa wh mvs ∧ Bd (2 ^ 60) Fa mvs ∧ mvs.length ≤ 12
theorem GoodF.kp {H H' : Hp} {n : Nat} {lots : List (List Int)} {marks : List Rst} {x : V} (h : GoodF H n lots marks x) (k : Kp H H') : GoodF H' n lots marks x := by
  obtain ⟨f, Fa, wh, mvs, e, h1, h2⟩ := h
  exact ⟨f, Fa, wh, mvs, e, h1.kp k, h2⟩
section
variable {P : Program} {w : World} {K : PySem.W.Frag} {mg : Str → Option Value} {base : Heap}
abbrev s_right : Stmt := topS 85
theorem sc_right : FnScope ["_law_deck_here", "_law_w", "_law_t", "_law_own", "_law_code_here", "_law_apart_here", "_law_it", "_law_same", "_law_k", "_law_due", "_law_plain"] ["_law_deck_here"] (defScope s_right) := ⟨rfl, rfl, rfl, by decide +kernel, rfl, by decide +kernel, by decide +kernel⟩
theorem ok_right {f C : Addr} {fd : FuncData} (F : Fun K "_law_right" "_law_right" s_right f fd) (gl : mg "_law_right" = some (.ref f)) (T : Bl mg) (D_draw : DefG P w K mg base 1 "_law_draw" ["_law_deck_here", "_law_many"] (spDrw ks))
    (D_sure_world : DefG P w K mg base 3 "_law_sure_world" ["_law_deck_here"] (spWorld K)) (D_code : DefG P w K mg base 3 "_law_code" ["_law_w"] (spCode K C)) (D_apart : DefG P w K mg base 2 "_law_apart" ["_law_deck_here", "_law_w", "_law_many"] (spApart K)) (D_rewritten : DefG P w K mg base 2 "_law_rewritten" ["_law_deck_here", "_law_it"] spRew)
    (D_is_told : DefG P w K mg base 7 "_law_is_told" ["_law_code_here", "_law_it", "_law_apart_here", "_law_due"] (spTold K C)) (D_are_parted : DefG P w K mg base 1 "_law_are_parted" ["_law_w", "_law_lots", "_law_apart_here"] (spParted K)) (D_is_met : DefG P w K mg base 2 "_law_is_met" ["_law_w", "_law_some"] (spMet K)) : DefG P w K mg base 8 "_law_right" ["_law_deck_here"] spRight := by
  refine def_mk F gl (F.binds fun _ _ _ _ _ _ us hl => match us, hl with | [_], _ => rfl) (okG F sc_right (fun vs H Q E h => ?_) fun cdv A outer s H vs Q E hr hc h => ?_)
  · obtain ⟨d, g, b, rfl, _⟩ := h
    rfl
  · obtain ⟨d, g, b, rfl, D, q⟩ := h
    have nd := sc_right.nd
    have hu := hu_of hr
    have hu64 := hr.units
    refine ⟨_, (pss_cons (ps_asg (pe_def D_sure_world (hr.mono (by decide)) hc (by rfl) (pa_cons (pv 0) pa_nil)) (pg_tup rfl (pgs_cons (pg_name (i := 1) nd rfl (by first | exact Or.inl rfl | exact Or.inr rfl)) (pgs_cons (pg_name (i := 2) nd rfl (by first | exact Or.inl rfl | exact Or.inr rfl)) (pgs_cons (pg_name (i := 3) nd rfl (by first | exact Or.inl rfl | exact Or.inr rfl)) pgs_nil)))))
      (pss_cons (ps_par (i := 4) (j := 5) rfl nd rfl rfl (by decide) rfl rfl (pa_cons (pe_def D_code (hr.mono (by decide)) hc (by rfl) (pa_cons (pv 1) pa_nil)) (pa_cons (pe_def D_apart (hr.mono (by decide)) hc (by rfl) (pa_cons (pv 0) (pa_cons (pv 1) (pa_cons (pe_def D_draw (hr.mono (by decide)) hc (by rfl) (pa_cons (pv 0) (pa_cons pe_int pa_nil))) pa_nil)))) pa_nil)) rfl)
      (pss_cons (ps_for PassesOwn.never rfl (pi_tup (pe_tup (pa_cons (pv 3) (pa_cons (pe_def D_rewritten (hr.mono (by decide)) hc (by rfl) (pa_cons (pv 0) (pa_cons (pv 3) pa_nil))) pa_nil)))) (pg_name (i := 6) nd rfl (by first | exact Or.inl rfl | exact Or.inr rfl))
        (pss_one (ps_if (pt_not (pt_val (pe_def D_is_told (hr.mono (by decide)) hc (by rfl) (pa_cons (pv 4) (pa_cons (pe_tup (pa_cons pe_str (pa_cons (pv 2) (pa_cons (pv 6) pa_nil)))) (pa_cons (pv 5) (pa_cons (pe_lst (pa_cons (pe_def D_are_parted (hr.mono (by decide)) hc (by rfl) (pa_cons (pv 1) (pa_cons (pe_ix ix_tup (pv 6) pe_int (fun _ _ => rfl)) (pa_cons (pv 5) pa_nil)))) (pa_cons pe_bl pa_nil))) pa_nil)))))))
          (pss_one (ps_ret pe_bl))
          pss_nil)))
      (pss_cons (ps_setLc (i := 7) (own := [("_law_k", 8)]) (g := (gName 8)) rfl nd rfl rfl (sw_true rfl rfl rfl (by decide +kernel)) (pi_range2 (by rfl) T.range (pa_cons (pe_un un_neg pe_int) (pa_cons pe_int pa_nil))) (blkOk_by (own := [("_law_k", 8)]) (N := ["_law_deck_here", "_law_w", "_law_t", "_law_own", "_law_code_here", "_law_apart_here", "_law_it", "_law_same", "_law_k", "_law_due", "_law_plain"]) (sc := defScope s_right) (by decide +kernel)) (fun _ _ _ _ _ => (pg_name (i := 8) nd rfl (by first | exact Or.inl rfl | exact Or.inr rfl))) (fun _ _ _ _ _ => (pts_one (pt_val (pe_def D_is_met (hr.mono (by decide)) hc (by rfl) (pa_cons (pv 1) (pa_cons (pe_op (op_repPK (K := K)) (pe_tup (pa_cons (pv 8) pa_nil)) (pe_callB (call_len_seqK (K := K)) (by rfl) T.len boot_len (pa_cons (pe_dget hu (pv 1) pe_str (fun _ _ => rfl)) pa_nil))) pa_nil)))))) (fun _ _ _ _ _ => (pv 8)))
      (pss_cons (ps_for PassesOwn.never rfl (pi_list (pe_op op_cat (pe_op op_cat (pe_slice sl_list (pv 7) po_none (po_some pe_int)) (pe_slice sl_list (pv 7) (po_some (pe_un un_neg pe_int)) po_none)) (pe_lst (pa_cons (pe_op op_add (pe_ix ix_list (pv 7) pe_int (fun _ _ => rfl)) pe_int) pa_nil)))) (pg_name (i := 8) nd rfl (by first | exact Or.inl rfl | exact Or.inr rfl))
        (pss_cons (ps_par (i := 9) (j := 10) rfl nd rfl rfl (by decide) rfl rfl (pa_cons (pe_cmpR (op_inK (K := K)) (pv 8) (pv 7) (by with_unfolding_all rfl)) (pa_cons (pe_cmpR (op_eqP (K := K) hu64) (pv 5) (pe_tup pa_nil) (nomark _)) pa_nil)) rfl)
        (pss_cons (ps_if (pt_not (pt_val (pe_def D_is_told (hr.mono (by decide)) hc (by rfl) (pa_cons (pv 4) (pa_cons (pe_tup (pa_cons pe_str (pa_cons (pv 8) pa_nil))) (pa_cons (pv 5) (pa_cons (pe_lst (pa_cons (pe_cutE (pe_and (pv 9) (pe_and (pv 10) (pe_one (pe_cmpR op_gt (pv 8) pe_int (nomark _)))))) (pa_cons (pe_cutE (pe_and (pv 9) (pe_one (pe_cmpR op_gt (pv 8) pe_int (nomark _))))) pa_nil))) pa_nil)))))))
          (pss_one (ps_ret pe_bl))
          pss_nil)
        (pss_one (ps_if (pt_not (pt_val (pe_def D_is_told (hr.mono (by decide)) hc (by rfl) (pa_cons (pv 4) (pa_cons (pe_tup (pa_cons pe_str (pa_cons (pv 8) (pa_cons (pv 3) pa_nil)))) (pa_cons (pv 5) (pa_cons (pe_lst (pa_cons (pe_cutE (pe_and (pv 9) (pe_one (pe_def D_are_parted (hr.mono (by decide)) hc (by rfl) (pa_cons (pv 1) (pa_cons (pe_ix ix_tup (pv 3) pe_int (fun _ _ => rfl)) (pa_cons (pv 5) pa_nil))))))) (pa_cons (pv 9) pa_nil))) pa_nil)))))))
          (pss_one (ps_ret pe_bl))
          pss_nil)))))
      (pss_one (ps_ret pe_bl))))))), ?_⟩
    refine ⟨_, rfl, d, g, b + 200, rfl, D, fun tt wA ow t ns lots marks Fa wh mvs H1 D1 M1 htt wat t0 t1 hmk hF ok bd ml => ?_⟩
    refine ⟨tt, _, rfl, tofT htt, rfl, _, _, rfl, _, _, rfl, _, _, rfl, rfl, ?_⟩
    -- the code and the pairs
    refine ⟨_, rfl, d, g, wA, ns, rowsOf lots t, marks, rfl, wat, fun c H2 s2 hsys => ?_⟩
    have D2 := D1.same s2
    have wat2 := wat.same s2
    refine ⟨_, rfl, _, rfl, _, rfl, d, g, 3, b + 199, rfl, D2, by decide, bigN (by decide) (by decide), fun r H3 r0 r1 D3 M3 => ?_⟩
    obtain ⟨m, em⟩ : ∃ m : Nat, r = (m : Int) := ⟨r.toNat, by omega⟩
    refine ⟨d, g, wA, b + 189, m, ns, rowsOf lots t, marks, (by rw [em]; rfl), wat2.mv D2 M3, D3, by omega, fun u us prs H4 D4 M4 hu4 hP pl hn => ?_⟩
    have M14 : Mv d g H1 H4 := (Mv.of s2).trans (M3.trans M4)
    have k14 := Kp.mv D1 M14
    have wat4 := wat.mv D1 M14
    have hF4 := hF.kp k14
    have hsys4 := (hsys.kp (Kp.mv D2 (M3.trans M4)))
    refine ⟨_, _, rfl, ?_⟩
    refine ⟨_, rfl, _, rfl, _, rfl, d, g, ow, b + 89, ns.length, lots, marks, Fa, wh, mvs, rfl, D4.mono (by omega), hF4, ok, bd, ml, wat.n1, wat.n6, fun f2 F2 w2 m2 H5 D5 M5 hF5 ok2 bd2 ml2 => ⟨(show 2 ≤ sizeLine from small (by decide)), fun ta nta => ?_⟩⟩
    have s6 := Same.new (o := .tup [.ref ow, .ref f2]) nta
    have hta : upd H5 ta (.tup [.ref ow, .ref f2]) ta = some (.tup [.ref ow, .ref f2]) := upd_same
    have k46 := (Kp.mv D4 M5).trans (Kp.of s6)
    have good : ∀ x ∈ [V.ref ow, V.ref f2], GoodF (upd H5 ta (.tup [.ref ow, .ref f2])) ns.length lots marks x := fun x hx => by
      rcases List.mem_cons.mp hx with rfl | hx
      · exact ⟨ow, Fa, wh, mvs, rfl, hF4.kp k46, ok, bd.mono (by decide), by omega⟩
      · rw [List.mem_singleton.mp hx]
        exact ⟨f2, F2, w2, m2, rfl, hF5.kp (Kp.of s6), ok2, bd2, ml2⟩
    have wat6 := (wat4.mv D4 M5).same s6
    have hsys6 := hsys4.kp k46
    have hu6 := k46.tups _ _ hu4
    have hP6 := hP.to k46.tups
    have hF6 := hF4.kp k46
    have D6 := D5.same s6
    have al : alikeB ns.length (rowsOf lots t) marks t = true := alike_self wat.fl wat.fm hmk
    have n1 := wat.n1
    have n6 := wat.n6
    have fl := wat.fl
    have fm := wat.fm
    have l4 := wat.l4
    have ml3 := wat.ml
    have prl : prs.length ≤ 100 := by omega
    generalize upd H5 ta (.tup [.ref ow, .ref f2]) = H6 at *
    refine ⟨ta, rfl, ⟨_, tofT hta⟩, for_tup (K := K) (a := ta) (xs := [.ref ow, .ref f2]) (fun j σ Hy => ∃ v6, σ = [some (.ref d), some (.ref wA), some (.int t), some (.ref ow), some (.ref c), some (.ref u), v6, none, none, none, none] ∧ Same H6 Hy) ⟨none, rfl, Same.refl H6⟩
      (fun j σ Hy _ ⟨_, _, sy⟩ => tofT (sy _ _ hta)) ?_ ?_⟩
    · rintro j x σ Hy hj ⟨v6, rfl, sy⟩
      obtain ⟨f1, Fx, wx, mx, rfl, hfx, okx, bdx, mlx⟩ := (good x (List.mem_of_getElem? hj)).kp (Kp.of sy)
      refine ⟨_, rfl, _, rfl, _, rfl, (show 3 ≤ sizeLine from small (by decide)), fun tq ntq => ?_⟩
      have s7 := Same.new (o := .tup [.str "form", .int t, .ref f1]) ntq
      have hq : upd Hy tq (.tup [.str "form", .int t, .ref f1]) tq = some (.tup [.str "form", .int t, .ref f1]) := upd_same
      have s67 := sy.trans s7
      have hf7 := hfx.kp (Kp.of s7)
      generalize upd Hy tq (.tup [.str "form", .int t, .ref f1]) = H7 at *
      obtain ⟨tw, tm, xs, g1, g2, g3, g4⟩ := id hf7
      refine ⟨_, rfl, _, rfl, _, rfl, f1, _, _, _, rfl, rfl, tofT g1, atI_nat (j := 2) rfl, _, rfl, ?_⟩
      refine ⟨d, g, wA, tm, u, xs, us, ns, rowsOf lots t, marks, mx, prs, rfl, wat6.same s67, g3, g4, okx.ml, by omega, s67 _ _ hu6, hP6.to (tups_same s67), prl, hn, fun H8 s8 => ⟨(show 2 ≤ sizeLine from small (by decide)), fun du ndu => ?_⟩⟩
      have s9 := Same.new (o := .lst [.bl (partd ns mx prs), .bl true]) ndu
      have s79 := s8.trans s9
      have s69 := s67.trans s79
      refine ⟨c, tq, u, du, us, ns, rowsOf lots t, marks, prs, .form t Fx wx mx, rfl, hsys6.kp (Kp.of s69), n1, n6, by omega, by omega, fl, fm, ThAt.kp (th := .form t Fx wx mx) ⟨f1, hq, hf7⟩ (Kp.of s79), ⟨⟨by omega, by omega⟩, by rw [rowsOf_fst]; exact okx, mlx, bdx⟩, s69 _ _ hu6, hP6.to (tups_same s69), prl, hn, ?_, fun H10 s10 => ?_⟩
      · rw [vh_form, vh_form0, al, Bool.true_and]
        exact upd_same
      · exact ⟨_, rfl, ite2 (fun e => absurd e (by decide)) (fun _ => ⟨_, rfl, s69.trans s10⟩)⟩
    rintro σ H7 ⟨v6, rfl, s67⟩
    have hsys7 := hsys6.kp (Kp.of s67)
    have wat7 := wat6.same s67
    have hu7 := s67 _ _ hu6
    have hP7 := hP6.to (tups_same s67)
    have hF7 := hF6.kp (Kp.of s67)
    have D7 := D6.same s67
    obtain ⟨tn, Ma, Li, _, _, x1, x2, _⟩ := id wat7.ex
    -- the integers at which all is met
    obtain ⟨pB, epB⟩ : ∃ p : Int → Bool, p = alikeB ns.length (rowsOf lots t) marks := ⟨_, rfl⟩
    refine ⟨60, rfl, -60, 1101, rfl, ⟨by decide, by decide, by decide, by decide⟩, fun Dn nDn => ?_⟩
    refine lc_range (fun j Hy => Same H7 Hy ∧ Hy Dn = some (.lst ((metL pB j).map V.int))) ⟨Same.new nDn, upd_same⟩ ?_ ?_
    · rintro j Hy hj ⟨sy, hD⟩
      have j1 : j < 1161 := hj
      refine ⟨rfl, _, rfl, _, rfl, (show 1 ≤ sizeLine from small (by decide)), fun q1 nq1 => ⟨_, rfl, wA, _, rfl, w_c ((Same.new nq1) _ _ (sy _ _ x1)), tn, _, rfl, .inr ((Kp.of (sy.trans (Same.new nq1))).z x2).t, ?_⟩⟩
      refine rep_of (n := (ns.map V.str).length) upd_same (by rw [List.length_map]; exact n1) (by rw [List.length_map]; exact n6) fun q2 H8 s8 hq2 => ?_
      have s78 : Same H7 H8 := sy.trans ((Same.new nq1).trans s8)
      refine ⟨d, g, wA, q2, ns, rowsOf lots t, marks, _, rfl, wat7.same s78, hq2, by rw [List.length_replicate, List.length_map], fun H9 s9 => ⟨_, rfl, ?_⟩⟩
      have ea : dueB (rowsOf lots t) marks (List.replicate (ns.map V.str).length (-60 + (j : Int))) = pB (-60 + (j : Int)) := by
        rw [List.length_map, epB]; rfl
      rw [ea]
      have s8' : Same Hy H9 := (Same.new nq1).trans (s8.trans s9)
      have hD9 := s8' _ _ hD
      refine ite2 (fun e => ⟨_, rfl, _, hD9, ?_, ?_, ?_⟩) (fun e => ⟨s78.trans s9, ?_⟩)
      · have := metL_len pB j
        rw [List.length_map]; exact smallt (by omega)
      · intro a o ha
        rw [upd_ne (ne_of_none ha nDn)]
        exact (s78.trans s9) _ _ ha
      · rw [upd_same, metL_step, if_pos e, List.map_append]; rfl
      · rw [hD9, metL_step, if_neg e, List.append_nil]
    rintro H8 ⟨s78, hD⟩
    obtain ⟨same, es⟩ : ∃ l, l = metL pB 1161 := ⟨_, rfl⟩
    have hD : H8 Dn = some (.lst (same.map V.int)) := by rw [es]; exact hD
    have sl : same.length ≤ 1161 := es ▸ metL_len pB 1161
    have sm : ∀ k, k ∈ same ↔ (-60 ≤ k ∧ k ≤ 1100) ∧ pB k = true := fun k => by
      rw [es, metL_mem]
      constructor
      · rintro ⟨⟨h1, h2⟩, h3⟩; exact ⟨⟨h1, by omega⟩, h3⟩
      · rintro ⟨⟨h1, h2⟩, h3⟩; exact ⟨⟨h1, by omega⟩, h3⟩
    have tm : t ∈ same := (sm t).mpr ⟨⟨by omega, by omega⟩, by rw [epB]; exact al⟩
    obtain ⟨s0, rs, e0⟩ : ∃ s0 rs, same = s0 :: rs := by
      cases same with
      | nil => cases tm
      | cons a r => exact ⟨a, r, rfl⟩
    have z4 : s0 ≤ t := first_le (e0 ▸ es ▸ metL_asc pB 1161) (e0 ▸ tm)
    have z0 : s0 ∈ same := by rw [e0]; exact List.mem_cons_self
    have z60 := ((sm s0).mp z0).1
    have s68 := s67.trans s78
    refine ⟨_, rfl, 2, rfl, Dn, _, rfl, tofL hD, fun p1 np1 => ?_⟩
    have q1 := Same.new (o := .lst (cutV (same.map V.int) none (some 2))) np1
    refine ⟨_, rfl, 1, rfl, -1, rfl, Dn, _, rfl, tofL (q1 _ _ hD), fun p2 np2 => ?_⟩
    have q2 := Same.new (o := .lst (cutV (same.map V.int) (some (-1)) none)) np2
    have c1 := cutV_length (same.map V.int) none (some 2)
    have c2 := cutV_length (same.map V.int) (some (-1)) none
    rw [List.length_map] at c1 c2
    refine ⟨p1, p2, _, _, rfl, rfl, q2 _ _ upd_same, upd_same, small (by show _ ≤ 100000; omega), fun p3 np3 => ?_⟩
    have q3 := Same.new (o := .lst (cutV (same.map V.int) none (some 2) ++ cutV (same.map V.int) (some (-1)) none)) np3
    refine ⟨_, rfl, Dn, _, 0, _, rfl, rfl, tofL (q3 _ _ (q2 _ _ (q1 _ _ hD))), (by rw [e0]; exact atI_nat (j := 0) rfl), s0, 1, rfl, rfl, (show 1 ≤ sizeLine from small (by decide)), fun p4 np4 => ?_⟩
    have q4 := Same.new (o := .lst [.int (s0 + 1)]) np4
    refine ⟨p3, p4, _, _, rfl, rfl, q4 _ _ upd_same, upd_same, small (by show _ ≤ 100000; rw [List.length_append]; show _ + 1 ≤ _; omega), fun p5 np5 => ?_⟩
    have q5 := Same.new (o := .lst ((cutV (same.map V.int) none (some 2) ++ cutV (same.map V.int) (some (-1)) none) ++ [.int (s0 + 1)])) np5
    have s5 := q1.trans (q2.trans (q3.trans (q4.trans q5)))
    have inL : ∀ x ∈ (cutV (same.map V.int) none (some 2) ++ cutV (same.map V.int) (some (-1)) none) ++ [.int (s0 + 1)], ∃ k, x = .int k ∧ -60 ≤ k ∧ k ≤ 1100 := fun x hx => by
      have old : x ∈ same.map V.int → ∃ k, x = .int k ∧ -60 ≤ k ∧ k ≤ 1100 := fun h => by
        obtain ⟨k, hk, rfl⟩ := List.mem_map.mp h
        exact ⟨k, rfl, ((sm k).mp hk).1.1, ((sm k).mp hk).1.2⟩
      rcases List.mem_append.mp hx with hx | hx
      · rcases List.mem_append.mp hx with hx | hx
        · exact old (mem_cutV hx)
        · exact old (mem_cutV hx)
      · rw [List.mem_singleton.mp hx]
        exact ⟨s0 + 1, rfl, by omega, by omega⟩
    generalize (cutV (same.map V.int) none (some 2) ++ cutV (same.map V.int) (some (-1)) none) ++ [.int (s0 + 1)] = L at *
    refine ⟨p5, rfl, ⟨_, tofL upd_same⟩, for_list (K := K) (a := p5) (xs := L) (fun j σ Hy => ∃ v8 v9 v10, σ = [some (.ref d), some (.ref wA), some (.int t), some (.ref ow), some (.ref c), some (.ref u), v6, some (.ref Dn), v8, v9, v10] ∧ Same H8 Hy ∧ Hy p5 = some (.lst L)) ⟨none, none, none, rfl, s5, upd_same⟩
      (fun j σ Hy _ h => by obtain ⟨_, _, _, _, _, h⟩ := h; exact tofL h) ?_ ?_⟩
    · rintro j x σ Hy hj ⟨v8, v9, v10, rfl, sy, h5⟩
      obtain ⟨k, rfl, k0, k1⟩ := inL x (List.mem_of_getElem? hj)
      have s7y := s78.trans sy
      -- is it one of them; is no pair there
      obtain ⟨cB, ec⟩ : ∃ b : Bool, b = alikeB ns.length (rowsOf lots t) marks k := ⟨_, rfl⟩
      obtain ⟨pl0, epl⟩ : ∃ b : Bool, b = decide (prs = []) := ⟨_, rfl⟩
      have hc1 : inV (.int k) (same.map V.int) = cB := by
        rw [inV_ints, ec]
        by_cases h : k ∈ same
        · rw [decide_eq_true h, ← ((sm k).mp h).2, epB]
        · rw [decide_eq_false h]
          cases hb : alikeB ns.length (rowsOf lots t) marks k with
          | false => rfl
          | true => exact absurd ((sm k).mpr ⟨⟨k0, k1⟩, by rw [epB]; exact hb⟩) h
      have hp1 : PyData.eqv (.tuple (prs.map prD)) (.tuple []) = pl0 := by rw [eqv_prs_nil, epl]
      refine ⟨_, rfl, _, rfl, Dn, _, rfl, .inl (tofL (sy _ _ hD)), rfl, flat_ints _, ?_⟩
      refine ⟨_, rfl, (show 0 ≤ sizeLine from small (by decide)), fun e1 ne1 => ?_⟩
      have se1 := Same.new (o := .tup []) ne1
      have dpt : PyData.depth (.tuple (prs.map prD)) ≤ 60 := by
        have := depth_prs prs
        show PyData.depthAll (prs.map prD) + 1 ≤ 60
        omega
      refine ⟨.tuple (prs.map prD), .tuple [], .tup (tofT ((s7y.trans se1) _ _ hu7)) (hP7.to (tups_same (s7y.trans se1))).dp, .tup (tofT upd_same) .nil, plain_prs prs, rfl, dpt, ?_⟩
      rw [hp1]
      have sa := sy.trans se1
      generalize upd Hy e1 (.tup []) = Ha at *
      refine ⟨_, _, rfl, ?_⟩
      -- alike
      refine ⟨_, rfl, _, rfl, (show 2 ≤ sizeLine from small (by decide)), fun tq ntq => ?_⟩
      have st := Same.new (o := .tup [.str "alike", .int k]) ntq
      have hq : upd Ha tq (.tup [.str "alike", .int k]) tq = some (.tup [.str "alike", .int k]) := upd_same
      have sb := sa.trans st
      have yb := se1.trans st
      generalize upd Ha tq (.tup [.str "alike", .int k]) = Hb at *
      refine ⟨_, rfl, fun x H' => x = .bl (vh ns (rowsOf lots t) marks prs (.alike k)) ∧ Same Hb H', ?_, ?_⟩
      · refine ⟨_, rfl, cB, congrArg V.bl hc1, ite2 (fun e => ?_) (fun e => ?_)⟩
        · refine ⟨_, rfl, pl0, rfl, ite2 (fun e2 => ?_) (fun e2 => ?_)⟩
          · refine ⟨_, rfl, k, 0, rfl, rfl, congrArg V.bl ?_, Same.refl _⟩
            show decide (k > 0) = (decide (prs = []) && alikeB ns.length (rowsOf lots t) marks k && decide (1 ≤ k))
            rw [← epl, ← ec, e, e2, Bool.and_self, Bool.true_and]
            exact decide_eq_decide.mpr (by omega)
          · refine ⟨congrArg V.bl ?_, Same.refl _⟩
            show false = (decide (prs = []) && alikeB ns.length (rowsOf lots t) marks k && decide (1 ≤ k))
            rw [← epl, eq_false_of_ne_true e2]; rfl
        · refine ⟨congrArg V.bl ?_, Same.refl _⟩
          show false = (decide (prs = []) && alikeB ns.length (rowsOf lots t) marks k && decide (1 ≤ k))
          rw [← ec, eq_false_of_ne_true e, Bool.and_false]; rfl
      rintro x Hc ⟨rfl, sc⟩
      refine ⟨fun x H' => x = .bl (vh ns (rowsOf lots t) marks [] (.alike k)) ∧ Same Hc H', ?_, ?_⟩
      · refine ⟨_, rfl, cB, congrArg V.bl hc1, ite2 (fun e => ?_) (fun e => ?_)⟩
        · refine ⟨_, rfl, k, 0, rfl, rfl, congrArg V.bl ?_, Same.refl _⟩
          show decide (k > 0) = (true && alikeB ns.length (rowsOf lots t) marks k && decide (1 ≤ k))
          rw [← ec, e, Bool.and_self, Bool.true_and]
          exact decide_eq_decide.mpr (by omega)
        · refine ⟨congrArg V.bl ?_, Same.refl _⟩
          show false = (true && alikeB ns.length (rowsOf lots t) marks k && decide (1 ≤ k))
          rw [← ec, eq_false_of_ne_true e]; rfl
      rintro x Hd ⟨rfl, sd⟩
      refine ⟨(show 2 ≤ sizeLine from small (by decide)), fun du ndu => ?_⟩
      have se := Same.new (o := .lst [.bl (vh ns (rowsOf lots t) marks prs (.alike k)), .bl (vh ns (rowsOf lots t) marks [] (.alike k))]) ndu
      have sbe := sc.trans (sd.trans se)
      have s7e := s78.trans (sb.trans sbe)
      refine ⟨c, tq, u, du, us, ns, rowsOf lots t, marks, prs, .alike k, rfl, hsys7.kp (Kp.of s7e), n1, n6, by omega, by omega, fl, fm, ThAt.kp (th := .alike k) hq (Kp.of sbe), ⟨by omega, by omega⟩, s7e _ _ hu7, hP7.to (tups_same s7e), prl, hn, upd_same, fun Hf sf => ?_⟩
      refine ⟨_, rfl, ite2 (fun e => absurd e (by decide)) (fun _ => ?_)⟩
      have sf8 := sb.trans (sbe.trans sf)
      have yf := yb.trans (sbe.trans sf)
      -- the form
      refine ⟨_, rfl, _, rfl, _, rfl, (show 3 ≤ sizeLine from small (by decide)), fun tq2 ntq2 => ?_⟩
      have st2 := Same.new (o := .tup [.str "form", .int k, .ref ow]) ntq2
      have hq2 : upd Hf tq2 (.tup [.str "form", .int k, .ref ow]) tq2 = some (.tup [.str "form", .int k, .ref ow]) := upd_same
      have sg := sf8.trans st2
      have yg := yf.trans st2
      generalize upd Hf tq2 (.tup [.str "form", .int k, .ref ow]) = Hg at *
      have s7g := s78.trans sg
      refine ⟨_, rfl, fun x H' => x = .bl (vh ns (rowsOf lots t) marks prs (.form k Fa wh mvs)) ∧ Same Hg H', ?_, ?_⟩
      · refine ⟨_, rfl, cB, congrArg V.bl hc1, ite2 (fun e => ?_) (fun e => ?_)⟩
        · obtain ⟨tw, tmv, xs, g1, g2, g3, g4⟩ := id (hF7.kp (Kp.of s7g))
          refine ⟨_, rfl, _, rfl, ow, _, _, _, rfl, rfl, tofT g1, atI_nat (j := 2) rfl, _, rfl, ?_⟩
          refine ⟨d, g, wA, tmv, u, xs, us, ns, rowsOf lots t, marks, mvs, prs, rfl, wat7.same s7g, g3, g4, ok.ml, by omega, s7g _ _ hu7, hP7.to (tups_same s7g), prl, hn, fun H' s' => ⟨congrArg V.bl ?_, s'⟩⟩
          rw [vh_form, ← ec, e, Bool.true_and]
        · refine ⟨congrArg V.bl ?_, Same.refl _⟩
          rw [vh_form, ← ec, eq_false_of_ne_true e, Bool.false_and]
      rintro x Hh ⟨rfl, sh⟩
      refine ⟨_, rfl, (show 2 ≤ sizeLine from small (by decide)), fun du2 ndu2 => ?_⟩
      have hd2 : upd Hh du2 (.lst [.bl (vh ns (rowsOf lots t) marks prs (.form k Fa wh mvs)), .bl (if false = true then !inV (.int k) (same.map V.int) else inV (.int k) (same.map V.int))]) du2 = some (.lst [.bl (vh ns (rowsOf lots t) marks prs (.form k Fa wh mvs)), .bl (vh ns (rowsOf lots t) marks [] (.form k Fa wh mvs))]) := by
        rw [upd_same]
        refine congrArg (fun b => some (HO.lst [.bl (vh ns (rowsOf lots t) marks prs (.form k Fa wh mvs)), .bl b])) ?_
        rw [vh_form0, ← ec]
        exact hc1
      have si := Same.new (o := .lst [.bl (vh ns (rowsOf lots t) marks prs (.form k Fa wh mvs)), .bl (if false = true then !inV (.int k) (same.map V.int) else inV (.int k) (same.map V.int))]) ndu2
      generalize upd Hh du2 (.lst [.bl (vh ns (rowsOf lots t) marks prs (.form k Fa wh mvs)), .bl (if false = true then !inV (.int k) (same.map V.int) else inV (.int k) (same.map V.int))]) = Hi at *
      have shi := sh.trans si
      have s7i := s7g.trans shi
      refine ⟨c, tq2, u, du2, us, ns, rowsOf lots t, marks, prs, .form k Fa wh mvs, rfl, hsys7.kp (Kp.of s7i), n1, n6, by omega, by omega, fl, fm, ThAt.kp (th := .form k Fa wh mvs) ⟨ow, hq2, hF7.kp (Kp.of s7g)⟩ (Kp.of shi), ⟨⟨by omega, by omega⟩, by rw [rowsOf_fst]; exact ok, by omega, bd.mono (by decide)⟩, s7i _ _ hu7, hP7.to (tups_same s7i), prl, hn, hd2, fun Hj sj => ?_⟩
      have s8j := sg.trans (shi.trans sj)
      refine ⟨_, rfl, ite2 (fun e => absurd e (by decide)) (fun _ => ⟨_, _, _, rfl, s8j, (yg.trans (shi.trans sj)) _ _ h5⟩)⟩
    rintro σ Hy ⟨v8, v9, v10, rfl, sy, h5⟩
    exact q _ ((D7.same (s78.trans sy)).mono (by omega))
end
end NK29
namespace NK29
open PySem PySem.Spec PyProof.Rows L2 GL RZ G3
section
variable {P : Program} {w : World} {K : PySem.W.Frag} {mg : Str → Option Value} {base : Heap}
abbrev s_law : Stmt := topS 86
theorem sc_law : FnScope ["_law_script", "_law_deck_here", "_law_go"] ["_law_script"] (defScope s_law) := ⟨rfl, rfl, rfl, by decide +kernel, rfl, by decide +kernel, by decide +kernel⟩
theorem ok_law {f : Addr} {fd : FuncData} (F : Fun K "law" "law" s_law f fd) (T : Bl mg) (D_deck : DefG P w K mg base 1 "_law_deck" ["_law_script"] (spDck K ks)) (D_right : DefG P w K mg base 8 "_law_right" ["_law_deck_here"] spRight) :
    FnG P w K mg base CX0 9 f fd ["_law_script"] (spLaw K) := by
  refine okG F sc_law (fun vs H Q E h => ?_) fun cdv A outer s H vs Q E hr hc h => ?_
  · obtain ⟨a, ns, rfl, _⟩ := h
    rfl
  · obtain ⟨a, ns, rfl, hS, hl, q⟩ := h
    have nd := sc_law.nd
    refine ⟨_, (pss_cons (ps_set (i := 1) nd rfl (by first | exact Or.inl rfl | exact Or.inr rfl) (pe_def D_deck (hr.mono (by decide)) hc (by rfl) (pa_cons (pv 0) pa_nil)))
      (pss_cons (ps_for PassesOwn.never rfl (pi_range1 (by rfl) T.range (pa_cons pe_int pa_nil)) (pg_name (i := 2) nd rfl (by first | exact Or.inl rfl | exact Or.inr rfl))
        (pss_one (ps_if (pt_not (pt_val (pe_def D_right (hr.mono (by decide)) hc (by rfl) (pa_cons (pv 1) pa_nil))))
          (pss_one (ps_ret pe_bl))
          pss_nil)))
      (pss_one (ps_ret pe_bl)))), ?_⟩
    refine ⟨_, rfl, a, ns, rfl, hS, hl, fun d g H1 s1 nd1 ng1 D1 => ?_⟩
    refine ⟨6, rfl, by decide, by decide, for_range (fun i σ Hx => ∃ v2, σ = [some (.ref a), some (.ref d), v2] ∧ Dk ks Hx d g (1000 * (1000 - i))) ⟨none, rfl, D1.mono (by decide)⟩ ?_ ?_⟩
    · rintro i σ Hx hi ⟨v2, rfl, Dx⟩
      have hi6 : i < 6 := hi
      refine ⟨_, rfl, d, g, 1000 * (1000 - (i + 1)), rfl, Dx.mono (by omega), fun H2 D2 => ⟨_, rfl, ite2 (fun e => absurd e (by decide)) (fun _ => ⟨_, rfl, D2⟩)⟩⟩
    · rintro σ Hx ⟨v2, rfl, Dx⟩
      exact q Hx
end
end NK29
namespace NK29
open PySem PySem.Spec PyProof.Rows L2 GL G3
theorem all_mk {l : PySem.W.OpenLaw} {w : World} {K : PySem.W.Frag} {h : Heap} {mg : Str → Option Value} {fa f_draw f_deck f_dot f_ldot f_isi f_are f_wc f_mv f_fr f_fh f_dif f_unl f_alk f_called f_marks f_planted f_own f_code f_world f_rew f_met f_apart f_parted f_told f_right f_law : Addr} (X : K.In h) (G : h.Ns mainGlobals mg) (hfa : mg "law" = some (.ref fa))
    {od_draw an_draw : Option Addr} {sl_draw : Array (Option Value)} {oc_draw kV_draw dc_draw pm_draw cd_draw ct_draw : Value}
    {od_deck an_deck : Option Addr} {sl_deck : Array (Option Value)} {oc_deck kV_deck dc_deck pm_deck cd_deck ct_deck : Value}
    {od_dot an_dot : Option Addr} {sl_dot : Array (Option Value)} {oc_dot kV_dot dc_dot pm_dot cd_dot ct_dot : Value}
    {od_ldot an_ldot : Option Addr} {sl_ldot : Array (Option Value)} {oc_ldot kV_ldot dc_ldot pm_ldot cd_ldot ct_ldot : Value}
    {od_isi an_isi : Option Addr} {sl_isi : Array (Option Value)} {oc_isi kV_isi dc_isi pm_isi cd_isi ct_isi : Value}
    {od_are an_are : Option Addr} {sl_are : Array (Option Value)} {oc_are kV_are dc_are pm_are cd_are ct_are : Value}
    {od_wc an_wc : Option Addr} {sl_wc : Array (Option Value)} {oc_wc kV_wc dc_wc pm_wc cd_wc ct_wc : Value}
    {od_mv an_mv : Option Addr} {sl_mv : Array (Option Value)} {oc_mv kV_mv dc_mv pm_mv cd_mv ct_mv : Value}
    {od_fr an_fr : Option Addr} {sl_fr : Array (Option Value)} {oc_fr kV_fr dc_fr pm_fr cd_fr ct_fr : Value}
    {od_fh an_fh : Option Addr} {sl_fh : Array (Option Value)} {oc_fh kV_fh dc_fh pm_fh cd_fh ct_fh : Value}
    {od_dif an_dif : Option Addr} {sl_dif : Array (Option Value)} {oc_dif kV_dif dc_dif pm_dif cd_dif ct_dif : Value}
    {od_unl an_unl : Option Addr} {sl_unl : Array (Option Value)} {oc_unl kV_unl dc_unl pm_unl cd_unl ct_unl : Value}
    {od_alk an_alk : Option Addr} {sl_alk : Array (Option Value)} {oc_alk kV_alk dc_alk pm_alk cd_alk ct_alk : Value}
    {od_called an_called : Option Addr} {sl_called : Array (Option Value)} {oc_called kV_called dc_called pm_called cd_called ct_called : Value}
    {od_marks an_marks : Option Addr} {sl_marks : Array (Option Value)} {oc_marks kV_marks dc_marks pm_marks cd_marks ct_marks : Value}
    {od_planted an_planted : Option Addr} {sl_planted : Array (Option Value)} {oc_planted kV_planted dc_planted pm_planted cd_planted ct_planted : Value}
    {od_own an_own : Option Addr} {sl_own : Array (Option Value)} {oc_own kV_own dc_own pm_own cd_own ct_own : Value}
    {od_code an_code : Option Addr} {sl_code : Array (Option Value)} {oc_code kV_code dc_code pm_code cd_code ct_code : Value}
    {od_world an_world : Option Addr} {sl_world : Array (Option Value)} {oc_world kV_world dc_world pm_world cd_world ct_world : Value}
    {od_rew an_rew : Option Addr} {sl_rew : Array (Option Value)} {oc_rew kV_rew dc_rew pm_rew cd_rew ct_rew : Value}
    {od_met an_met : Option Addr} {sl_met : Array (Option Value)} {oc_met kV_met dc_met pm_met cd_met ct_met : Value}
    {od_apart an_apart : Option Addr} {sl_apart : Array (Option Value)} {oc_apart kV_apart dc_apart pm_apart cd_apart ct_apart : Value}
    {od_parted an_parted : Option Addr} {sl_parted : Array (Option Value)} {oc_parted kV_parted dc_parted pm_parted cd_parted ct_parted : Value}
    {od_told an_told : Option Addr} {sl_told : Array (Option Value)} {oc_told kV_told dc_told pm_told cd_told ct_told : Value}
    {od_right an_right : Option Addr} {sl_right : Array (Option Value)} {oc_right kV_right dc_right pm_right cd_right ct_right : Value}
    {od_law an_law : Option Addr} {sl_law : Array (Option Value)} {oc_law kV_law dc_law pm_law cd_law ct_law : Value}
    {C fI fF fv Dv E1 : Addr} {odI anI : Option Addr} {slI : Array (Option Value)} {ocI kVI dcI pmI cdI ctI : Value} {odF anF : Option Addr} {slF : Array (Option Value)} {ocF kVF dcF pmF cdF ctF : Value} {odv anv : Option Addr} {slv : Array (Option Value)} {ocv dcv pmv cdv ctv : Value} {tM : Tok} {T0 E0 : Addr} {dT dE : Option Addr} {slT slE : Array (Option Value)} {nT nE : Nat}
    (a_draw : PySem.W.nsIn K mainGlobals "_law_draw" = some (some (.ref f_draw)))
    (l_draw : K.lookup f_draw = some ⟨oc_draw, od_draw, .func (PySem.W.fnOf "_law_draw" "_law_draw" (defArgs s_draw) (defBody s_draw) (defScope s_draw) .none kV_draw dc_draw pm_draw an_draw cd_draw ct_draw), sl_draw⟩)
    (c_draw : PySem.W.codeIn K cd_draw "_law_draw" = true) (k_draw : PySem.W.keepIn K (.ref f_draw) = true)
    (a_deck : PySem.W.nsIn K mainGlobals "_law_deck" = some (some (.ref f_deck)))
    (l_deck : K.lookup f_deck = some ⟨oc_deck, od_deck, .func (PySem.W.fnOf "_law_deck" "_law_deck" (defArgs s_deck) (defBody s_deck) (defScope s_deck) .none kV_deck dc_deck pm_deck an_deck cd_deck ct_deck), sl_deck⟩)
    (c_deck : PySem.W.codeIn K cd_deck "_law_deck" = true) (k_deck : PySem.W.keepIn K (.ref f_deck) = true)
    (a_dot : PySem.W.nsIn K mainGlobals "dot" = some (some (.ref f_dot)))
    (l_dot : K.lookup f_dot = some ⟨oc_dot, od_dot, .func (PySem.W.fnOf "dot" "dot" (defArgs s_dot) (defBody s_dot) (defScope s_dot) .none kV_dot dc_dot pm_dot an_dot cd_dot ct_dot), sl_dot⟩)
    (c_dot : PySem.W.codeIn K cd_dot "dot" = true) (k_dot : PySem.W.keepIn K (.ref f_dot) = true)
    (a_ldot : PySem.W.nsIn K mainGlobals "_law_dot" = some (some (.ref f_ldot)))
    (l_ldot : K.lookup f_ldot = some ⟨oc_ldot, od_ldot, .func (PySem.W.fnOf "_law_dot" "_law_dot" (defArgs s_ldot) (defBody s_ldot) (defScope s_ldot) .none kV_ldot dc_ldot pm_ldot an_ldot cd_ldot ct_ldot), sl_ldot⟩)
    (c_ldot : PySem.W.codeIn K cd_ldot "_law_dot" = true) (k_ldot : PySem.W.keepIn K (.ref f_ldot) = true)
    (a_isi : PySem.W.nsIn K mainGlobals "is_integer" = some (some (.ref f_isi)))
    (l_isi : K.lookup f_isi = some ⟨oc_isi, od_isi, .func (PySem.W.fnOf "is_integer" "is_integer" (defArgs s_is_integer) (defBody s_is_integer) (defScope s_is_integer) .none kV_isi dc_isi pm_isi an_isi cd_isi ct_isi), sl_isi⟩)
    (c_isi : PySem.W.codeIn K cd_isi "is_integer" = true) (k_isi : PySem.W.keepIn K (.ref f_isi) = true)
    (a_are : PySem.W.nsIn K mainGlobals "are_integers" = some (some (.ref f_are)))
    (l_are : K.lookup f_are = some ⟨oc_are, od_are, .func (PySem.W.fnOf "are_integers" "are_integers" (defArgs s_are_integers) (defBody s_are_integers) (defScope s_are_integers) .none kV_are dc_are pm_are an_are cd_are ct_are), sl_are⟩)
    (c_are : PySem.W.codeIn K cd_are "are_integers" = true) (k_are : PySem.W.keepIn K (.ref f_are) = true)
    (a_wc : PySem.W.nsIn K mainGlobals "without_constants" = some (some (.ref f_wc)))
    (l_wc : K.lookup f_wc = some ⟨oc_wc, od_wc, .func (PySem.W.fnOf "without_constants" "without_constants" (defArgs s_without_constants) (defBody s_without_constants) (defScope s_without_constants) .none kV_wc dc_wc pm_wc an_wc cd_wc ct_wc), sl_wc⟩)
    (c_wc : PySem.W.codeIn K cd_wc "without_constants" = true) (k_wc : PySem.W.keepIn K (.ref f_wc) = true)
    (a_mv : PySem.W.nsIn K mainGlobals "is_move" = some (some (.ref f_mv)))
    (l_mv : K.lookup f_mv = some ⟨oc_mv, od_mv, .func (PySem.W.fnOf "is_move" "is_move" (defArgs s_is_move) (defBody s_is_move) (defScope s_is_move) .none kV_mv dc_mv pm_mv an_mv cd_mv ct_mv), sl_mv⟩)
    (c_mv : PySem.W.codeIn K cd_mv "is_move" = true) (k_mv : PySem.W.keepIn K (.ref f_mv) = true)
    (a_fr : PySem.W.nsIn K mainGlobals "_is_front" = some (some (.ref f_fr)))
    (l_fr : K.lookup f_fr = some ⟨oc_fr, od_fr, .func (PySem.W.fnOf "_is_front" "_is_front" (defArgs s_is_front) (defBody s_is_front) (defScope s_is_front) .none kV_fr dc_fr pm_fr an_fr cd_fr ct_fr), sl_fr⟩)
    (c_fr : PySem.W.codeIn K cd_fr "_is_front" = true) (k_fr : PySem.W.keepIn K (.ref f_fr) = true)
    (a_fh : PySem.W.nsIn K mainGlobals "form_holds" = some (some (.ref f_fh)))
    (l_fh : K.lookup f_fh = some ⟨oc_fh, od_fh, .func (PySem.W.fnOf "form_holds" "form_holds" (defArgs s_form_holds) (defBody s_form_holds) (defScope s_form_holds) .none kV_fh dc_fh pm_fh an_fh cd_fh ct_fh), sl_fh⟩)
    (c_fh : PySem.W.codeIn K cd_fh "form_holds" = true) (k_fh : PySem.W.keepIn K (.ref f_fh) = true)
    (a_dif : PySem.W.nsIn K mainGlobals "_differs" = some (some (.ref f_dif)))
    (l_dif : K.lookup f_dif = some ⟨oc_dif, od_dif, .func (PySem.W.fnOf "_differs" "_differs" (defArgs s_differs) (defBody s_differs) (defScope s_differs) .none kV_dif dc_dif pm_dif an_dif cd_dif ct_dif), sl_dif⟩)
    (c_dif : PySem.W.codeIn K cd_dif "_differs" = true) (k_dif : PySem.W.keepIn K (.ref f_dif) = true)
    (a_unl : PySem.W.nsIn K mainGlobals "_are_unlike" = some (some (.ref f_unl)))
    (l_unl : K.lookup f_unl = some ⟨oc_unl, od_unl, .func (PySem.W.fnOf "_are_unlike" "_are_unlike" (defArgs s_are_unlike) (defBody s_are_unlike) (defScope s_are_unlike) .none kV_unl dc_unl pm_unl an_unl cd_unl ct_unl), sl_unl⟩)
    (c_unl : PySem.W.codeIn K cd_unl "_are_unlike" = true) (k_unl : PySem.W.keepIn K (.ref f_unl) = true)
    (a_alk : PySem.W.nsIn K mainGlobals "_is_alike" = some (some (.ref f_alk)))
    (l_alk : K.lookup f_alk = some ⟨oc_alk, od_alk, .func (PySem.W.fnOf "_is_alike" "_is_alike" (defArgs s_is_alike) (defBody s_is_alike) (defScope s_is_alike) .none kV_alk dc_alk pm_alk an_alk cd_alk ct_alk), sl_alk⟩)
    (c_alk : PySem.W.codeIn K cd_alk "_is_alike" = true) (k_alk : PySem.W.keepIn K (.ref f_alk) = true)
    (a_called : PySem.W.nsIn K mainGlobals "_law_called" = some (some (.ref f_called)))
    (l_called : K.lookup f_called = some ⟨oc_called, od_called, .func (PySem.W.fnOf "_law_called" "_law_called" (defArgs s_called) (defBody s_called) (defScope s_called) .none kV_called dc_called pm_called an_called cd_called ct_called), sl_called⟩)
    (c_called : PySem.W.codeIn K cd_called "_law_called" = true) (k_called : PySem.W.keepIn K (.ref f_called) = true)
    (a_marks : PySem.W.nsIn K mainGlobals "_law_marks" = some (some (.ref f_marks)))
    (l_marks : K.lookup f_marks = some ⟨oc_marks, od_marks, .func (PySem.W.fnOf "_law_marks" "_law_marks" (defArgs s_marks) (defBody s_marks) (defScope s_marks) .none kV_marks dc_marks pm_marks an_marks cd_marks ct_marks), sl_marks⟩)
    (c_marks : PySem.W.codeIn K cd_marks "_law_marks" = true) (k_marks : PySem.W.keepIn K (.ref f_marks) = true)
    (a_planted : PySem.W.nsIn K mainGlobals "_law_planted" = some (some (.ref f_planted)))
    (l_planted : K.lookup f_planted = some ⟨oc_planted, od_planted, .func (PySem.W.fnOf "_law_planted" "_law_planted" (defArgs s_planted) (defBody s_planted) (defScope s_planted) .none kV_planted dc_planted pm_planted an_planted cd_planted ct_planted), sl_planted⟩)
    (c_planted : PySem.W.codeIn K cd_planted "_law_planted" = true) (k_planted : PySem.W.keepIn K (.ref f_planted) = true)
    (a_own : PySem.W.nsIn K mainGlobals "_law_own_form" = some (some (.ref f_own)))
    (l_own : K.lookup f_own = some ⟨oc_own, od_own, .func (PySem.W.fnOf "_law_own_form" "_law_own_form" (defArgs s_own_form) (defBody s_own_form) (defScope s_own_form) .none kV_own dc_own pm_own an_own cd_own ct_own), sl_own⟩)
    (c_own : PySem.W.codeIn K cd_own "_law_own_form" = true) (k_own : PySem.W.keepIn K (.ref f_own) = true)
    (a_code : PySem.W.nsIn K mainGlobals "_law_code" = some (some (.ref f_code)))
    (l_code : K.lookup f_code = some ⟨oc_code, od_code, .func (PySem.W.fnOf "_law_code" "_law_code" (defArgs s_code) (defBody s_code) (defScope s_code) .none kV_code dc_code pm_code an_code cd_code ct_code), sl_code⟩)
    (c_code : PySem.W.codeIn K cd_code "_law_code" = true) (k_code : PySem.W.keepIn K (.ref f_code) = true)
    (a_world : PySem.W.nsIn K mainGlobals "_law_sure_world" = some (some (.ref f_world)))
    (l_world : K.lookup f_world = some ⟨oc_world, od_world, .func (PySem.W.fnOf "_law_sure_world" "_law_sure_world" (defArgs s_sure_world) (defBody s_sure_world) (defScope s_sure_world) .none kV_world dc_world pm_world an_world cd_world ct_world), sl_world⟩)
    (c_world : PySem.W.codeIn K cd_world "_law_sure_world" = true) (k_world : PySem.W.keepIn K (.ref f_world) = true)
    (a_rew : PySem.W.nsIn K mainGlobals "_law_rewritten" = some (some (.ref f_rew)))
    (l_rew : K.lookup f_rew = some ⟨oc_rew, od_rew, .func (PySem.W.fnOf "_law_rewritten" "_law_rewritten" (defArgs s_rewritten) (defBody s_rewritten) (defScope s_rewritten) .none kV_rew dc_rew pm_rew an_rew cd_rew ct_rew), sl_rew⟩)
    (c_rew : PySem.W.codeIn K cd_rew "_law_rewritten" = true) (k_rew : PySem.W.keepIn K (.ref f_rew) = true)
    (a_met : PySem.W.nsIn K mainGlobals "_law_is_met" = some (some (.ref f_met)))
    (l_met : K.lookup f_met = some ⟨oc_met, od_met, .func (PySem.W.fnOf "_law_is_met" "_law_is_met" (defArgs s_is_met) (defBody s_is_met) (defScope s_is_met) .none kV_met dc_met pm_met an_met cd_met ct_met), sl_met⟩)
    (c_met : PySem.W.codeIn K cd_met "_law_is_met" = true) (k_met : PySem.W.keepIn K (.ref f_met) = true)
    (a_apart : PySem.W.nsIn K mainGlobals "_law_apart" = some (some (.ref f_apart)))
    (l_apart : K.lookup f_apart = some ⟨oc_apart, od_apart, .func (PySem.W.fnOf "_law_apart" "_law_apart" (defArgs s_apart) (defBody s_apart) (defScope s_apart) .none kV_apart dc_apart pm_apart an_apart cd_apart ct_apart), sl_apart⟩)
    (c_apart : PySem.W.codeIn K cd_apart "_law_apart" = true) (k_apart : PySem.W.keepIn K (.ref f_apart) = true)
    (a_parted : PySem.W.nsIn K mainGlobals "_law_are_parted" = some (some (.ref f_parted)))
    (l_parted : K.lookup f_parted = some ⟨oc_parted, od_parted, .func (PySem.W.fnOf "_law_are_parted" "_law_are_parted" (defArgs s_are_parted) (defBody s_are_parted) (defScope s_are_parted) .none kV_parted dc_parted pm_parted an_parted cd_parted ct_parted), sl_parted⟩)
    (c_parted : PySem.W.codeIn K cd_parted "_law_are_parted" = true) (k_parted : PySem.W.keepIn K (.ref f_parted) = true)
    (a_told : PySem.W.nsIn K mainGlobals "_law_is_told" = some (some (.ref f_told)))
    (l_told : K.lookup f_told = some ⟨oc_told, od_told, .func (PySem.W.fnOf "_law_is_told" "_law_is_told" (defArgs s_is_told) (defBody s_is_told) (defScope s_is_told) .none kV_told dc_told pm_told an_told cd_told ct_told), sl_told⟩)
    (c_told : PySem.W.codeIn K cd_told "_law_is_told" = true) (k_told : PySem.W.keepIn K (.ref f_told) = true)
    (a_right : PySem.W.nsIn K mainGlobals "_law_right" = some (some (.ref f_right)))
    (l_right : K.lookup f_right = some ⟨oc_right, od_right, .func (PySem.W.fnOf "_law_right" "_law_right" (defArgs s_right) (defBody s_right) (defScope s_right) .none kV_right dc_right pm_right an_right cd_right ct_right), sl_right⟩)
    (c_right : PySem.W.codeIn K cd_right "_law_right" = true) (k_right : PySem.W.keepIn K (.ref f_right) = true)
    (a_law : PySem.W.nsIn K mainGlobals "law" = some (some (.ref f_law)))
    (l_law : K.lookup f_law = some ⟨oc_law, od_law, .func (PySem.W.fnOf "law" "law" (defArgs s_law) (defBody s_law) (defScope s_law) .none kV_law dc_law pm_law an_law cd_law ct_law), sl_law⟩)
    (c_law : PySem.W.codeIn K cd_law "law" = true) (k_law : PySem.W.keepIn K (.ref f_law) = true)
    (aC : PySem.W.nsIn K mainGlobals "System" = some (some (.ref C)))
    (aI : PySem.W.findIn K (.ref C) "__init__" = some (some (.ref fI))) (iI : PySem.W.isFn K (.ref fI) = true) (lI : K.lookup fI = some ⟨ocI, odI, .func (PySem.W.fnOf "__init__" "System.__init__" (defArgs s_init) (defBody s_init) (defScope s_init) (.ref T0) kVI dcI pmI anI cdI ctI), slI⟩) (cI : PySem.W.codeIn K cdI "System.__init__" = true) (kI : PySem.W.keepIn K (.ref fI) = true)
    (aF : PySem.W.findIn K (.ref C) "fulfils" = some (some (.ref fF))) (iF : PySem.W.isFn K (.ref fF) = true) (lF : K.lookup fF = some ⟨ocF, odF, .func (PySem.W.fnOf "fulfils" "System.fulfils" (defArgs s_ful) (defBody s_ful) (defScope s_ful) .none kVF dcF pmF anF cdF ctF), slF⟩) (cF : PySem.W.codeIn K cdF "System.fulfils" = true) (kF : PySem.W.keepIn K (.ref fF) = true)
    (pg : PySem.W.plainGet K C Str.empty = true) (hd : PySem.W.hasDictIn K C = true) (po : PySem.W.plainOver K C = true) (sa : PySem.W.findIn K (.ref C) "__setattr__" = some (some (.builtin "object.__setattr__"))) (mk : PySem.W.makesIn K C = true) (kc : PySem.W.keepIn K (.ref C) = true)
    (nN : PySem.W.findIn K (.ref C) "names" = some none) (nR : PySem.W.findIn K (.ref C) "rows" = some none) (nS : PySem.W.findIn K (.ref C) "rests" = some none)
    (lT : K.lookup T0 = some ⟨.type "tuple", dT, .seq #[.ref E0] nT, slT⟩)
    (aM : PySem.W.nsIn K mainGlobals "MOST_MOVES" = some (some (.int 12 tM)))
    (av : PySem.W.nsIn K mainGlobals "verdict_holds" = some (some (.ref fv))) (lv : K.lookup fv = some ⟨ocv, odv, .func (PySem.W.fnOf "verdict_holds" "verdict_holds" (defArgs s_verdict_holds) (defBody s_verdict_holds) (defScope s_verdict_holds) .none (.ref Dv) dcv pmv anv cdv ctv), slv⟩) (cv : PySem.W.codeIn K cdv "verdict_holds" = true) (kv : PySem.W.keepIn K (.ref fv) = true)
    (aU : PySem.W.nsIn K Dv "unlike" = some (some (.ref E1))) (lE : K.lookup E1 = some ⟨.type "tuple", dE, .seq #[] nE, slE⟩)
    (z_int : PySem.W.nsIn K mainGlobals "int" = some none)
    (z_len : PySem.W.nsIn K mainGlobals "len" = some none)
    (z_range : PySem.W.nsIn K mainGlobals "range" = some none)
    (z_list : PySem.W.nsIn K mainGlobals "list" = some none)
    (z_repr : PySem.W.nsIn K mainGlobals "repr" = some none)
    (z_max : PySem.W.nsIn K mainGlobals "max" = some none)
    (z_tuple : PySem.W.nsIn K mainGlobals "tuple" = some none)
    (z_sum : PySem.W.nsIn K mainGlobals "sum" = some none)
    (z_abs : PySem.W.nsIn K mainGlobals "abs" = some none)
    (z_sorted : PySem.W.nsIn K mainGlobals "sorted" = some none)
    (z_set : PySem.W.nsIn K mainGlobals "set" = some none)
    (z_zip : PySem.W.nsIn K mainGlobals "zip" = some none)
    (z_enumerate : PySem.W.nsIn K mainGlobals "enumerate" = some none)
    (z_isinstance : PySem.W.nsIn K mainGlobals "isinstance" = some none)
    (z_any : PySem.W.nsIn K mainGlobals "any" = some none)
    (z_all : PySem.W.nsIn K mainGlobals "all" = some none)
    (z_bool : PySem.W.nsIn K mainGlobals "bool" = some none) :
    ∃ fd : FuncData, (∀ (s : Shared) (v : Value), BindsTo s fd ⟨[v], []⟩ [("_law_script", v)]) ∧ ∀ base : Heap, K.In base → base.Ns mainGlobals mg → FnG l.prog w K mg base CX0 9 fa fd ["_law_script"] (spLaw K) := by
  have e := hfa.symm.trans (PySem.W.mg_of X G a_law)
  cases e
  have F_draw := fun_mk (st := s_draw) l_draw c_draw k_draw
  have g_draw := PySem.W.mg_of X G a_draw
  have F_deck := fun_mk (st := s_deck) l_deck c_deck k_deck
  have g_deck := PySem.W.mg_of X G a_deck
  have F_dot := fun_mk (st := s_dot) l_dot c_dot k_dot
  have g_dot := PySem.W.mg_of X G a_dot
  have F_ldot := fun_mk (st := s_ldot) l_ldot c_ldot k_ldot
  have g_ldot := PySem.W.mg_of X G a_ldot
  have F_isi := fun_mk (st := s_is_integer) l_isi c_isi k_isi
  have g_isi := PySem.W.mg_of X G a_isi
  have F_are := fun_mk (st := s_are_integers) l_are c_are k_are
  have g_are := PySem.W.mg_of X G a_are
  have F_wc := fun_mk (st := s_without_constants) l_wc c_wc k_wc
  have g_wc := PySem.W.mg_of X G a_wc
  have F_mv := fun_mk (st := s_is_move) l_mv c_mv k_mv
  have g_mv := PySem.W.mg_of X G a_mv
  have F_fr := fun_mk (st := s_is_front) l_fr c_fr k_fr
  have g_fr := PySem.W.mg_of X G a_fr
  have F_fh := fun_mk (st := s_form_holds) l_fh c_fh k_fh
  have g_fh := PySem.W.mg_of X G a_fh
  have F_dif := fun_mk (st := s_differs) l_dif c_dif k_dif
  have g_dif := PySem.W.mg_of X G a_dif
  have F_unl := fun_mk (st := s_are_unlike) l_unl c_unl k_unl
  have g_unl := PySem.W.mg_of X G a_unl
  have F_alk := fun_mk (st := s_is_alike) l_alk c_alk k_alk
  have g_alk := PySem.W.mg_of X G a_alk
  have F_called := fun_mk (st := s_called) l_called c_called k_called
  have g_called := PySem.W.mg_of X G a_called
  have F_marks := fun_mk (st := s_marks) l_marks c_marks k_marks
  have g_marks := PySem.W.mg_of X G a_marks
  have F_planted := fun_mk (st := s_planted) l_planted c_planted k_planted
  have g_planted := PySem.W.mg_of X G a_planted
  have F_own := fun_mk (st := s_own_form) l_own c_own k_own
  have g_own := PySem.W.mg_of X G a_own
  have F_code := fun_mk (st := s_code) l_code c_code k_code
  have g_code := PySem.W.mg_of X G a_code
  have F_world := fun_mk (st := s_sure_world) l_world c_world k_world
  have g_world := PySem.W.mg_of X G a_world
  have F_rew := fun_mk (st := s_rewritten) l_rew c_rew k_rew
  have g_rew := PySem.W.mg_of X G a_rew
  have F_met := fun_mk (st := s_is_met) l_met c_met k_met
  have g_met := PySem.W.mg_of X G a_met
  have F_apart := fun_mk (st := s_apart) l_apart c_apart k_apart
  have g_apart := PySem.W.mg_of X G a_apart
  have F_parted := fun_mk (st := s_are_parted) l_parted c_parted k_parted
  have g_parted := PySem.W.mg_of X G a_parted
  have F_told := fun_mk (st := s_is_told) l_told c_told k_told
  have g_told := PySem.W.mg_of X G a_told
  have F_right := fun_mk (st := s_right) l_right c_right k_right
  have g_right := PySem.W.mg_of X G a_right
  have F_law := fun_mk (st := s_law) l_law c_law k_law
  have T : Bl mg := ⟨PySem.W.mg_none_of X G z_int, PySem.W.mg_none_of X G z_len, PySem.W.mg_none_of X G z_range, PySem.W.mg_none_of X G z_list, PySem.W.mg_none_of X G z_repr, PySem.W.mg_none_of X G z_max, PySem.W.mg_none_of X G z_tuple, PySem.W.mg_none_of X G z_sum, PySem.W.mg_none_of X G z_abs, PySem.W.mg_none_of X G z_sorted, PySem.W.mg_none_of X G z_set, PySem.W.mg_none_of X G z_zip, PySem.W.mg_none_of X G z_enumerate, PySem.W.mg_none_of X G z_isinstance, PySem.W.mg_none_of X G z_any, PySem.W.mg_none_of X G z_all, PySem.W.mg_none_of X G z_bool⟩
  refine ⟨PySem.W.fnOf "law" "law" (defArgs s_law) (defBody s_law) (defScope s_law) .none kV_law dc_law pm_law an_law cd_law ct_law, fun s v => .of_eq rfl, fun base _ _ => ?_⟩
  have S : Sys K mg C := ⟨⟨pg, hd, po, sa⟩, nN, nR, nS, PySem.W.mg_of X G aC⟩
  have FI0 : FunD K "__init__" "System.__init__" (defArgs s_init) (defBody s_init) (defScope s_init) [.ref E0] [] fI _ := ⟨⟨ocI, odI, _, kVI, dcI, pmI, anI, cdI, ctI, slI, rfl, lI, cI, .inr ⟨(fun z => nomatch z), T0, _, [.ref E0], nT, rfl, lT, rfl, .cons rfl .nil⟩, .inl rfl⟩, kI⟩
  have FF0 := fun_mk (st := s_ful) lF cF kF
  have MK : Mk K C fI := ⟨mk, aI, iI, kc⟩
  have FI := ok_init (P := l.prog) (w := w) (base := base) FI0 S
  obtain ⟨ds4, rd4, B4⟩ := FI0.binds1 (ps := ["self", "names", "rows", "rests"]) 4 1 (fun z => nomatch z) rfl (fun _ _ _ _ _ _ _ us its h1 h2 => match us, its, h1, h2 with | [_, _, _, _], [_], _, _ => ⟨_, rfl, rfl⟩)
  have BI := (show ds4 = [] from by cases rd4; rfl) ▸ B4
  have D_draw := ok_draw (P := l.prog) (w := w) (base := base) F_draw g_draw T
  have D_deck := ok_deck (P := l.prog) (w := w) (base := base) F_deck g_deck T
  have D_dot := ok_dot (P := l.prog) (w := w) (base := base) F_dot g_dot T
  have D_ldot := ok_ldot (P := l.prog) (w := w) (base := base) F_ldot g_ldot T
  have D_ldotT := ok_ldotT (P := l.prog) (w := w) (base := base) F_ldot g_ldot T
  have FF := ok_ful (P := l.prog) (w := w) (base := base) FF0 S T D_dot
  have BF : Binds K _ ["self", "numbers"] [] := FF0.binds fun _ _ _ _ _ _ us hl => match us, hl with | [_, _], _ => rfl
  have D_isi := ok_is_integer (P := l.prog) (w := w) (base := base) F_isi g_isi T
  have D_are := ok_are_integers F_are g_are T D_isi
  have D_wc := ok_without_constants F_wc g_wc T S MK FI BI
  have D_mv := ok_is_move F_mv g_mv T S D_are D_wc ⟨aF, iF, kF⟩ FF BF
  have D_fr := ok_is_front (P := l.prog) (w := w) (base := base) F_fr g_fr T
  have L := ok_form_holds F_fh T S ⟨_, PySem.W.mg_of X G aM, ⟨_, rfl⟩⟩ D_isi D_are D_mv D_fr
  have D_fh := def_mk F_fh g_fh (F_fh.binds fun _ _ _ _ _ _ us hl => match us, hl with | [_, _], _ => rfl) L
  have D_dif := ok_differs (P := l.prog) (w := w) (base := base) F_dif g_dif T S
  have D_unl := ok_are_unlike F_unl g_unl T S D_dif
  have D_alk := ok_is_alike F_alk g_alk T S D_isi ⟨aF, iF, kF⟩ FF BF
  have F_vh : FunD K "verdict_holds" "verdict_holds" (defArgs s_verdict_holds) (defBody s_verdict_holds) (defScope s_verdict_holds) [] [("unlike", .ref E1)] fv _ := ⟨⟨ocv, odv, _, _, dcv, pmv, anv, cdv, ctv, slv, rfl, lv, cv, .inl ⟨rfl, rfl⟩, .inr ⟨Dv, rfl, fun q hq => by rw [List.mem_singleton.mp hq]; exact ⟨_, aU, rfl⟩⟩⟩, kv⟩
  have L_vh := ok_verdict_holds F_vh T S D_alk D_fh D_unl
  obtain ⟨ds1, rd1, Bd1⟩ := F_vh.binds0 (ps := ["system", "thing", "unlike"]) 2 (fun z => nomatch z) rfl (fun D doc pm an cdv ct us ks l1 l2 => match us, ks, l1, l2 with | [_, _], [_], _, _ => ⟨_, _, _, _, _, _, rfl, rfl, rfl⟩)
  obtain ⟨mv1, KB1⟩ := F_vh.kbinds0 (ps := ["system", "thing", "unlike"]) 2 ["unlike"] [] (fun us _ ws => us ++ ws) (fun z => nomatch z) (fun q h => by cases h) (fun r1 _ r3 => r1.append r3) (fun D doc pm an cdv ct us mv ws l1 l2 l3 => match us, mv, ws, l1, l2, l3 with | [_, _], [], [_], _, _, _ => rfl)
  have N_vh : DefNG l.prog w K mg base 6 "verdict_holds" ["system", "thing", "unlike"] [.ref E1] 2 ["unlike"] (fun vs zs => vs ++ zs) (spVh K C) := ⟨⟨fv, _, _, _, L_vh, PySem.W.mg_of X G av, kv, rd1, Bd1, KB1⟩⟩
  have hE : ∀ H, SqT K H E1 [] := fun H => .inr ⟨_, #[], nE, lE, rfl, rfl, by decide, .nil⟩
  have D_code := ok_code F_code g_code T S MK FI BI
  have D_world := ok_sure_world F_world g_world T D_draw (ok_called F_called g_called T D_draw) (ok_marks F_marks g_marks T D_draw) (ok_planted F_planted g_planted T D_draw D_ldot) (ok_own_form (P := l.prog) (w := w) (base := base) F_own g_own T)
  have D_rew := ok_rewritten (P := l.prog) (w := w) (base := base) F_rew g_rew T D_draw
  have D_met := ok_is_met F_met g_met T D_ldotT
  have D_apart := ok_apart (K := K) (P := l.prog) (w := w) (base := base) F_apart g_apart T D_draw
  have D_parted := ok_are_parted (K := K) (P := l.prog) (w := w) (base := base) F_parted g_parted T
  have D_told := ok_is_told F_told g_told T hE N_vh
  have D_right := ok_right F_right g_right T D_draw D_world D_code D_apart D_rew D_told D_parted D_met
  exact ok_law F_law T D_deck D_right
end NK29
open PySem PySem.W PyProof.Rows
set_option maxRecDepth 100000 in
set_option maxHeartbeats 0 in
theorem PySem.Challenge.cw_whateverboxes_k29_right_forms_by_any_han_holds : PySem.Challenge.rw_whateverboxes_k29_right_forms_by_any_han.Holds := by
  w_on; o_law; k_head; (case hw => w_witness2)
  k_fill
  refine G3.walk (k := 9) (l := PySem.Challenge.rw_whateverboxes_k29_right_forms_by_any_han) rfl rfl ⟨rfl, by decide, by decide⟩ (fun w h Y => PySem.W.kIn_of Y) ?F
  case F =>
    intro w mg fa h KX G hmg
    refine' NK29.all_mk KX G hmg ?a_draw ?l_draw ?c_draw ?k_draw ?a_deck ?l_deck ?c_deck ?k_deck ?a_dot ?l_dot ?c_dot ?k_dot ?a_ldot ?l_ldot ?c_ldot ?k_ldot ?a_isi ?l_isi ?c_isi ?k_isi ?a_are ?l_are ?c_are ?k_are ?a_wc ?l_wc ?c_wc ?k_wc ?a_mv ?l_mv ?c_mv ?k_mv ?a_fr ?l_fr ?c_fr ?k_fr ?a_fh ?l_fh ?c_fh ?k_fh ?a_dif ?l_dif ?c_dif ?k_dif ?a_unl ?l_unl ?c_unl ?k_unl ?a_alk ?l_alk ?c_alk ?k_alk ?a_called ?l_called ?c_called ?k_called ?a_marks ?l_marks ?c_marks ?k_marks ?a_planted ?l_planted ?c_planted ?k_planted ?a_own ?l_own ?c_own ?k_own ?a_code ?l_code ?c_code ?k_code ?a_world ?l_world ?c_world ?k_world ?a_rew ?l_rew ?c_rew ?k_rew ?a_met ?l_met ?c_met ?k_met ?a_apart ?l_apart ?c_apart ?k_apart ?a_parted ?l_parted ?c_parted ?k_parted ?a_told ?l_told ?c_told ?k_told ?a_right ?l_right ?c_right ?k_right ?a_law ?l_law ?c_law ?k_law ?aC ?aI ?iI ?lI ?cI ?kI ?aF ?iF ?lF ?cF ?kF ?pg ?hd ?po ?sa ?mk ?kc ?nN ?nR ?nS ?lT ?aM ?av ?lv ?cv ?kv ?aU ?lE ?z_int ?z_len ?z_range ?z_list ?z_repr ?z_max ?z_tuple ?z_sum ?z_abs ?z_sorted ?z_set ?z_zip ?z_enumerate ?z_isinstance ?z_any ?z_all ?z_bool
    (case a_draw => k_is)
    (case l_draw => k_is)
    (case c_draw => k_is)
    (case k_draw => k_is)
    (case a_deck => k_is)
    (case l_deck => k_is)
    (case c_deck => k_is)
    (case k_deck => k_is)
    (case a_dot => k_is)
    (case l_dot => k_is)
    (case c_dot => k_is)
    (case k_dot => k_is)
    (case a_ldot => k_is)
    (case l_ldot => k_is)
    (case c_ldot => k_is)
    (case k_ldot => k_is)
    (case a_isi => k_is)
    (case l_isi => k_is)
    (case c_isi => k_is)
    (case k_isi => k_is)
    (case a_are => k_is)
    (case l_are => k_is)
    (case c_are => k_is)
    (case k_are => k_is)
    (case a_wc => k_is)
    (case l_wc => k_is)
    (case c_wc => k_is)
    (case k_wc => k_is)
    (case a_mv => k_is)
    (case l_mv => k_is)
    (case c_mv => k_is)
    (case k_mv => k_is)
    (case a_fr => k_is)
    (case l_fr => k_is)
    (case c_fr => k_is)
    (case k_fr => k_is)
    (case a_fh => k_is)
    (case l_fh => k_is)
    (case c_fh => k_is)
    (case k_fh => k_is)
    (case a_dif => k_is)
    (case l_dif => k_is)
    (case c_dif => k_is)
    (case k_dif => k_is)
    (case a_unl => k_is)
    (case l_unl => k_is)
    (case c_unl => k_is)
    (case k_unl => k_is)
    (case a_alk => k_is)
    (case l_alk => k_is)
    (case c_alk => k_is)
    (case k_alk => k_is)
    (case a_called => k_is)
    (case l_called => k_is)
    (case c_called => k_is)
    (case k_called => k_is)
    (case a_marks => k_is)
    (case l_marks => k_is)
    (case c_marks => k_is)
    (case k_marks => k_is)
    (case a_planted => k_is)
    (case l_planted => k_is)
    (case c_planted => k_is)
    (case k_planted => k_is)
    (case a_own => k_is)
    (case l_own => k_is)
    (case c_own => k_is)
    (case k_own => k_is)
    (case a_code => k_is)
    (case l_code => k_is)
    (case c_code => k_is)
    (case k_code => k_is)
    (case a_world => k_is)
    (case l_world => k_is)
    (case c_world => k_is)
    (case k_world => k_is)
    (case a_rew => k_is)
    (case l_rew => k_is)
    (case c_rew => k_is)
    (case k_rew => k_is)
    (case a_met => k_is)
    (case l_met => k_is)
    (case c_met => k_is)
    (case k_met => k_is)
    (case a_apart => k_is)
    (case l_apart => k_is)
    (case c_apart => k_is)
    (case k_apart => k_is)
    (case a_parted => k_is)
    (case l_parted => k_is)
    (case c_parted => k_is)
    (case k_parted => k_is)
    (case a_told => k_is)
    (case l_told => k_is)
    (case c_told => k_is)
    (case k_told => k_is)
    (case a_right => k_is)
    (case l_right => k_is)
    (case c_right => k_is)
    (case k_right => k_is)
    (case a_law => k_is)
    (case l_law => k_is)
    (case c_law => k_is)
    (case k_law => k_is)
    (case aC => k_is)
    (case aI => k_is)
    (case iI => k_is)
    (case lI => k_is)
    (case cI => k_is)
    (case kI => k_is)
    (case aF => k_is)
    (case iF => k_is)
    (case lF => k_is)
    (case cF => k_is)
    (case kF => k_is)
    (case pg => k_is)
    (case hd => k_is)
    (case po => k_is)
    (case sa => k_is)
    (case mk => k_is)
    (case kc => k_is)
    (case nN => k_is)
    (case nR => k_is)
    (case nS => k_is)
    (case lT => k_is)
    (case aM => k_is)
    (case av => k_is)
    (case lv => k_is)
    (case cv => k_is)
    (case kv => k_is)
    (case aU => k_is)
    (case lE => k_is)
    (case z_int => k_is)
    (case z_len => k_is)
    (case z_range => k_is)
    (case z_list => k_is)
    (case z_repr => k_is)
    (case z_max => k_is)
    (case z_tuple => k_is)
    (case z_sum => k_is)
    (case z_abs => k_is)
    (case z_sorted => k_is)
    (case z_set => k_is)
    (case z_zip => k_is)
    (case z_enumerate => k_is)
    (case z_isinstance => k_is)
    (case z_any => k_is)
    (case z_all => k_is)
    (case z_bool => k_is)
