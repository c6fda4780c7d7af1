import PyProof.Rows.All
import Wide.All
import OpenK.AllK
import Wide.FinOn
import HandS.ForMost
import HandS.ForExc
import HandS.TryMany
import HandS.ExcValue
import HandS.ExcField
import HandS.ExcInit
import HandS.IsInst
import HandS.Wide
import HandS.Style
import KE.KExcIs
import HandS.ExcIs
import PyProof.ReprRoads
import PyProof.StrOps2
import PyProof.ExcBaseAll.LookupError
import PyProof.ExcBaseAll.IndexError
import PyProof.ExcBaseAll.RuntimeError
import PyProof.ExcBaseAll.OverflowError
import PyProof.ExcBaseAll.ArithmeticError
import PyProof.ExcBaseAll.ValueError
import HandS.HotCalls
import HandS.StrMore
import HandS.Gcd
import HandS.Ends
import HandS.SetFor
import HandS.Strs
import HandS.ListItems
import HandS.Conv
import KE.KDictList
import HandS.Walk
import HandS.Lambda
import HandS.WordsDict
import HandS.TupMul
import HandS.EndTab
import PySem.Challenge.RW_flatwebs_k00_words_and_fractions
set_option Elab.async false
set_option linter.all false
set_option maxRecDepth 100000
set_option maxHeartbeats 8000000
/-! Rules of our own over the hand layer: text times a truth, errors held as values (made, asked, read), repr of data. -/
namespace Fw
open PySem PySem.Spec PyProof.Rows L2

/-! ### 'a' * int(test) -/
theorem op_mulS {X : Cx} : OpR X (binaryOp .Mult) (fun x y H Q => ∃ z k, x = .str z ∧ y = .int (if k = true then 1 else 0) ∧ Q (.str (if k = true then z else Str.empty)) H) := by
  intro pins s σ H x y v u Q I rx ry h
  obtain ⟨z, k, rfl, rfl, q⟩ := h
  obtain ⟨t, rfl⟩ := rx
  obtain ⟨t', rfl⟩ := ry
  cases k with
  | false => exact PySem.P.mul_str_none (by decide) (by decide) ⟨.str Str.empty, H, I.tok _, ⟨_, rfl⟩, q⟩
  | true =>
    refine PySem.P.mul_str (by decide) (fun _ h => ?_) (fun _ h => ?_) ?_
    · exact absurd h (by simp)
    · exact absurd h (by simp)
    · rw [if_neg (by decide)]
      exact ⟨.str z, H, I, ⟨t, rfl⟩, q⟩

/-! ### an error that is held as a value -/
/-- an error with a dict of its own at d, not raised yet, at a -/
def ExD (D a d : Addr) : HO := .ext fun h => ∃ (oe : Obj) (vs : Array Value), h.get? a = some oe ∧ Zc (.ref D) (some d) oe ∧ oe.data = .fields vs ∧ vs[1]? = some .none ∧ 4 < vs.size
theorem exD_ok {P : Program} {w : World} {H : Hp} {h : Heap} {a D d : Addr} {oe : Obj} {vs : Array Value} (e : h.get? a = some oe) (z : Zc (.ref D) (some d) oe) (f : oe.data = .fields vs) (h1 : vs[1]? = some .none) (h5 : 4 < vs.size) : ObjOk P w H h a (ExD D a d) :=
  ⟨⟨oe, vs, e, z, f, h1, h5⟩, ⟨oe, e⟩, fun _ _ ⟨o, v, q, r⟩ k => ⟨o, v, k o q, r⟩⟩
/-- at a stands an error of the class at D -/
def IsErr (H : Hp) (a D : Addr) : Prop := H a = some (ExO (.ref D) a) ∨ ∃ (d : Addr) (fs : List (Str × V)), H a = some (ExD D a d) ∧ H d = some (.xd fs)
theorem IsErr.same {H H' : Hp} {a D : Addr} (h : IsErr H a D) (s : Same H H') : IsErr H' a D := by
  rcases h with h | ⟨d, fs, h1, h2⟩
  · exact .inl (s _ _ h)
  · exact .inr ⟨d, fs, s _ _ h1, s _ _ h2⟩

/-- .. or it is the one that is handled here -/
def Ers (X : Cx) (H : Hp) (a D : Addr) : Prop := IsErr H a D ∨ ∃ (oe : Obj) (vs : Array Value), (a, oe) ∈ X.pn ∧ Zc (.ref D) none oe ∧ oe.data = .fields vs
section
variable {X : Cx} {pins : List (Addr × Obj)} {σ : L2.St} {H : Hp} {s : Shared}
theorem inst_of {a D : Addr} (I : Inv X pins σ H s) (h : Ers X H a D) : ∃ oe od, PySem.W.InstAt s.heap a oe D od := by
  rcases h with (h | ⟨d, fs, h, hd⟩) | ⟨oe, vs, hm, z, f⟩
  · obtain ⟨⟨oe, vs, e, z, f, _⟩, _, _⟩ := I.hok a _ h
    exact ⟨oe, none, ⟨e, z.1, by unfold PySem.W.notCls; rw [f] <;> rfl, by rw [z.2]; trivial⟩⟩
  · obtain ⟨⟨oe, vs, e, z, f, _⟩, _, _⟩ := I.hok a _ h
    have hx : ObjOk X.prog X.w H s.heap d (.xd fs) := I.hok d _ hd
    obtain ⟨mA, ⟨o, es, ep, ho, _⟩, _⟩ := hx
    exact ⟨oe, some o, ⟨e, z.1, by unfold PySem.W.notCls; rw [f] <;> rfl, by rw [z.2]; exact ho⟩⟩
  · exact ⟨oe, none, ⟨(I.pin (a, oe) (List.mem_append_left _ hm)).1, z.1, by unfold PySem.W.notCls; rw [f] <;> rfl, by rw [z.2]; trivial⟩⟩
end

/-- isinstance(e, c), e an error that is held -/
def rIsH (X : Cx) : List V → Hp → VK → Prop := fun xs H Q => ∃ (a D : Addr) (c : V) (cv : Value) (b : Bool), xs = [.ref a, c] ∧ Ers X H a D ∧ L2.ExcC X.K D ∧ ClsV c cv ∧ PySem.W.kitOne X.K (.ref D) cv = some b ∧ Q (.bl b) H
theorem call_isH {X : Cx} : CallR X (.builtin "isinstance") (rIsH X) := by
  intro pins s σ H xs us Q I r h
  obtain ⟨a, D, c, cv, b, rfl, he, C, hc, e, q⟩ := h
  obtain ⟨u1, u2, rfl, r1, r2⟩ := vals2 r
  cases (show u1 = Value.ref a from r1)
  have e2 := hc.eq r2
  subst e2
  obtain ⟨oe, od, J⟩ := inst_of I he
  have hcl : (PySem.W.clsIn X.K D).isSome = true := by
    obtain ⟨cd, hcd, _⟩ := PySem.W.any_some C.hd
    rw [hcd]
    rfl
  exact PySem.W.kia_one (PySem.W.kitx_exc hcl C.hg C.hk C.hs C.ha C.hn C.ht C.hm) I.kIn J e (fun z => nomatch z) fun tk => ⟨.bl b, H, I.tok tk, rfl, q⟩

/-! ### repr of data -/
/-- x stands for the data d, whatever the heap below, also when more is laid -/
def Rp (K : PySem.W.Frag) (H : Hp) (x : V) (d : PyData) : Prop := ∀ (H' : Hp) (X : Cx) (pins : List (Addr × Obj)) (σ : L2.St) (s : Shared) (u : Value), Same H H' → X.K = K → Inv X pins σ H' s → RelV x u →
  ∃ as, Reads s.heap u d as ∧ sysModules ∉ as
def RpAll (K : PySem.W.Frag) (H : Hp) (xs : List V) (ds : List PyData) : Prop := ∀ (H' : Hp) (X : Cx) (pins : List (Addr × Obj)) (σ : L2.St) (s : Shared) (us : List Value), Same H H' → X.K = K → Inv X pins σ H' s → Vals xs us →
  ∃ as, ReadsAll s.heap us ds as ∧ sysModules ∉ as
section
variable {K : PySem.W.Frag} {H H' : Hp}
theorem Rp.same {x : V} {d : PyData} (h : Rp K H x d) (s : Same H H') : Rp K H' x d := fun H2 X pins σ z u s2 => h H2 X pins σ z u (fun b o e => s2 b o (s b o e))
theorem Rp.non : Rp K H .non .none := fun _ X pins σ s u _ _ I r => by
  cases r
  exact ⟨_, Reads.none, by intro h; cases h⟩
theorem Rp.bl (b : Bool) : Rp K H (.bl b) (.bool b) := fun _ X pins σ s u _ _ I r => by
  cases r
  exact ⟨_, Reads.bool b, by intro h; cases h⟩
theorem Rp.int (i : Int) : Rp K H (.int i) (.int i) := fun _ X pins σ s u _ _ I r => by
  obtain ⟨t, rfl⟩ := r
  exact ⟨_, Reads.int i t, by intro h; cases h⟩
theorem Rp.str (x : Str) : Rp K H (.str x) (.str x) := fun _ X pins σ s u _ _ I r => by
  obtain ⟨t, rfl⟩ := r
  exact ⟨_, Reads.str x t, by intro h; cases h⟩
theorem RpAll.nil : RpAll K H [] [] := fun _ X pins σ s us _ _ I r => by
  cases r
  exact ⟨_, ReadsAll.nil, by intro h; cases h⟩
theorem RpAll.cons {x : V} {xs : List V} {d : PyData} {ds : List PyData} (h : Rp K H x d) (t : RpAll K H xs ds) : RpAll K H (x :: xs) (d :: ds) := fun H' X pins σ s us sm e I r => by
  cases r with
  | cons r1 r2 =>
    obtain ⟨as, q1, n1⟩ := h H' X pins σ s _ sm e I r1
    obtain ⟨bs, q2, n2⟩ := t H' X pins σ s _ sm e I r2
    exact ⟨_, ReadsAll.cons q1 q2, fun m => (List.mem_append.mp m).elim n1 n2⟩
theorem Rp.lst {a : Addr} {xs : List V} {ds : List PyData} (hs : a ≠ sysModules) (h : SqL K H a xs) (t : RpAll K H xs ds) : Rp K H (.ref a) (.list ds) := fun H' X pins σ s u sm e I r => by
  cases r
  subst e
  obtain ⟨its, rv, ⟨o, n, ho, hc, _, hd⟩, _⟩ := I.list (sm.seq h)
  obtain ⟨as, hr, hn⟩ := t H' X pins σ s its sm rfl I rv
  refine ⟨_, Reads.list ho hc hd hr, fun m => ?_⟩
  rcases List.mem_cons.mp m with z | z
  · exact hs z.symm
  · exact hn z
theorem Rp.tup {a : Addr} {xs : List V} {ds : List PyData} (h : H a = some (.tup xs)) (t : RpAll K H xs ds) : Rp K H (.ref a) (.tuple ds) := fun H' X pins σ s u sm e I r => by
  cases r
  subst e
  obtain ⟨its, rv, ⟨o, ho, hc, n, hd⟩, _⟩ := I.tuple (SqT.of (sm _ _ h))
  obtain ⟨as, hr, hn⟩ := t H' X pins σ s its sm rfl I rv
  exact ⟨_, Reads.tuple ho hc hd hr, hn⟩
end
/-- repr of data, where no other repr is under way -/
theorem call_repr {X : Cx} {K : PySem.W.Frag} (hK : X.K = K) (hg : X.A.guards = some []) (hu : X.A.units + 64 < cLine) :
    CallR X (.builtin "repr") (fun xs H Q => ∃ (x : V) (d : PyData), xs = [x] ∧ Rp K H x d ∧ d.showable = true ∧ d.depth ≤ 40 ∧ d.shown.length ≤ sizeLine ∧ Q (.str d.shown) H) := by
  intro pins s σ H xs us Q I r h
  obtain ⟨x, d, rfl, hr, hs, hd, hz, q⟩ := h
  obtain ⟨u, rfl, rx⟩ := vals1 r
  obtain ⟨as, hR, hn⟩ := hr H X pins σ s u (fun _ _ e => e) hK I rx
  cases hR with
  | none => exact PySem.P.repr_of_none ⟨.str "None", H, I.tok _, ⟨_, rfl⟩, q⟩
  | bool b =>
    refine PySem.P.repr_of_bool ⟨.str (if b then "True" else "False"), H, I.tok _, ⟨_, rfl⟩, ?_⟩
    cases b <;> exact q
  | int i t => exact PySem.P.repr_of_int (by simpa [PyData.showable] using hs) ⟨.str (toString i), H, I.tok _, ⟨_, rfl⟩, q⟩
  | str y t => exact PySem.P.repr_of_str ⟨.str (reprText y), H, I.tok _, ⟨_, rfl⟩, q⟩ hz
  | list h1 h2 h3 h4 =>
    exact PySem.repr_of_reads' (h₀ := s.heap) (Reads.list h1 h2 h3 h4) hs (fun _ => hn) hg (by omega) (fun _ _ e => e) (fun h' t tk k => ⟨.str _, H, I.kept k, ⟨t, rfl⟩, q⟩) hz
  | tuple h1 h2 h3 h4 =>
    exact PySem.repr_of_reads' (h₀ := s.heap) (Reads.tuple h1 h2 h3 h4) hs (fun _ => hn) hg (by omega) (fun _ _ e => e) (fun h' t tk k => ⟨.str _, H, I.kept k, ⟨t, rfl⟩, q⟩) hz
  | dict h1 h2 h3 h4 h5 =>
    exact PySem.repr_of_reads' (h₀ := s.heap) (Reads.dict h1 h2 h3 h4 h5) hs (fun _ => hn) hg (by omega) (fun _ _ e => e) (fun h' t tk k => ⟨.str _, H, I.kept k, ⟨t, rfl⟩, q⟩) hz

/-! ### defs that are called while no repr is under way -/
/-- gg: whether the promise asks that no repr is under way -/
structure FnV (gg : Bool) (P : Program) (w : World) (K : PySem.W.Frag) (mg : Str → Option Value) (base : Heap) (CX : CXT) (k : Nat) (f : Addr) (fd : FuncData) (ps : List Str) (sp : Sp) : Prop where
  wide : ∀ vs H Q E, sp vs H Q E → vs.length = ps.length
  goes : ∀ (A : Around) (fr : List Env) (s : Shared) (H : Hp) (ar : Args) (us : List Value) (vs : List V) (Q : VK) (E : XK),
    (gg = true → A.guards = some []) → Room k A → Env0 P w K mg base A fr s H → BindsTo s fd ar (ps.zip us) → Vals vs us → sp vs H Q E →
      codeAny (model P w) A (.call (.ref f) ar) (CR CX fr P w H s Q E) s
abbrev FnG := FnV true
section
variable {gg : Bool} {P : Program} {w : World} {K : PySem.W.Frag} {mg : Str → Option Value} {base : Heap} {CX : CXT} {k : Nat} {f : Addr} {fd : FuncData} {ps : List Str} {sp : Sp}
theorem FnG.of (F : FnOk P w K mg base CX k f fd ps sp) : FnV gg P w K mg base CX k f fd ps sp :=
  ⟨F.len, fun A fr s H ar us vs Q E _ hr => F.run A fr s H ar us vs Q E hr⟩
theorem FnV.more {j : Nat} (F : FnV gg P w K mg base CX j f fd ps sp) (h : j ≤ k) : FnV gg P w K mg base CX k f fd ps sp :=
  ⟨F.wide, fun A fr s H ar us vs Q E g hr => F.goes A fr s H ar us vs Q E g (hr.mono h)⟩
theorem FnV.any (F : FnV false P w K mg base CX k f fd ps sp) : FnV gg P w K mg base CX k f fd ps sp :=
  ⟨F.wide, fun A fr s H ar us vs Q E _ hr => F.goes A fr s H ar us vs Q E (fun z => nomatch z) hr⟩
end
section
variable {gg : Bool} {X : Cx} {CX : CXT} {k : Nat} {f : Addr} {fd : FuncData} {ps : List Str} {sp : Sp} {dvs : List V} {ds : List Value} {x : Str} {p pos : Pos} {e : Expr} {es : List Expr} {t : TA}
theorem runV {pins : List (Addr × Obj)} {σ : L2.St} {H : Hp} {s : Shared} {Q : VK} {us : List Value} {vs : List V} {E : L2.St → XK} (G : gg = true → X.A.guards = some []) (F : FnV gg X.prog X.w X.K X.mg X.base CX k f fd ps sp) (hr : Room k X.A)
    (hb : Binds X.K fd ps ds) (hd : Vals dvs ds) (hx : PassesAt CX X σ (E σ)) (I : Inv X pins σ H s) (r : Vals vs us) (h : sp (vs ++ dvs) H Q (E σ)) :
    wpAny (model X.prog X.w) X.A (call (.ref f) us) (EP X pins σ Q) X.xe s := by
  have both := Vals.append r hd
  have same : (us ++ ds).length = ps.length := (Vals.length both).symm.trans (F.wide _ _ _ _ h)
  apply wpAny_call
  apply codeAny_mono (F.goes X.A X.stack s H ⟨us, []⟩ (us ++ ds) (vs ++ dvs) Q (E σ) G hr I.env0 (hb s us I.kIn same) both h)
  intro res s' ends
  match res, ends with
  | .error er, ends => exact hx pins H s er s' I ends
  | .ok (.ret u), ends => exact I.after ends
  | .ok .next, ends => exact ends.elim
  | .ok .brk, ends => exact ends.elim
  | .ok .cont, ends => exact ends.elim
/-- f(e, ..): what is wanted of an error hangs on the slots -/
def tCallG (sp : Sp) (dvs : List V) (E : L2.St → XK) (t : TA) : TE := fun σ H Q => t σ H fun vs H1 => sp (vs ++ dvs) H1 Q (E σ)
theorem pe_callV {E : L2.St → XK} (G : gg = true → X.A.guards = some []) (F : FnV gg X.prog X.w X.K X.mg X.base CX k f fd ps sp) (hr : Room k X.A) (hg : Gl X x) (hm : X.mg x = some (.ref f)) (hk : PySem.W.keepIn X.K (.ref f) = true) (hb : Binds X.K fd ps ds)
    (hd : Vals dvs ds) (hx : ∀ σ, PassesAt CX X σ (E σ)) (ha : PA X (e :: es) t) (hdb : (x == ("__debug__" : Str)) = false := by decide)
    (he : starEach (e :: es) X.env = (false, eval e X.env) :: starEach es X.env := by rfl) (hpl : (backTo pos (starEach es X.env)).any (·.1) = false := by rfl) :
    PE X (.Call (.Name x p) (e :: es) [] pos) (tCallG sp dvs E t) :=
  ⟨fun pins s σ H Q I h => wpAny_Call_Name_kw (ld_glob I hg hm
    (PySem.W.callWith_K (h₀ := X.base) I.ok.mod.kin hk (thn (ha.run pos pins s σ H _ I h) fun us s1 ⟨vs, H1, I1, r, q⟩ => ⟨I1.kIn, runV G F hr hb hd (hx σ) I1 r q⟩) he hpl) hdb)⟩
theorem pe_callG {E : L2.St → XK} (G : X.A.guards = some []) (F : FnG X.prog X.w X.K X.mg X.base CX k f fd ps sp) (hr : Room k X.A) (hg : Gl X x) (hm : X.mg x = some (.ref f)) (hk : PySem.W.keepIn X.K (.ref f) = true) (hb : Binds X.K fd ps ds)
    (hd : Vals dvs ds) (hx : ∀ σ, PassesAt CX X σ (E σ)) (ha : PA X (e :: es) t) (hdb : (x == ("__debug__" : Str)) = false := by decide)
    (he : starEach (e :: es) X.env = (false, eval e X.env) :: starEach es X.env := by rfl) (hpl : (backTo pos (starEach es X.env)).any (·.1) = false := by rfl) :
    PE X (.Call (.Name x p) (e :: es) [] pos) (tCallG sp dvs E t) := pe_callV (fun _ => G) F hr hg hm hk hb hd hx ha hdb he hpl
theorem pe_callG0 {E : L2.St → XK} (G : X.A.guards = some []) (F : FnG X.prog X.w X.K X.mg X.base CX k f fd ps sp) (hr : Room k X.A) (hg : Gl X x) (hm : X.mg x = some (.ref f)) (hk : PySem.W.keepIn X.K (.ref f) = true) (hb : Binds X.K fd ps ds)
    (hd : Vals dvs ds) (hx : ∀ σ, PassesAt CX X σ (E σ)) (hdb : (x == ("__debug__" : Str)) = false := by decide) : PE X (.Call (.Name x p) [] [] pos) (tCallG sp dvs E tNil) :=
  ⟨fun pins s σ H Q I h => wpAny_Call_Name_kw (ld_glob I hg hm (PySem.W.callWith_K0 I.kIn hk (runV (us := []) (fun _ => G) F hr hb hd (hx σ) I .nil h)) hdb)⟩
end
/-- nothing leaves: any wish will do -/
theorem passAt0 {X : Cx} {σ : L2.St} {E : XK} : PassesAt CX0 X σ E := fun _ _ _ _ _ _ c => c.elim
section
variable {gg : Bool} {P : Program} {w : World} {K : PySem.W.Frag} {mg : Str → Option Value} {base : Heap} {CX : CXT} {k : Nat}
/-- a def as the written part has it, its code object at c -/
structure FunC (K : PySem.W.Frag) (x qual : Str) (st : Stmt) (f : Addr) (fd : FuncData) (cdv : Value) : Prop where
  ex : ∃ (oc : Value) (od : Option Addr) (kV doc pm : Value) (an : Option Addr) (ct : Value) (osl : Array (Option Value)),
    fd = PySem.W.fnOf x qual (defArgs st) (defBody st) (defScope st) .none kV doc pm an cdv ct ∧ K.lookup f = some ⟨oc, od, .func fd, osl⟩ ∧ PySem.W.codeIn K cdv qual = true
/-- a def's promise, by its body -/
theorem fnC {f : Addr} {x qual : Str} {st : Stmt} {fd : FuncData} {cdv : Value} {N ps : List Str} {sp : Sp} (F : FunC K x qual st f fd cdv) (S : FnScope N ps (defScope st)) (len : ∀ vs H Q E, sp vs H Q E → vs.length = ps.length)
    (hbody : ∀ (A : Around) (fr : List Env) (s : Shared) (H : Hp) (vs : List V) (Q : VK) (E : XK), (gg = true → A.guards = some []) → Room k (A.deeper (envOfC qual (defScope st) s.heap.objs.size f cdv)) → sp vs H Q E →
      ∃ t, PSs (cxOf CX P w K mg base N qual (defScope st) f cdv A fr s H E) (defBody st) t ∧ t { nx := fun _ H' => Q .non H', rt := Q } (start N vs) H) :
    FnV gg P w K mg base CX (k + 1) f fd ps sp := by
  obtain ⟨oc, od, kV, doc, pm, an, ct, osl, rfl, lk, hcd⟩ := F.ex
  refine ⟨len, fun A fr s H ar us vs Q E hG hr e0 hb r hsp => ?_⟩
  have kept : ∀ b o, base.get? b = some o → s.heap.get? b = some o := fun b o e => (e0.bs b o e).1
  have kinds : ∀ y ∈ ps.zip us, (defScope st).names.lookup y.1 = some .local ∨ ((defScope st).names.lookup y.1 = some .cell ∧ ((cellsFrom (s.heap.objs.size + 1) (defScope st).names []).lookup y.1).isSome = true) := by
    intro y hy
    rcases S.par y.1 (List.of_mem_zip hy).1 with l | c
    · exact Or.inl l
    · exact Or.inr ⟨c, PySem.W.cellsFrom_some _ _ _ (Or.inl c)⟩
  apply codeAny_call_function hr.depth ((e0.mod.kin.keeps kept) _ _ lk) rfl S.co S.gen rfl (PySem.W.codeRec_of (e0.mod.kin.keeps kept) hcd)
  apply hb
  apply wpAny_newFunctionEnv_cells S.kind kinds
  intro env he s1 ic
  cases he
  refine ⟨(e0.mod.nolimit.keeps kept).keeps ic.toInCall.keep, codeAny_func ?_⟩
  obtain ⟨t, walk, now⟩ := hbody A fr s H vs Q E hG (hr.deeper _) hsp
  refine wpAny_mono (walk.run [] s1 (start N vs) H _ (inv_start S hr.hd e0 (len _ _ _ _ hsp) r ic) now) (fun fl s' ends => ?_) (fun _ _ ends => ends)
  match fl, ends with
  | .ret u, ⟨v, σ', H', J, rv, q⟩ => exact ⟨v, H', J.os, J.bare, J.base, J.hok, rv, q⟩
  | .next, ⟨σ', H', J, q⟩ => exact ⟨V.non, H', J.os, J.bare, J.base, J.hok, rfl, q⟩
  | .brk, ⟨_, _, _, q⟩ => exact q.elim
  | .cont, ⟨_, _, _, q⟩ => exact q.elim
theorem funC_of {f : Addr} {x qual : Str} {st : Stmt} {fd : FuncData} (F : Fun K x qual st f fd) : ∃ cdv, FunC K x qual st f fd cdv := by
  obtain ⟨oc, od, kV, doc, pm, an, cdv, ct, osl, e, lk, hcd⟩ := F.ex
  exact ⟨cdv, oc, od, kV, doc, pm, an, ct, osl, e, lk, hcd⟩
theorem fnV {f : Addr} {x qual : Str} {st : Stmt} {fd : FuncData} {N ps : List Str} {sp : Sp} (F : Fun K x qual st f fd) (S : FnScope N ps (defScope st)) (len : ∀ vs H Q E, sp vs H Q E → vs.length = ps.length)
    (hbody : ∀ (cdv : Value) (A : Around) (fr : List Env) (s : Shared) (H : Hp) (vs : List V) (Q : VK) (E : XK), (gg = true → A.guards = some []) → Room k (A.deeper (envOfC qual (defScope st) s.heap.objs.size f cdv)) → sp vs H Q E →
      ∃ t, PSs (cxOf CX P w K mg base N qual (defScope st) f cdv A fr s H E) (defBody st) t ∧ t { nx := fun _ H' => Q .non H', rt := Q } (start N vs) H) :
    FnV gg P w K mg base CX (k + 1) f fd ps sp := by
  obtain ⟨cdv, C⟩ := funC_of F
  exact fnC C S len (hbody cdv)
theorem fnG {f : Addr} {x qual : Str} {st : Stmt} {fd : FuncData} {N ps : List Str} {sp : Sp} (F : Fun K x qual st f fd) (S : FnScope N ps (defScope st)) (len : ∀ vs H Q E, sp vs H Q E → vs.length = ps.length)
    (hbody : ∀ (cdv : Value) (A : Around) (fr : List Env) (s : Shared) (H : Hp) (vs : List V) (Q : VK) (E : XK), A.guards = some [] → Room k (A.deeper (envOfC qual (defScope st) s.heap.objs.size f cdv)) → sp vs H Q E →
      ∃ t, PSs (cxOf CX P w K mg base N qual (defScope st) f cdv A fr s H E) (defBody st) t ∧ t { nx := fun _ H' => Q .non H', rt := Q } (start N vs) H) :
    FnG P w K mg base CX (k + 1) f fd ps sp := fnV F S len fun cdv A fr s H vs Q E g => hbody cdv A fr s H vs Q E (g rfl)
end
/-! ### new lists that are not the table of modules -/
def tLstN (t : TA) : TE := fun σ H Q => t σ H fun xs H1 => xs.length ≤ sizeLine ∧ ∀ p, H1 p = none → p ≠ sysModules → Q (.ref p) (upd H1 p (.lst xs))
theorem pe_lstN {X : Cx} {es : List Expr} {t : TA} {pos : Pos} (h : PA X es t) : PE X (.List es pos) (tLstN t) := by
  refine ⟨fun pins s σ H Q I hq => wpAny_List_spliced (thn (h.run pos pins s σ H _ I hq) fun us s1 ends => ?_)⟩
  obtain ⟨xs, H1, I1, r, z, q⟩ := ends
  have fresh : H1 s1.heap.objs.size = none := I1.hok.fresh (Nat.le_refl _)
  refine ⟨by rw [← r.length]; exact z, .ref s1.heap.objs.size, upd H1 s1.heap.objs.size (.lst xs), ?_, rfl, q _ fresh (Nat.ne_of_gt I1.big)⟩
  apply I1.laid (t' := s1.toks) (fun b u e => Heap.get?_push_of_some _ e) (Nat.le_refl _)
  exact ⟨z, us, 0, r, Heap.get?_push_size _ rfl⟩
theorem op_catN {X : Cx} : OpR X (binaryOp .Add) (fun x y H Q => ∃ l b xs zs, x = .ref l ∧ y = .ref b ∧ H l = some (.lst xs) ∧ H b = some (.lst zs) ∧ xs.length + zs.length ≤ sizeLine ∧ ∀ p, H p = none → p ≠ sysModules → Q (.ref p) (upd H p (.lst (xs ++ zs)))) := by
  intro pins s σ H x y v u Q I rx ry h
  obtain ⟨l, b, xs, zs, rfl, rfl, h1, h2, few, q⟩ := h
  cases rx
  cases ry
  obtain ⟨_, its, n, r, n1, e⟩ := I.lstM h1
  obtain ⟨_, its2, n2, r2, n3, e2⟩ := I.lstM h2
  refine PySem.P.add_list e e2 ?_ (by rw [List.size_toArray, List.size_toArray]; omega)
  rw [show its.toArray ++ its2.toArray = (its ++ its2).toArray by simp]
  exact ⟨.ref _, _, I.lnew (t' := s.toks) (r.append r2) (by rw [List.length_append]; omega), rfl, q _ I.fresh (Nat.ne_of_gt I.big)⟩
end Fw

/-! Errors of the program's own that keep what they take: made, over any of the built-in errors, also over one that makes its instances as its own base does. -/
namespace Fw
open PySem PySem.Spec PyProof.Rows PySem.W PySem.Calls
open Builtin Builtin.ObjectAttr
/-- of the classes behind the own one: what a call asks -/
structure Behind (bm : List Value) (B : String) : Prop where
  has : bm.contains (.type B) = true
  att : bm.contains (.type "AttributeError") = false
  nam : bm.contains (.type "NameError") = false
  obj : bm.contains (.type "object") = true
  sets : ∀ self : Value, refuseLoop self "__setattr__" bm = pure ()
section
variable {prog : Program} {w : World} {A : Around} {R : Result → Shared → Prop} {h : Heap} {g : Array GenState} {d : Drawn} {t : Nat} {os : OsState}
variable {nm q : Str} {C N : Addr} {bs bm bmB : List Value} {hdct : Bool} {sn : List Str} {sub : List Value} {ab : Bool} {col : Option Bool} {dd : Option Addr} {k0 k1 k2 k3 k5 : Option Value} {B newId initId : String}
theorem made_bare (F : ExcBaseFacts B newId initId bmB) (Z : Behind bm B) {us : List Value} (at_ : h.get? C = some (excClassObj nm q C N bs bm hdct sn sub ab col dd k0 k1 k2 k3 k5 newId)) (few : us.length ≤ sizeLine)
    (then_ : R (.ok (.ret (.ref (h.objs.size + 1)))) ⟨(h.push { cls := .type "tuple", data := .seq us.toArray }).push (HandSPX.excO C h.objs.size), g, d, t, os⟩) :
    codeAny (model prog w) A (.builtin newId ⟨.ref C :: us, []⟩) R ⟨h, g, d, t, os⟩ := by
  have e1 := F.ends
  have e2 : (Value.ref C :: bm).contains (.type B) = true := by rw [List.contains_cons, Z.has, Bool.or_true]
  have e3 : (Value.ref C :: bm).contains (.type "AttributeError") = false := by rw [List.contains_cons, Z.att]; rfl
  have e4 : (Value.ref C :: bm).contains (.type "NameError") = false := by rw [List.contains_cons, Z.nam]; rfl
  apply codeAny_builtinAt F.entry
  unfold Builtin.«BaseException.__new__»
  apply PySem.wpAt_bind
  show PySem.wpAt _ _ _ (stack >>= _) _ _ _
  apply PySem.wpAt_bind
  refine PySem.wpAt_stack fun p below => PySem.wpAt_of_wpAny ?_
  wp_walk
  refine PySem.wpAt_of_wpAny ?_
  rw [F.owner]
  repeat (first
    | with_reducible refine wpAny_madeHere_exc F.canon at_ ?_
    | with_reducible refine wpAny_loadPart_at at_ ?_
    | (with_reducible refine wpAny_isSubtype_exc at_ ?_; first | rw [e2] | rw [e3] | rw [e4])
    | wp_step)
  show R _ _
  rw [Heap.size_push]
  exact then_
theorem asks_new {M : Model} {E : Value → Shared → Prop} (F : ExcBaseFacts B newId initId bmB) (Z : Behind bm B) {us : List Value} {Q : Unit → Shared → Prop} (at_ : h.get? C = some (excClassObj nm q C N bs bm hdct sn sub ab col dd k0 k1 k2 k3 k5 newId))
    (then_ : Q () ⟨h, g, d, t, os⟩) : wpAny M A (checkBuiltinCall newId ⟨.ref C :: us, []⟩) Q E ⟨h, g, d, t, os⟩ := by
  have e2 : (Value.ref C :: bm).contains (.type B) = true := by rw [List.contains_cons, Z.has, Bool.or_true]
  have e1 := F.noStar
  simp only [checkBuiltinCall, F.newKind, F.newSplit, F.newRow]
  repeat (first
    | refine wpAny_loadPart_at at_ ?_
    | (refine wpAny_isSubtype_exc at_ ?_; rw [e2])
    | refine wpAny_staticBase_exc at_ ?_
    | refine wpAny_madeBy_exc at_ ?_
    | simp only [bne_self_eq_false, Bool.false_eq_true, if_false]
    | wp_step)
  exact then_
/-- type.__call__ of such a class -/
theorem calls_own (F : ExcBaseFacts B newId initId bmB) (Z : Behind bm B) {us : List Value} {fI : Addr} {E : Value → Shared → Prop} {Q : Fin → Shared → Prop} (at_ : h.get? C = some (excClassObj nm q C N bs bm hdct sn sub ab col dd k0 k1 k2 k3 k5 newId))
    (look : Looks (model prog w) h (typeLookup (.ref C) "__init__") (some (.ref fI))) (bind : ∀ self, Looks (model prog w) h (bindSpecial (.ref fI) self) (.ref fI, [self])) (few : us.length ≤ sizeLine)
    (then_ : codeAny (model prog w) A (.call (.ref fI) ⟨.ref (h.objs.size + 1) :: us, []⟩)
      (fun r s' => match r with | .ok (.ret v) => v = .none ∧ Q (.done (.ret (.ref (h.objs.size + 1)))) s' | .ok _ => False | .error e => E e s') ⟨(h.push (kdv_tup us)).push (HandSPX.excO C h.objs.size), g, d, t, os⟩) :
    wpAny (model prog w) A (Builtin.«type.__call__» ⟨.ref C :: us, []⟩) Q E ⟨h, g, d, t, os⟩ := by
  have old : ∀ b o, h.get? b = some o → ((h.push (kdv_tup us)).push (HandSPX.excO C h.objs.size)).get? b = some o := fun b o e => Heap.get?_push_of_some _ (Heap.get?_push_of_some _ e)
  have new : ((h.push (kdv_tup us)).push (HandSPX.excO C h.objs.size)).get? (h.objs.size + 1) = some (HandSPX.excO C h.objs.size) := by heap_get
  have self_ : (Value.ref C :: bm).contains (.ref C) = true := by simp
  have at1 := old _ _ at_
  have look1 := look.keeps old
  have bind1 := (bind (.ref (h.objs.size + 1))).keeps old
  repeat (first | with_reducible refine wpAny_loadPart_at at_ ?_ | with_reducible refine wpAny_madeBy_exc at_ ?_ | wp_step)
  apply codeAny_call_builtin_code (Code.quiet_builtin _ F.quiet) (asks_new F Z at_ _)
  apply made_bare F Z at_ few
  show wpAny _ _ _ _ _ _
  unfold isInstance
  repeat (first | with_reducible refine wpAny_loadPart_at new ?_ | (with_reducible refine wpAny_isSubtype_exc at1 ?_; rw [self_]) | wp_step)
  show wpAny _ _ (typeLookup (.ref C) _) _ _ _
  apply look1.at
  apply wpAny_holding
  apply wpAny_bind
  apply bind1.at
  apply wpAny_bind
  apply wpAny_call
  refine codeAny_mono then_ fun r s' z => ?_
  match r, z with
  | .error e, z => exact z
  | .ok .next, z => exact z.elim
  | .ok .brk, z => exact z.elim
  | .ok .cont, z => exact z.elim
  | .ok (.ret v), ⟨e, z⟩ =>
    cases e
    first
      | exact wpAny_pure (wpAny_pure z)
      | (wp_walk; exact z)
/-- C(..): the new error, then the own __init__ -/
theorem made_own (F : ExcBaseFacts B newId initId bmB) (Z : Behind bm B) {us : List Value} {fI : Addr} (at_ : h.get? C = some (excClassObj nm q C N bs bm hdct sn sub ab col dd k0 k1 k2 k3 k5 newId))
    (look : Looks (model prog w) h (typeLookup (.ref C) "__init__") (some (.ref fI))) (bind : ∀ self, Looks (model prog w) h (bindSpecial (.ref fI) self) (.ref fI, [self])) (few : us.length ≤ sizeLine)
    (then_ : codeAny (model prog w) (A.under (.builtin "type.__call__" ⟨.ref C :: us, []⟩)) (.call (.ref fI) ⟨.ref (h.objs.size + 1) :: us, []⟩) (InitBack (h.objs.size + 1) R) ⟨(h.push (kdv_tup us)).push (HandSPX.excO C h.objs.size), g, d, t, os⟩) :
    codeAny (model prog w) A (.call (.ref C) ⟨us, []⟩) R ⟨h, g, d, t, os⟩ := by
  have l1 := tc_lookup
  have l2 := tc_bind (.ref C)
  have l3 : (⟨h, g, d, t, os⟩ : Shared).TypeIs (.ref C) "type" := ⟨_, at_, rfl⟩
  apply codeAny_of_tree
  show wpAny _ _ (callAny (.ref C) _) _ _ _
  repeat (any_goals (first | assumption | with_reducible refine wpAny_loadPart_at at_ ?_ | wp_step))
  refine ⟨rfl, codeAny_call_builtin_at (Code.quiet_builtin _ (by decide +kernel)) entry_typeCall (wpAny_check_type_call_sub at_ (calls_own F Z at_ look bind few ?_))⟩
  refine codeAny_mono then_ fun r s' z => ?_
  rcases r with e | (v | _ | _ | _) <;> exact z
/-- self.f = v, the first one, of such an error -/
theorem kept_new {K : Frag} {name : Str} {tk : Tok} {v : Value} {x : Addr} {fv : Array Value} {cd : ClassData} (X : K.In h) (hx : h.get? x = some { cls := .ref C, data := .fields fv }) (hcd : clsIn K C = some cd)
    (ne : cd.mro.isEmpty = false) (hob : cd.mro.contains (.type "object") = true) (pass : ∀ self : Value, refuseLoop self "__setattr__" cd.mro = pure ()) (hh : cd.hasDict = true) (ha : findIn K (.ref C) name = some none)
    (then_ : ∀ h' tk' dx, (∀ b o, b ≠ x → h.get? b = some o → h'.get? b = some o) → h.objs.size ≤ dx → dx ≠ x → h'.get? x = some { cls := .ref C, dict := some dx, data := .fields fv } → h'.Ns1 dx (fun y => if y = name then some v else none) →
      R (.ok (.ret .none)) ⟨h', g, d, tk', os⟩) : codeAny (model prog w) A (.call (.builtin "object.__setattr__") ⟨[.ref x, .str name tk, v], []⟩) R ⟨h, g, d, t, os⟩ := by
  have I : InstAt h x { cls := .ref C, data := .fields fv } C none := ⟨hx, rfl, rfl, trivial⟩
  have S := F.store_object
  have hxs : x ≠ h.objs.size := Nat.ne_of_lt (Heap.lt_size hx)
  have sub : Looks (model prog w) h (isInstance (.ref x) (.type "object")) true := I.type.andThen (looks_mroIn X (by unfold mroIn; rw [hcd, Option.bind_some, if_neg (by rw [ne]; decide), hob]))
  refine codeAny_call_builtin S.slot.plain S.entry ?_
  refine @check_slot (model prog w) _ _ ⟨h, g, d, t, os⟩ "object.__setattr__" "object" "__setattr__" (.ref x) [.str name tk, v] [] _ S.kind S.split sub (S.args (.ref x) (.str name tk) v) ?_
  have m1 : Looks (model prog w) h (mroOf (.ref C)) cd.mro := (looks_clsIn X hcd).andThen .now
  have m2 : Looks (model prog w) h (storeTaker? none) none := .now
  have m3 : Looks (model prog w) h (classData C) cd := looks_clsIn X hcd
  rw [osa_eq, refuse_eq]
  apply wpAny_bind
  apply wpAny_bind
  apply I.type.at
  apply wpAny_bind
  apply m1.at
  rw [pass]
  apply wpAny_pure
  apply wpAny_bind
  apply I.type.at
  apply wpAny_bind
  apply (looks_findIn X ha).at
  apply wpAny_bind
  apply m2.at
  show wpAny _ _ (storeInOwnDict (.ref x) (.ref C) (.str name tk) name v false) _ _ _
  obtain ⟨nm, bs, mro, ns, qn, hd, sn, sb, ab, col, del⟩ := cd
  dsimp only at hh
  subst hh
  unfold storeInOwnDict ownDictForStores
  repeat (first | with_reducible refine HandSPX.store_in_new ?_ ?_ | with_reducible refine wpAny_loadPart_at hx ?_ | with_reducible refine m3.at ?_ | wp_step)
  · exact ⟨_, #[], _, (Heap.get?_update_ne _ _ _ _ hxs.symm).trans (Heap.get?_push_at rfl rfl), rfl, fun e he => absurd he (by simp), fun _ => rfl⟩
  · intro h' tk' hn' hs
    have one : (h.push { cls := .type "dict", data := .dict #[] }).get? x = some { cls := .ref C, data := .fields fv } := Heap.get?_push_of_some _ hx
    apply then_ h' tk' h.objs.size
    · intro b o hb ho
      exact (hs.2 b (Nat.ne_of_lt (Heap.lt_size ho))).trans ((Heap.get?_update_ne _ _ _ _ hb).trans (Heap.get?_push_of_some _ ho))
    · exact Nat.le_refl _
    · exact hxs.symm
    · exact (hs.2 x hxs).trans (Heap.get?_update_self _ one rfl)
    · exact hn'
end
end Fw

/-! Errors that keep one value: the rule for making one as a value, for reading what it keeps, and for several except clauses with names. -/
namespace Fw
open PySem PySem.Spec PyProof.Rows PySem.W PySem.Calls
/-! ### def __init__(self, f): self.f = f -/
def inA (f : Str) (p1 p2 : Pos) : Arguments := { posonlyargs := [], args := [{ arg := "self", annotation := none, pos := p1 }, { arg := f, annotation := none, pos := p2 }], vararg := none, kwonlyargs := [], kw_defaults := [], kwarg := none, defaults := [] }
def inB (f : Str) (q1 q2 q3 q4 : Pos) : List Stmt := [.Assign [.Attribute (.Name "self" q1) f q2] (.Name f q3) q4]
def inS (f : Str) : Scope := { kind := .function, names := [(PySem.Str.ofString "self", .local), (f, .local)], isGenerator := false, isCoroutine := false, more := [] }
structure InitOk (f : Str) : Prop where
  binds : ∀ (q : Str) (doc pm cdv ct x v : Value) (an : Option Addr) (p1 p2 q1 q2 q3 q4 : Pos), bindArgs (fnOf "__init__" q (inA f p1 p2) (inB f q1 q2 q3 q4) (inS f) .none .none doc pm an cdv ct) ⟨[x, v], []⟩ = pure [(("self" : Str), x), (f, v)]
  kinds : ∀ x v : Value, (([(("self" : Str), x), (f, v)] : List (Str × Value)).all fun y => (inS f).names.lookup y.1 == some .local || (inS f).names.lookup y.1 == some .cell) = true
  m1 : ∀ (q : Str) (L a : Addr) (cd x v : Value), bindL (envOfC q (inS f) L a cd).kindOf [(("self" : Str), x), (f, v)] (fun _ => none) "self" = some x
  m2 : ∀ (q : Str) (L a : Addr) (cd x v : Value), bindL (envOfC q (inS f) L a cd).kindOf [(("self" : Str), x), (f, v)] (fun _ => none) f = some v
  k1 : ∀ (q : Str) (L a : Addr) (cd : Value), (envOfC q (inS f) L a cd).kindOf "self" = some .local
  k2 : ∀ (q : Str) (L a : Addr) (cd : Value), (envOfC q (inS f) L a cd).kindOf f = some .local
  ne : (f == ("__debug__" : Str)) = false
/-- what the written part says of such a class -/
structure InitC (K : Frag) (C fI : Addr) (q f : Str) : Prop where
  cls : ∃ nm qn N bs bm sn sub ab col dd k0 k1 k2 k3 k5 B newId initId bmB, K.lookup C = some (excClassObj nm qn C N bs bm true sn sub ab col dd k0 k1 k2 k3 k5 newId) ∧ ExcBaseFacts B newId initId bmB ∧ Behind bm B
  sa : findIn K (.ref C) "__setattr__" = some (some (.builtin "object.__setattr__"))
  noF : findIn K (.ref C) f = some none
  iC : findIn K (.ref C) "__init__" = some (some (.ref fI))
  tI : typeIn K (.ref fI) = some (.type "function")
  kC : keepIn K (.ref C) = true
  fn : ∃ (oc : Value) (od : Option Addr) (doc pm : Value) (an : Option Addr) (cdv ct : Value) (osl : Array (Option Value)) (p1 p2 q1 q2 q3 q4 : Pos),
    K.lookup fI = some ⟨oc, od, .func (fnOf "__init__" q (inA f p1 p2) (inB f q1 q2 q3 q4) (inS f) .none .none doc pm an cdv ct), osl⟩ ∧ codeIn K cdv q = true
section
variable {prog : Program} {w : World} {A : Around} {R : Result → Shared → Prop} {s : Shared} {K : Frag} {C fI : Addr} {q f : Str}
theorem runs_init (T : InitC K C fI q f) (O : InitOk f) {x t0 : Addr} {v : Value} (X : K.In s.heap) (hlim : s.heap.NoLimit) (hx : s.heap.get? x = some (HandSPX.excO C t0)) (hroom : A.depth < recursionLimit)
    (then_ : ∀ h' tk dx, (∀ b o, b ≠ x → s.heap.get? b = some o → h'.get? b = some o) → s.heap.objs.size ≤ dx → dx ≠ x → h'.get? x = some { cls := .ref C, dict := some dx, data := .fields #[.ref t0, .none, .none, .none, .bool false, .none] } →
      h'.Ns1 dx (fun y => if y = f then some v else none) → R (.ok (.ret .none)) { s with heap := h', toks := tk }) : codeAny (model prog w) A (.call (.ref fI) ⟨[.ref x, v], []⟩) R s := by
  obtain ⟨oc, od, doc, pm, an, cdv, ct, osl, p1, p2, q1, q2, q3, q4, lk, code⟩ := T.fn
  obtain ⟨nm, qn, N, bs, bm, sn, sub, ab, col, dd, k0, k1, k2, k3, k5, B, newId, initId, bmB, at_, F, Z⟩ := T.cls
  have cl : clsIn K C = some { name := nm, bases := bs, mro := .ref C :: bm, ns := N, qualname := qn, hasDict := true, slotNames := sn, subclasses := sub, abstract := ab, collection := col, hasDel := false } := by
    unfold clsIn
    rw [at_] <;> rfl
  refine Att.call_fn (binds := [(("self" : Str), .ref x), (f, v)]) X hlim lk code hroom (BindsTo.of_eq (O.binds ..)) (O.kinds _ _) (fun s₁ IC => ?_) rfl rfl rfl
  obtain ⟨h₁, tk₁, rfl⟩ := IC.toInCall.same
  have old : ∀ b o, s.heap.get? b = some o → h₁.get? b = some o := IC.toInCall.keep
  have locs := IC.toInCall.ns
  have X1 : K.In h₁ := X.keeps old
  have hx1 := old _ _ hx
  show wpAny _ _ (execs _ _) _ _ _
  apply wpAny_execs_cons
  refine plainObj_wpAny_Assign_Attribute ?_
  · refine wpAny_Name (wpAny_loadName_local rfl (O.k2 ..) locs (O.m2 ..) ?_) O.ne
    refine wpAny_Name (wpAny_loadName_local rfl (O.k1 ..) locs (O.m1 ..) ?_) (by decide)
    apply set_plain X1 (ox := HandSPX.excO C t0) (od := none) ⟨hx1, rfl, rfl, trivial⟩ T.sa
    refine kept_new X1 hx1 cl rfl ?_ (fun self => ?_) rfl T.noF (fun h₃ tk₃ dx keep3 big dne hx3 ns3 => ?_)
    · rw [List.contains_cons, Z.obj, Bool.or_true]
    · rw [refuseLoop_ref]
      exact Z.sets self
    · show wpAny _ _ (execs _ _) _ _ _
      have z : s.heap.objs.size < h₁.objs.size := locs.lt
      exact wpAny_execs_nil (then_ h₃ tk₃ dx (fun b o hb e => keep3 b o hb (old b o e)) (Nat.le_of_lt (Nat.lt_of_lt_of_le z big)) dne hx3 ns3)
end
end Fw
namespace Fw
open PySem PySem.Spec PyProof.Rows L2
section
variable {X : Cx} {C fI : Addr} {q f : Str} {x : Str} {e : Expr} {te : TE} {p pos : Pos}
/-- C(e), an error that keeps e -/
theorem pe_mkE (T : InitC X.K C fI q f) (O : InitOk f) (hr : Room 2 X.A) (hg : Gl X x) (hm : X.mg x = some (.ref C)) (he : PE X e te)
    (hs : starEach [e] X.env = (false, eval e X.env) :: starEach [] X.env := by rfl) (hdb : (x == ("__debug__" : Str)) = false := by decide) :
    PE X (.Call (.Name x p) [e] [] pos) (fun σ H Q => te σ H fun y H1 => ∀ a d, H1 a = none → H1 d = none → d ≠ a → Q (.ref a) (upd (upd H1 d (.xd [(f, y)])) a (ExD C a d))) := by
  refine ⟨fun pins s σ H Q I h => ?_⟩
  obtain ⟨nm, qn, N, bs, bm, sn, sub, ab, col, dd, k0, k1, k2, k3, k5, B, newId, initId, bmB, at_, F, Z⟩ := T.cls
  refine wpAny_Call_Name_kw (ld_glob I hg hm ?_ hdb)
  refine PySem.W.callWith_K (h₀ := X.base) I.ok.mod.kin T.kC ?_ hs (by rfl)
  rw [hs]
  show wpAny _ _ (spliced ((false, eval e X.env) :: backTo pos (starEach [] X.env))) _ _ s
  refine Calls.spliced_cons (thn (he.run pins s σ H _ I h) fun u s1 ⟨y, H1, I1, r1, q1⟩ => ?_)
  refine Calls.spliced_nil ⟨I1.kIn, ?_⟩
  show wpAny _ _ (call (.ref C) [u]) _ _ _
  obtain ⟨hp, g, dr, tk, os⟩ := s1
  have few : [u].length ≤ sizeLine := by
    rw [sizeLine_eq]
    exact (by decide : 1 ≤ 16777216)
  have old : ∀ b o, hp.get? b = some o → ((hp.push (PySem.W.kdv_tup [u])).push (HandSPX.excO C hp.objs.size)).get? b = some o := fun b o z => Heap.get?_push_of_some _ (Heap.get?_push_of_some _ z)
  have new : ((hp.push (PySem.W.kdv_tup [u])).push (HandSPX.excO C hp.objs.size)).get? (hp.objs.size + 1) = some (HandSPX.excO C hp.objs.size) := by heap_get
  have dp := (hr.make C [u] []).dp
  refine wpAny_call (made_own F Z (I1.kIn _ _ at_) (PySem.W.looks_findIn I1.kIn T.iC) (fun self => PySem.W.bind_fn I1.kIn self T.tI) few
    (runs_init (s := ⟨(hp.push (PySem.W.kdv_tup [u])).push (HandSPX.excO C hp.objs.size), g, dr, tk, os⟩) T O (I1.kIn.keeps old) (I1.nolimit.keeps old) new (by omega) (fun h' tk' dx keep big dne hx hn => ⟨rfl, ?_⟩)))
  have sz : hp.objs.size ≤ dx := by
    rw [Heap.size_push, Heap.size_push] at big
    omega
  have keep2 : ∀ b o, hp.get? b = some o → h'.get? b = some o := fun b o z => keep b o (Nat.ne_of_lt (Nat.lt_succ_of_lt (Heap.lt_size z))) (old b o z)
  have na : H1 (hp.objs.size + 1) = none := I1.hok.fresh (Nat.le_succ _)
  have nd : H1 dx = none := I1.hok.fresh sz
  have fa : ∀ {b : Addr} {o : Obj}, hp.get? b = some o → b ≠ hp.objs.size + 1 := fun {b o} z => Nat.ne_of_lt (Nat.lt_succ_of_lt (Heap.lt_size z))
  have fd : ∀ {b : Addr} {o : Obj}, hp.get? b = some o → b ≠ dx := fun {b o} z => Nat.ne_of_lt (Nat.lt_of_lt_of_le (Heap.lt_size z) sz)
  have ne2 : ∀ {b : Addr} {o : HO}, H1 b = some o → b ≠ hp.objs.size + 1 ∧ b ≠ dx := fun {b o} z => ⟨ne_of_none z na, ne_of_none z nd⟩
  have see : ∀ {b : Addr} {o : HO}, H1 b = some o → upd (upd H1 dx (.xd [(f, y)])) (hp.objs.size + 1) (ExD C (hp.objs.size + 1) dx) b = some o := fun {b o} z => by
    rw [upd_ne (ne2 z).1, upd_ne (ne2 z).2]
    exact z
  have un : Un X.fs [] H1 (upd (upd H1 dx (.xd [(f, y)])) (hp.objs.size + 1) (ExD C (hp.objs.size + 1) dx)) hp h' :=
    { keep := fun b o z _ _ _ => keep2 b o z
      slot := fun b o z _ _ _ => ⟨o.slots, keep2 b o z⟩
      free := fun b o z n _ => by
        rw [upd_ne (fa z), upd_ne (fd z)]
        exact n
      there := fun b o z _ => ⟨o, keep2 b o z⟩
      tups := fun b xs z => see z
      frzs := fun b o u z => see z
      tbls := fun b ps z => ⟨#[], by rw [see z]; simp⟩ }
  have hok : HOk X.prog X.w (upd (upd H1 dx (.xd [(f, y)])) (hp.objs.size + 1) (ExD C (hp.objs.size + 1) dx)) h' := by
    intro b o z
    by_cases hb : b = hp.objs.size + 1
    · subst hb
      rw [upd_same] at z
      cases z
      exact exD_ok hx ⟨rfl, rfl⟩ rfl rfl (show 4 < 6 by decide)
    · rw [upd_ne hb] at z
      by_cases hd : b = dx
      · subst hd
        rw [upd_same] at z
        cases z
        exact ⟨_, hn, fun g => relO_put (fs := []) (mA := fun _ => none) r1 (fun _ => True.intro) g⟩
      · rw [upd_ne hd] at z
        exact (I1.hok b o z).stay (fun c v _ k => keep2 c v k) (fun c k => see k) (fun c xs k => see k)
  exact ⟨.ref (hp.objs.size + 1), _, I1.un (t' := tk') un hok, rfl, q1 _ _ na nd dne⟩
/-- e.f of an error that is held -/
theorem pe_ofE {n : Str} (he : PE X e te) (hb : attributeBase e n X.env (eval e X.env) = eval e X.env := by rfl) :
    PE X (.Attribute e n pos) (fun σ H Q => te σ H fun y H1 => ∃ (a D d : Addr) (fs : List (Str × V)) (v : V), y = .ref a ∧ H1 a = some (ExD D a d) ∧ H1 d = some (.xd fs) ∧ XfC X.K D ∧ PySem.W.findIn X.K (.ref D) n = some none ∧ fs.lookup n = some v ∧ Q v H1) := by
  refine ⟨fun pins s σ H Q I h => attr_of hb (thn (he.run pins s σ H _ I h) fun u s1 hh => ?_)⟩
  obtain ⟨y, H1, I1, r1, a, D, d, fs, v, rfl, ha, hd, T, no, l, q⟩ := hh
  cases (show u = Value.ref a from r1)
  obtain ⟨⟨oe, vs, at_, z, fl, _⟩, _, _⟩ := I1.hok a _ ha
  have hx : ObjOk X.prog X.w H1 s1.heap d (.xd fs) := I1.hok d _ hd
  obtain ⟨mA, hns, hr⟩ := hx
  obtain ⟨od, ho, hl⟩ := lookIn_ns hns
  obtain ⟨u, hu, ru⟩ := RelO.some_of (v := v) (o := mA n) (by rw [← l]; exact hr n)
  have J : PySem.W.InstAt s1.heap a oe D (some od) := ⟨at_, z.1, by unfold PySem.W.notCls; rw [fl] <;> rfl, by rw [z.2]; exact ho⟩
  exact HandSPX.exc_get I1.kIn J T.ga T.gg T.exC (PySem.W.findObj_own T.hdC no rfl (by rw [hl, hu])) (handed_of ru) ⟨v, H1, I1.tok _, ru, q⟩
end
end Fw

/-! try with several except clauses, each with a name or without. -/
namespace Fw
open PySem PySem.Spec PyProof.Rows L2
/-- a clause: the class, the name's slot if it has one, the suite's reading -/
abbrev Cl := Value × Option Nat × (Addr → Value → Option Addr → TS)
/-- behind a suite the name is gone -/
def ungo (i : Option Nat) (D : Ends) : Ends := match i with
  | none => D
  | some i => { nx := fun σ H => D.nx (σ.set i none) H, rt := D.rt, bk := fun σ H => D.bk (σ.set i none) H, ct := fun σ H => D.ct (σ.set i none) H }
def into (i : Option Nat) (a : Addr) (σ : L2.St) : L2.St := match i with
  | none => σ
  | some i => σ.set i (some (.ref a))
/-- what the clauses wish of an error of the body -/
def wCls (K : PySem.W.Frag) (out : WX) (D : Ends) : List Cl → WX
  | [] => out
  | (c, i, ts) :: more => fun cls d σ H => ∃ b, PySem.W.exmOne K cls c = some b ∧ (b = true → ∀ a, H a = none → ts a cls d (ungo i D) (into i a σ) H) ∧ (b = false → wCls K out D more cls d σ H)
inductive ClsOk (X : Cx) : List ExceptHandler → List Cl → Prop
  | nil : ClsOk X [] []
  | bare {x : Str} {c : Value} {ts : Addr → Value → Option Addr → TS} {b₀ : Stmt} {suite : List Stmt} {np pos' : Pos} {hds : List ExceptHandler} {l : List Cl} (hc : Names X x c)
      (su : ∀ (a : Addr) (oe : Obj) (cls : Value) (d : Option Addr) (pn : List (Addr × Obj)), Zc cls d oe → (∃ vs, oe.data = .fields vs) → PSs (X.suite a ((a, oe) :: pn)) (b₀ :: suite) (ts a cls d)) (r : ClsOk X hds l) :
      ClsOk X (.ExceptHandler (some (.Name x np)) none (b₀ :: suite) pos' :: hds) ((c, none, ts) :: l)
  | named {x n : Str} {i : Nat} {c : Value} {ts : Addr → Value → Option Addr → TS} {b₀ : Stmt} {suite : List Stmt} {np pos' : Pos} {hds : List ExceptHandler} {l : List Cl} (hc : Names X x c) (hi : X.N[i]? = some n) (ln : X.env.kindOf n = some .local)
      (su : ∀ (a : Addr) (oe : Obj) (cls : Value) (d : Option Addr) (pn : List (Addr × Obj)), Zc cls d oe → (∃ vs, oe.data = .fields vs) → PSs (X.suite a ((a, oe) :: pn)) (b₀ :: suite) (ts a cls d)) (r : ClsOk X hds l) :
      ClsOk X (.ExceptHandler (some (.Name x np)) (some n) (b₀ :: suite) pos' :: hds) ((c, some i, ts) :: l)
section
variable {X : Cx} {body : List Stmt} {h₀ : ExceptHandler} {hds : List ExceptHandler} {l : List Cl} {pos : Pos} {tb : WX → TS} {out : WX}
theorem ps_try_cls (hs : X.stack = X.env :: X.outer) (hf : X.env.frame = some X.env.locals) (hN : X.N.Nodup) (tk : Takes X out)
    (hb : ∀ (W : WX) (pn : List (Addr × Obj)) (xe : Value → Shared → Prop), Takes (X.tr pn xe) W → PassesOwn (model X.prog X.w) X.A X.env xe → PSs (X.tr pn xe) body (tb W)) (hh : ClsOk X (h₀ :: hds) l) :
    PS X (.Try body (h₀ :: hds) [] [] pos) (fun D σ H => tb (wCls X.K out D l) D σ H) := by
  refine ⟨fun pins s σ H D I h => ?_⟩
  have ok := I.ok
  have stk : X.A.frames = some (X.env :: X.outer) := by rw [ok.frames, hs]
  have quiet : ∀ {f : Flow} {s1 : Shared}, SP (X.tr (X.pn ++ pins) fun e s₁ => wpAny (model X.prog X.w) X.A (noteFrame e X.env) (fun _ s₂ => wpAny (model X.prog X.w) X.A (setFlight e none) (fun _ s₃ =>
      wpAny (model X.prog X.w) X.A (handleBy e X.env (h₀ :: hds)) (SP X pins D) X.xe s₃) X.xe s₂) X.xe s₁) [] D f s1 → SP X pins D f s1 := by
    intro f s1 hsp
    match f, hsp with
    | .next, ⟨σ', H', J, q⟩ => exact ⟨σ', H', J.ofTry ok, q⟩
    | .brk, ⟨σ', H', J, q⟩ => exact ⟨σ', H', J.ofTry ok, q⟩
    | .cont, ⟨σ', H', J, q⟩ => exact ⟨σ', H', J.ofTry ok, q⟩
    | .ret u, ⟨v, σ', H', J, r, q⟩ => exact ⟨v, σ', H', J.ofTry ok, r, q⟩
  refine wpAny_Try_except (wpAny_mono ((hb (wCls X.K out D l) (X.pn ++ pins) _ (fun u s' xx => ?_) PassesOwn.looking).run [] s σ H D (I.toTry _) h) (fun f s1 hsp => ?_) (fun e s1 he => he))
  · obtain ⟨a, B, sI, pins', σ', H', cls, d, rfl, J', nb, up, sky, na, os, ag, w⟩ := xx
    have J : Inv X pins σ' H' sI := J'.ofTry ok
    have up_ : Sky B (X.env :: X.outer) a (Zc cls d) X.env.locals s'.heap := by rw [← hs]; exact sky
    show wpAny (model X.prog X.w) X.A (noteFrame (.ref a) X.env) _ _ _
    refine Sky.land Zc.steady stk hf up_ fun h3 fl3 up3 => ?_
    have J3 : Inv X pins σ' H' { s' with heap := h3 } := J.landed nb fl3.1 (up.trans up3) os ag
    obtain ⟨oe3, vs3, he3, hz3, hd3⟩ := fl3.there
    have out_ : a ∉ frs (X.env :: X.outer) := by
      intro hm
      obtain ⟨_, o', e', hnf⟩ := (fl3.2.2.1).mem hm
      rw [he3] at e'
      cases e'
      exact hnf _ hd3
    have nL : a ≠ X.env.locals := fun z => out_ (List.mem_filterMap.mpr ⟨X.env, List.mem_cons_self, by rw [hf, z]⟩)
    have nF : a ∉ X.fs := by
      intro hm
      obtain ⟨e, he, q⟩ := List.mem_filterMap.mp hm
      exact out_ (List.mem_filterMap.mpr ⟨e, List.mem_cons_of_mem _ he, q⟩)
    have S3 := J3.suite he3 hd3 na nL nF
    have ty : PySem.W.Looks (model X.prog X.w) h3 (typeOf (.ref a)) cls := fun A Q E s k q => wpAny_typeOf_ref (k _ _ he3) (by rw [hz3.1]; exact q)
    have named_ : ∀ {x : Str} {np : Pos} {c : Value} {Q : Value → Shared → Prop} {E : Value → Shared → Prop}, Names X x c → Q c { s' with heap := h3 } →
        wpAny (model X.prog X.w) (X.A.mark (some (.ref a))) (eval (.Name x np) X.env) Q E { s' with heap := h3 } := by
      intro x np c Q E hc q
      obtain ⟨hg, hdbg, hm | ⟨hm, hv, hnn⟩⟩ := hc
      · exact ld_glob (X := X.suite a ((a, oe3) :: (X.pn ++ pins))) S3 hg hm q hdbg
      · exact ld_blt (X := X.suite a ((a, oe3) :: (X.pn ++ pins))) S3 hg hm hv q hnn hdbg
    have go : ∀ {hds' : List ExceptHandler} {l' : List Cl}, ClsOk X hds' l' → wCls X.K out D l' cls d σ' H' → wpAny (model X.prog X.w) X.A (handleBy (.ref a) X.env hds') (SP X pins D) X.xe { s' with heap := h3 } := by
      intro hds' l' hk
      induction hk with
      | nil =>
        intro w
        apply wpAny_handleBy_nil
        obtain ⟨k1, k2, k3, oe, vs, T, oT, ts', he, hz, hd, h1, hr⟩ := id fl3
        unfold PySem.passOn
        apply wpAny_bind
        refine wpAny_field he hd h1 ?_
        rw [if_neg (show ¬ ((Value.ref T == Value.none) = true) from by simp)]
        have fin : wpAny (model X.prog X.w) X.A (setFlight (.ref a) X.env.frame) (fun _ s4 => wpAny (model X.prog X.w) X.A (throw (.ref a) : Sem Flow) (SP X pins D) X.xe s4) X.xe { s' with heap := h3 } := by
          rw [hf]
          refine HandSPX.setFlight_upZ fl3 fun h4 hh4 up4 => wpAny_throw (tk _ _ ?_)
          exact ⟨a, B, sI, pins, σ', H', cls, d, rfl, J, nb, (up.trans up3).trans up4, .inr (.inr (by rw [hs]; exact hh4)), na, os, ag, w⟩
        first
          | exact wpAny_bind (wpAny_pure (wpAny_bind fin))
          | exact wpAny_bind fin
      | @bare x c ts b₀ suite np pos' hds2 l2 hc su r ih =>
        intro w
        obtain ⟨b, hb1, yes, no⟩ := w
        refine wpAny_handleBy_cons (codeAny_handlers_test (named_ hc ((PySem.W.exm_one (M := model X.prog X.w) J3.kIn ty hb1).here ?_))) (by intro q; cases q)
        cases b with
        | false => exact ih (no rfl)
        | true =>
          refine codeAny_handlers_suite (HandSPX.lands_againZ fl3 fun h4 fl4 up4 => ?_)
          have J4 : Inv X pins σ' H' { s' with heap := h4 } := J.landed nb fl4.1 ((up.trans up3).trans up4) os ag
          obtain ⟨oe4, vs4, he4, hz4, hd4⟩ := fl4.there
          refine wpAny_mono ((su a oe4 cls d (X.pn ++ pins) hz4 ⟨_, hd4⟩).run [] _ _ H' _ (J4.suite he4 hd4 na nL nF) (yes rfl a na)) (fun f s6 hsp => ?_) (fun _ _ z => False.elim z)
          match f, hsp with
          | .next, ⟨σ6, H6, S6, q6⟩ => exact ⟨_, _, S6.unsuite ok, q6⟩
          | .brk, ⟨σ6, H6, S6, q6⟩ => exact ⟨_, _, S6.unsuite ok, q6⟩
          | .cont, ⟨σ6, H6, S6, q6⟩ => exact ⟨_, _, S6.unsuite ok, q6⟩
          | .ret u, ⟨v6, σ6, H6, S6, r6, q6⟩ => exact ⟨_, _, _, S6.unsuite ok, r6, q6⟩
      | @named x n i c ts b₀ suite np pos' hds2 l2 hc hi ln su r ih =>
        intro w
        obtain ⟨b, hb1, yes, no⟩ := w
        refine wpAny_handleBy_cons (codeAny_handlers_test (named_ hc ((PySem.W.exm_one (M := model X.prog X.w) J3.kIn ty hb1).here ?_))) (by intro q; cases q)
        cases b with
        | false => exact ih (no rfl)
        | true =>
          refine codeAny_handlers_suite_as (HandSPX.lands_againZ fl3 fun h4 fl4 up4 => ?_)
          have J4 : Inv X pins σ' H' { s' with heap := h4 } := J.landed nb fl4.1 ((up.trans up3).trans up4) os ag
          obtain ⟨oe4, vs4, he4, hz4, hd4⟩ := fl4.there
          have S4 := J4.suite he4 hd4 na nL nF
          refine store_ok (X := X.suite a ((a, oe4) :: (X.pn ++ pins))) (v := .ref a) S4 hN hi (.inl ln) rfl (fun s5 S5 => ?_) (.inr ln)
          refine wpAny_mono ((su a oe4 cls d (X.pn ++ pins) hz4 ⟨_, hd4⟩).run [] s5 _ H' _ S5 (yes rfl a na)) (fun f s6 hsp => ?_) (fun _ _ z => False.elim z)
          match f, hsp with
          | .next, ⟨σ6, H6, S6, q6⟩ => exact gone_ok (S6.unsuite ok) hN hi ln fun s7 J7 => ⟨_, _, J7, q6⟩
          | .brk, ⟨σ6, H6, S6, q6⟩ => exact gone_ok (S6.unsuite ok) hN hi ln fun s7 J7 => ⟨_, _, J7, q6⟩
          | .cont, ⟨σ6, H6, S6, q6⟩ => exact gone_ok (S6.unsuite ok) hN hi ln fun s7 J7 => ⟨_, _, J7, q6⟩
          | .ret u, ⟨v6, σ6, H6, S6, r6, q6⟩ => exact gone_ok (S6.unsuite ok) hN hi ln fun s7 J7 => ⟨_, _, _, J7, r6, q6⟩
    exact go hh w
  · cases f with
    | next => exact wpAny_execs_nil (quiet hsp)
    | brk => exact quiet hsp
    | cont => exact quiet hsp
    | ret u => exact quiet hsp
end
end Fw

/-! Errors raised that keep a value; a def that is called with the error that is handled. -/
namespace Fw
open PySem PySem.Spec PyProof.Rows L2
/-- what gives a new error with a dict back makes an exception -/
theorem pmk_retD {X : Cx} {K : PySem.W.Frag} {H0 : Hp} {e : Expr} {te : TE} (hK : X.K = K) (h00 : X.H_0 = H0) (hx : X.ex = []) (he : PE X e te) :
    PMk X e (fun σ H Q => te σ H fun x H1 => ∃ a D d, x = .ref a ∧ H1 a = some (ExD D a d) ∧ Fr0 H0 a ∧ PySem.W.subIn K (.ref D) (.type "BaseException") = some true ∧ PySem.W.typeIn K (.ref D) = some (.type "type") ∧ Q (.ref D) (some d) (delH H1 a)) := by
  subst hK h00
  intro pins s σ H Q I h
  refine wpAny_mono (he.run pins s σ H _ I h) (fun u s1 hu => ?_) fun _ _ x => x
  obtain ⟨v, H1, I1, r1, a, D, d, rfl, ha, h0, hr1, hr2, q⟩ := hu
  cases r1
  obtain ⟨⟨oe, vs, ho, hz, hd, h1, _⟩, _, _⟩ := I1.hok a _ ha
  obtain ⟨G, gs, ga, J⟩ := I1.untrack ha h0 hx
  exact ⟨a, oe, vs, { s1 with heap := G }, delH H1 a, .ref D, some d, rfl, J, gs, ga, ho, hz, hd, h1, delH_same, rfl, I1.bare, raises_own hr1 hr2, q⟩
/-- a def of one parameter, called with the handled error, of the class at D, without a dict -/
structure FnE (P : Program) (w : World) (K : PySem.W.Frag) (mg : Str → Option Value) (base : Heap) (k : Nat) (f : Addr) (fd : FuncData) (x : Str) (sp : Addr → VK → Hp → Prop) : Prop where
  goes : ∀ (A : Around) (fr : List Env) (s : Shared) (H : Hp) (ar : Args) (us : List Value) (Q : VK) (E : XK) (a D : Addr) (oe : Obj) (fs : Array Value), A.guards = some [] → L2H.RoomH k A → L2H.PinOk fr H s (a, oe) → Zc (.ref D) none oe → oe.data = .fields fs →
    Env0 P w K mg base A fr s H → BindsTo s fd ar (([x] : List Str).zip us) → Vals [.ref a] us → sp D Q H → codeAny (model P w) A (.call (.ref f) ar) (CR CX0 fr P w H s Q E) s
section
variable {P : Program} {w : World} {K : PySem.W.Frag} {mg : Str → Option Value} {base : Heap} {k : Nat}
theorem fnE {f : Addr} {x qual : Str} {st : Stmt} {fd : FuncData} {N : List Str} {y : Str} {sp : Addr → VK → Hp → Prop} (F : Fun K x qual st f fd) (S : FnScope N [y] (defScope st))
    (hbody : ∀ (cdv : Value) (A : Around) (fr : List Env) (s : Shared) (H : Hp) (Q : VK) (E : XK) (a D : Addr) (oe : Obj) (fs : Array Value), A.guards = some [] → L2H.RoomH k (A.deeper (envOfC qual (defScope st) s.heap.objs.size f cdv)) → Zc (.ref D) none oe → oe.data = .fields fs → sp D Q H →
      ∃ t, PSs (L2H.cxH CX0 P w K mg base N qual (defScope st) f cdv A fr s H E (a, oe)) (defBody st) t ∧ t { nx := fun _ H' => Q .non H', rt := Q } (start N [.ref a]) H) : FnE P w K mg base (k + 1) f fd y sp := by
  obtain ⟨oc, od, kV, doc, pm, an, cdv, ct, osl, rfl, lk, hcd⟩ := F.ex
  refine ⟨fun A fr s H ar us Q E a D oe fs hG hr pin z fl e0 hb r hsp => ?_⟩
  have kept : ∀ b o, base.get? b = some o → s.heap.get? b = some o := fun b o e => (e0.bs b o e).1
  have kinds : ∀ z ∈ ([y] : List Str).zip us, (defScope st).names.lookup z.1 = some .local ∨ ((defScope st).names.lookup z.1 = some .cell ∧ ((cellsFrom (s.heap.objs.size + 1) (defScope st).names []).lookup z.1).isSome = true) := by
    intro z hz
    rcases S.par z.1 (List.of_mem_zip hz).1 with l | c
    · exact Or.inl l
    · exact Or.inr ⟨c, PySem.W.cellsFrom_some _ _ _ (Or.inl c)⟩
  apply codeAny_call_function hr.depth ((e0.mod.kin.keeps kept) _ _ lk) rfl S.co S.gen rfl (PySem.W.codeRec_of (e0.mod.kin.keeps kept) hcd)
  apply hb
  apply wpAny_newFunctionEnv_cells S.kind kinds
  intro env he s1 ic
  cases he
  refine ⟨(e0.mod.nolimit.keeps kept).keeps ic.toInCall.keep, codeAny_func ?_⟩
  obtain ⟨t, walk, now⟩ := hbody cdv A fr s H Q E a D oe fs hG (hr.deeper _) z fl hsp
  refine wpAny_mono (walk.run [] s1 (start N [.ref a]) H _ (L2H.inv_startH S pin e0 rfl r ic) now) (fun fl s' ends => ?_) (fun _ _ ends => ends)
  match fl, ends with
  | .ret u, ⟨v, σ', H', J, rv, q⟩ => exact ⟨v, H', J.os, J.bare, J.base, J.hok, rv, q⟩
  | .next, ⟨σ', H', J, q⟩ => exact ⟨V.non, H', J.os, J.bare, J.base, J.hok, rfl, q⟩
  | .brk, ⟨_, _, _, q⟩ => exact q.elim
  | .cont, ⟨_, _, _, q⟩ => exact q.elim
end
section
variable {X : Cx} {k : Nat} {f : Addr} {fd : FuncData} {x y : Str} {sp : Addr → VK → Hp → Prop} {p pos : Pos} {e : Expr} {te : TE} {a : Addr} {oe : Obj} {pn : List (Addr × Obj)} {cls : Value} {d : Option Addr}
/-- f(e) in an except suite, e the error that is handled -/
theorem pe_callE (G : X.A.guards = some []) (F : FnE X.prog X.w X.K X.mg X.base k f fd y sp) (hr : L2H.RoomH k X.A) (hg : Gl X x) (hm : X.mg x = some (.ref f)) (hk : PySem.W.keepIn X.K (.ref f) = true) (hb : Binds X.K fd [y] []) (hz : Zc cls d oe)
    (hf : ∃ vs, oe.data = .fields vs) (he : PE (X.suite a ((a, oe) :: pn)) e te) (hdb : (x == ("__debug__" : Str)) = false := by decide) (hs : starEach [e] X.env = (false, eval e X.env) :: starEach [] X.env := by rfl) :
    PE (X.suite a ((a, oe) :: pn)) (.Call (.Name x p) [e] [] pos) (fun σ H Q => te σ H fun v H1 => v = .ref a ∧ ∃ D, cls = .ref D ∧ d = none ∧ sp D Q H1) := by
  refine ⟨fun pins s σ H Q I h => wpAny_Call_Name_kw (ld_glob (X := X.suite a ((a, oe) :: pn)) I hg hm ?_ hdb)⟩
  refine PySem.W.callWith_K (h₀ := X.base) I.ok.mod.kin hk ?_ hs (by rfl)
  rw [hs]
  show wpAny _ _ (spliced ((false, eval e X.env) :: backTo pos (starEach [] X.env))) _ _ s
  refine Calls.spliced_cons (thn (he.run pins s σ H _ I h) fun u s1 ⟨v, H1, I1, r1, ev, D, ec, ed, q1⟩ => ?_)
  refine Calls.spliced_nil ⟨I1.kIn, ?_⟩
  subst ev ec ed
  show wpAny _ _ (call (.ref f) [u]) _ _ _
  obtain ⟨g1, g2, g3, g4, g5⟩ := I1.pin (a, oe) (List.mem_append_left _ List.mem_cons_self)
  obtain ⟨vs, hv⟩ := hf
  have pin : L2H.PinOk (X.suite a ((a, oe) :: pn)).stack H1 s1 (a, oe) := ⟨g1, g2, fun hm => by
    rcases List.mem_cons.mp (I1.stkSub a hm) with z | z
    · exact g3 z
    · exact g4 z, g5⟩
  have b := hb s1 [u] I1.kIn rfl
  rw [List.append_nil] at b
  apply wpAny_call
  apply codeAny_mono (F.goes (X.suite a ((a, oe) :: pn)).A _ s1 H1 ⟨[u], []⟩ [u] Q (fun _ _ _ => False) a D oe vs G ⟨hr.dp, hr.un⟩ pin hz hv I1.env0 b (.cons r1 .nil) q1)
  intro res s' ends
  match res, ends with
  | .error er, ends => exact ends.elim
  | .ok (.ret u), ends => exact I1.after ends
  | .ok .next, ends => exact ends.elim
  | .ok .brk, ends => exact ends.elim
  | .ok .cont, ends => exact ends.elim
end
end Fw

/-! Kinds of values; what names are. -/
namespace Fw
open PySem PySem.Spec PyProof.Rows L2
/-- the name of a value's type -/
inductive Kn (H : Hp) : V → String → Prop
  | non : Kn H .non "NoneType"
  | bl (b : Bool) : Kn H (.bl b) "bool"
  | int (i : Int) : Kn H (.int i) "int"
  | str (x : Str) : Kn H (.str x) "str"
  | lst {a : Addr} {xs : List V} (e : H a = some (.lst xs)) : Kn H (.ref a) "list"
  | tup {a : Addr} {xs : List V} (e : H a = some (.tup xs)) : Kn H (.ref a) "tuple"
  | dK {a : Addr} {kvs : List (Key × V)} (e : H a = some (.dK kvs)) : Kn H (.ref a) "dict"
  | tupF {a : Addr} {o : Obj} {xs : List V} (e : H a = some (.frz o (.tup xs))) : Kn H (.ref a) "tuple"
theorem Kn.tyx {K : PySem.W.Frag} {H : Hp} {v : V} {n : String} (h : Kn H v n) : TyX K H v (.type n) := by
  cases h with
  | non => exact .base .non
  | bl b => exact .base (.bl b)
  | int i => exact .base (.int i)
  | str x => exact .base (.str x)
  | lst e => exact .base (.lst e)
  | tup e => exact .base (.tup e)
  | dK e => exact .base (.dK e)
  | tupF e => exact .fTuple e
theorem Kn.same {H H' : Hp} {v : V} {n : String} (h : Kn H v n) (s : Same H H') : Kn H' v n := by
  cases h with
  | non => exact .non
  | bl b => exact .bl b
  | int i => exact .int i
  | str x => exact .str x
  | lst e => exact .lst (s _ _ e)
  | tup e => exact .tup (s _ _ e)
  | dK e => exact .dK (s _ _ e)
  | tupF e => exact .tupF (s _ _ e)
theorem Kn.rd {H : Hp} {a : Addr} {xs : List V} (h : Rd H a (.tup xs)) : Kn H (.ref a) "tuple" := by
  rcases h with h | ⟨o, h⟩
  · exact .tup h
  · exact .tupF h
theorem rd_same {H H' : Hp} {a : Addr} {u : HO} (h : Rd H a u) (s : Same H H') : Rd H' a u := by
  rcases h with h | ⟨o, h⟩
  · exact .inl (s _ _ h)
  · exact .inr ⟨o, s _ _ h⟩
def isB (n t : String) : Bool := n == t || (n == "bool" && t == "int")
theorem Kn.kit {K : PySem.W.Frag} {H : Hp} {v : V} {n t : String} (h : Kn H v n) (ht : t = "int" ∨ t = "bool" ∨ t = "str" ∨ t = "tuple" ∨ t = "dict" ∨ t = "list") : PySem.W.kitOne K (.type n) (.type t) = some (isB n t) := by
  have all : ∀ n ∈ ["NoneType", "bool", "int", "str", "list", "tuple", "dict"], ∀ t ∈ ["int", "bool", "str", "tuple", "dict", "list"], kitB n t = some (isB n t) := by decide +kernel
  refine kit_ty (all n ?_ t ?_)
  · cases h <;> simp
  · rcases ht with rfl | rfl | rfl | rfl | rfl | rfl <;> simp
section
variable {X : Cx} {e : Expr} {te : TE} {t : String} {tn : Str} {p1 p2 p3 : Pos}
/-- isinstance(e, t), t a built-in type's name -/
def tIs (t : String) (te : TE) : TE := fun σ H Q => te σ H fun v H1 => ∃ n, Kn H1 v n ∧ Q (.bl (isB n t)) H1
theorem pe_is (ht : t = "int" ∨ t = "bool" ∨ t = "str" ∨ t = "tuple" ∨ t = "dict" ∨ t = "list") (gS : Gl X "isinstance") (hS : X.mg "isinstance" = none) (gT : Gl X tn) (hT : X.mg tn = none) (bT : bootBuiltins tn = some (.type t)) (he : PE X e te)
    (mono : ∀ σ H (Q Q' : VK), (∀ v H, Q v H → Q' v H) → te σ H Q → te σ H Q')
    (hn : tn ≠ "__name__" := by decide) (hd : (tn == ("__debug__" : Str)) = false := by decide)
    (s1 : starEach [e, .Name tn p1] X.env = (false, eval e X.env) :: starEach [.Name tn p1] X.env := by rfl) (s2 : starEach [.Name tn p1] X.env = (false, eval (.Name tn p1) X.env) :: starEach [] X.env := by rfl)
    (s4 : (backTo p3 (starEach [.Name tn p1] X.env)).any (·.1) = false := by rfl) :
    PE X (.Call (.Name "isinstance" p2) [e, .Name tn p1] [] p3) (tIs t te) := by
  refine ⟨fun pins s σ H Q I h => ?_⟩
  refine (pe_callB call_isi gS hS (by decide +kernel) (pa_cons he (pa_cons (pe_bltn (v := .ty t) gT hT bT rfl hn hd) pa_nil s2) s1) (he := s1) (hpl := s4)).run pins s σ H Q I ?_
  refine mono σ H _ _ (fun v H1 h => ?_) h
  obtain ⟨n, k, q⟩ := h
  exact ⟨v, .ty t, _, _, _, rfl, .ty t, k.tyx, k.kit ht, q⟩
end
theorem mono_var {i : Nat} : ∀ (σ : L2.St) (H : Hp) (Q Q' : VK), (∀ v H, Q v H → Q' v H) → tVar i σ H Q → tVar i σ H Q' := fun σ H Q Q' m h => by
  obtain ⟨v, e, q⟩ := h
  exact ⟨v, e, m v H q⟩
/-! ### names -/
def low (c : Nat) : Bool := 97 ≤ c && c ≤ 122
/-- a text of one to eight letters a to z -/
def nameS (x : Str) : Bool := decide (1 ≤ x.length) && (decide (x.length ≤ 8) && x.cps.toList.all low)
theorem low_of : ∀ c, c < 128 → (PySem.Unicode.isAlpha c && (PySem.Unicode.isLower c && !(PySem.Unicode.isUpper c || PySem.Unicode.isTitle c))) = low c := by decide +kernel
theorem low_up : ∀ c, c < 128 → PySem.Unicode.isAlpha c = true → (PySem.Unicode.isUpper c || PySem.Unicode.isTitle c) = !low c := by decide +kernel
theorem low_al : ∀ c, c < 128 → low c = true → PySem.Unicode.isAlpha c = true ∧ PySem.Unicode.isLower c = true ∧ (PySem.Unicode.isUpper c || PySem.Unicode.isTitle c) = false := by decide +kernel
theorem name_is {x : Str} (h1 : 1 ≤ x.length) (h8 : x.length ≤ 8) : (Txt.isascii x && (Txt.isalpha x && Txt.islower x)) = nameS x := by
  obtain ⟨⟨l⟩⟩ := x
  have e1 : decide (1 ≤ (⟨⟨l⟩⟩ : Str).length) = true := decide_eq_true h1
  have e8 : decide ((⟨⟨l⟩⟩ : Str).length ≤ 8) = true := decide_eq_true h8
  unfold nameS
  rw [e1, e8, Bool.true_and, Bool.true_and]
  rw [Bool.eq_iff_iff]
  simp only [Txt.isascii, Txt.isalpha, Txt.islower, Bool.and_eq_true, Array.all_eq_true', Bool.not_eq_true', List.all_eq_true, Array.any_eq_true', Array.any_eq_false', decide_eq_true_eq]
  constructor
  · rintro ⟨h1, ⟨_, h2⟩, _, h4⟩ c hc
    have hc' : c ∈ (⟨l⟩ : Array Nat) := by simpa using hc
    have u := low_up c (h1 c hc') (h2 c hc')
    have z := h4 c hc'
    cases q : low c with
    | true => rfl
    | false =>
      rw [q] at u
      rw [u] at z
      exact absurd rfl z
  · intro h
    have hc : ∀ c, c ∈ (⟨l⟩ : Array Nat) → c < 128 ∧ low c = true := fun c m => by
      have z := h c (by simpa using m)
      refine ⟨?_, z⟩
      unfold low at z
      simp only [Bool.and_eq_true, decide_eq_true_eq] at z
      omega
    refine ⟨fun c m => (hc c m).1, ⟨?_, fun c m => (low_al c (hc c m).1 (hc c m).2).1⟩, ?_, fun c m => ?_⟩
    · exact h1
    · have : 0 < l.length := h1
      refine ⟨l[0], by simp, (low_al _ (hc _ (by simp)).1 (hc _ (by simp)).2).2.1⟩
    · rw [(low_al c (hc c m).1 (hc c m).2).2.2]
      decide
end Fw

/-! The end of a law whose def is promised where no repr is under way. -/
namespace Fw
open PySem PySem.Spec PyProof.Rows L2
/-- at callerA, over an abstract heap that tracks nothing but the script, and that only where the written part does not hold it -/
theorem ends_one {P : Program} {w : World} {K : PySem.W.Frag} {mg mb : Str → Option Value} {CX : CXT} {k : Nat} {fa a : Addr} {fd : FuncData} {x : Str} {sp : Sp} {s₁ : Shared} {vs : List Value} {H : Hp} {L : List V}
    (KX : K.In s₁.heap) (hns : s₁.heap.Ns mainGlobals mg) (hb : s₁.heap.Ns builtinsNs mb) (hbb : ∀ y : Str, y ≠ "__name__" → mb y = bootBuiltins y) (hlim : s₁.heap.NoLimit) (hg : s₁.gens = #[])
    (ha : s₁.heap.get? a = some { cls := .type "list", data := .seq vs.toArray }) (hr : Room k callerA)
    (F : ∀ base : Heap, K.In base → base.Ns mainGlobals mg → FnG P w K mg base CX k fa fd [x] sp) (hbind : ∀ (s : Shared) (u : Value), BindsTo s fd ⟨[u], []⟩ [(x, u)])
    (hsp : sp [.ref a] H (fun v _ => v = .bl true) fun _ _ _ => False) (hCX : ∀ e s', CX [] H s₁ (fun _ _ _ => False) e s' → False)
    (only : ∀ b u, H b = some u → b = a ∧ K.lookup a = none ∧ ∃ o, u = .frz o (.lst L)) (held : HOk P w H s₁.heap) :
    codeAny (model P w) callerA (.call (.ref fa) ⟨[.ref a], []⟩) (fun r s' => r = .ok (.ret (.bool true)) ∧ OldK s₁.heap s'.heap ∧ s'.os = s₁.os ∧ AllBare s'.gens) s₁ := by
  have away : ∀ {b : Addr} {o : Obj}, s₁.heap.get? b = some o → (b = a → K.lookup a = none → False) → H b = none := by
    intro b o _ no
    cases q : H b with
    | none => rfl
    | some u =>
      obtain ⟨e, n, _⟩ := only b u q
      exact (no e n).elim
  have dicts : ∀ {b : Addr} {o : Obj} {es : Array DictEntry} {ep : Nat}, s₁.heap.get? b = some o → o.data = .dict es ep → H b = none := by
    intro b o es ep e d
    refine away e fun z _ => ?_
    rw [z, ha] at e
    cases e
    exact Data.noConfusion d
  have spaces : ∀ {b : Addr} {m : Str → Option Value}, s₁.heap.Ns b m → (hidT s₁.heap H).Ns b m := by
    rintro b m ⟨o, es, ep, e, d, more⟩
    exact ⟨o, es, ep, hidT_get e (dicts e d), d, more⟩
  have written : K.In (hidT s₁.heap H) := by
    intro b o e
    refine hidT_get (KX b o e) (away (KX b o e) fun z n => ?_)
    rw [z, n] at e
    cases e
  have room : Mod K mg (hidT s₁.heap H) := by
    obtain ⟨mc, l1, l2⟩ := hlim
    exact ⟨written, spaces hns, ⟨mb, spaces hb, hbb⟩, ⟨mc, spaces l1, l2⟩⟩
  have entry : Env0 P w K mg (hidT s₁.heap H) callerA [] s₁ H :=
    { frames := rfl, mod := room, bs := fun b o e => of_hidT e, bsz := Nat.le_of_eq (hidT_size _ _), funs := trivial, frf := fun b hm => (List.not_mem_nil hm).elim, hok := held, bare := .of_eq hg }
  apply codeAny_mono ((F _ written (spaces hns)).goes callerA [] s₁ H ⟨[.ref a], []⟩ [.ref a] [.ref a] _ _ (fun _ => rfl) hr entry (hbind s₁ (.ref a)) (.cons rfl .nil) hsp)
  intro res s' ends
  match res, ends with
  | .error er, ends => exact (hCX er s' ends).elim
  | .ok .next, ends => exact ends.elim
  | .ok .brk, ends => exact ends.elim
  | .ok .cont, ends => exact ends.elim
  | .ok (.ret u), ⟨v, H', os, bare, un, held', rv, q⟩ =>
    have q' : v = .bl true := q
    subst q'
    cases rv
    refine ⟨rfl, OldK.of_keep fun b o e => ?_, os, bare⟩
    cases q : H b with
    | none => exact un.keep b o e q (fun z => (List.not_mem_nil z).elim) (fun z => (List.not_mem_nil z).elim)
    | some u =>
      obtain ⟨_, _, ob, z⟩ := only b u q
      rw [z] at q
      obtain ⟨e1, _⟩ := held b _ q
      obtain ⟨e2, _⟩ := held' b _ (un.frzs b ob _ q)
      rw [e] at e1
      cases e1
      exact e2
/-- the goal that the head leaves, by a promise for the law's def -/
theorem walkG {l : PySem.W.OpenLaw} {n k : Nat} {q : Program} {loose : List Str} {XP : (Str → Option Value) → Heap → Prop} {YP : World → Heap → Prop} {d : DefRec} {K : Params → PySem.W.Frag} {CX : World → CXT} {sp : World → Sp} {x : Str}
    (hn : l.most = some n) (hn2 : n ≤ sizeLine) (hdf : d.params.defaults = []) (hr : Room k callerA) (hY : ∀ (w : World) (h : Heap), YP w h → (K w.params).In h)
    (F : ∀ (w : World) (mg : Str → Option Value) (fa : Addr) (h : Heap), (K w.params).In h → h.Ns mainGlobals mg → mg d.name = some (.ref fa) →
      ∃ fd : FuncData, (∀ (s : Shared) (u : Value), BindsTo s fd ⟨[u], []⟩ [(x, u)]) ∧ ∀ base : Heap, (K w.params).In base → base.Ns mainGlobals mg → FnG l.prog w (K w.params) mg base (CX w) k fa fd [x] (sp w))
    (hsp : ∀ (w : World) (H : Hp) (a : Addr) (ns : List Int), ns.length ≤ n → SqL (K w.params) H a (ns.map V.int) → sp w [.ref a] H (fun v _ => v = .bl true) fun _ _ _ => False)
    (hCX : ∀ (w : World) (H : Hp) (s : Shared) (e : Value) (s' : Shared), CX w [] H s (fun _ _ _ => False) e s' → False) :
    PySem.W.WalkO q loose XP YP l.row.toRowW d [] (fun f vs => PySem.call f vs) := by
  apply Att.attach_call hn hdf
  intro w s₀ s₁ mg mb fa o pm cd doc a vs ns G Y ho hd hcd hmg hobj hints hlen hg
  have KX := hY w _ Y
  obtain ⟨fd, hb, hF⟩ := F w mg fa _ KX G.T.g hmg
  have rv := L2.vals_ints hints
  have lv := hints.length
  have hl : ns.length ≤ sizeLine := Nat.le_trans hlen hn2
  cases hk : (K w.params).lookup a with
  | some u =>
    have same := KX a u hk
    rw [hobj] at same
    cases same
    refine ends_one (L := []) KX G.T.g G.T.b G.T.builtins G.T.nolimit hg hobj hr hF hb (hsp w (fun _ => none) a ns hlen (.inr ⟨_, vs.toArray, _, hk, rfl, rfl, rfl, ?_, by simpa using rv⟩)) (hCX w _ s₁) ?_ ?_
    · rw [List.size_toArray, lv]
      exact hl
    · intro b u z
      exact (nomatch (show (none : Option HO) = some u from z))
    · intro b u z
      exact (nomatch (show (none : Option HO) = some u from z))
  | none =>
    let o : Obj := { cls := .type "list", data := .seq vs.toArray }
    let H1 : Hp := fun b => if b = a then some (HO.frz o (.lst (ns.map V.int))) else none
    have there : H1 a = some (HO.frz o (.lst (ns.map V.int))) := if_pos rfl
    have just : ∀ b u, H1 b = some u → b = a ∧ u = HO.frz o (.lst (ns.map V.int)) := by
      intro b u z
      by_cases hba : b = a
      · rw [hba, there] at z
        exact ⟨hba, (Option.some.inj z).symm⟩
      · have no : H1 b = none := if_neg hba
        rw [no] at z
        exact nomatch z
    refine ends_one (H := H1) (L := ns.map V.int) KX G.T.g G.T.b G.T.builtins G.T.nolimit hg hobj hr hF hb (hsp w H1 a ns hlen (.inl (.inr ⟨o, there⟩))) (hCX w H1 s₁) ?_ ?_
    · intro b u z
      obtain ⟨e1, e2⟩ := just b u z
      exact ⟨e1, hk, _, e2⟩
    · intro b u z
      obtain ⟨e1, e2⟩ := just b u z
      rw [e1, e2]
      exact ⟨hobj, by rw [List.length_map]; exact hl, vs, _, rv, hobj⟩
end Fw

/-! Words: integers, names. -/
namespace Lx
open PySem PySem.Spec PyProof.Rows L2 Fw
def top (i : Nat) : Stmt := PySem.Challenge.pw_flatwebs_k00_words_and_fractions.main.body.getD i (.Pass ⟨0, 0, 0, 0⟩)
abbrev sInteger : Stmt := top 9
abbrev sCount : Stmt := top 10
abbrev sName : Stmt := top 11
abbrev sNames : Stmt := top 12
abbrev sDifferent : Stmt := top 13
abbrev sKeys : Stmt := top 14
abbrev sNaming : Stmt := top 15
abbrev sIsFraction : Stmt := top 16
abbrev sFraction : Stmt := top 17
abbrev sWhole : Stmt := top 19
abbrev sLowest : Stmt := top 18
theorem same_upd {H : Hp} {p : Addr} {o : HO} (n : H p = none) : Same H (upd H p o) := fun b u e => by
  rw [upd_ne (ne_of_none e n)]
  exact e
theorem same_trans {H H1 H2 : Hp} (a : Same H H1) (b : Same H1 H2) : Same H H2 := fun c o e => b c o (a c o e)
def BB : Int := 1000000000000000000000000000000000000000000000000000000000000
structure TxW (K : PySem.W.Frag) (mg : Str → Option Value) : Prop where
  isi : mg "isinstance" = none
  int : mg "int" = none
  bool : mg "bool" = none
  str : mg "str" = none
  tuple : mg "tuple" = none
  dict : mg "dict" = none
  len : mg "len" = none
  all : mg "all" = none
  bound : ∃ t, mg "_BOUND" = some (.int BB t)
  letters : ∃ t, mg "MAX_LETTERS" = some (.int 8 t)
  low : ∃ fL dL, mg "lowest" = some (.ref fL) ∧ Fun K "lowest" "lowest" sLowest fL dL ∧ Binds K dL ["top", "bottom"] []
/-- a value that may be judged: of a known kind, a text not too long -/
structure Vok (H : Hp) (v : V) : Prop where
  kn : ∃ n, Kn H v n
  sm : ∀ x, v = .str x → x.length ≤ 1000
theorem Vok.same {H H' : Hp} {v : V} (h : Vok H v) (s : Same H H') : Vok H' v := ⟨by obtain ⟨n, k⟩ := h.kn; exact ⟨n, k.same s⟩, h.sm⟩
def wholeV : V → Bool
  | .int _ => true
  | _ => false
theorem whole_is {H : Hp} {v : V} {n : String} (h : Kn H v n) : (isB n "int" && !isB n "bool") = wholeV v := by
  cases h <;> rfl
def intV : V → Bool
  | .int i => decide (-BB < i) && decide (i < BB)
  | _ => false
def countV : V → Bool
  | .int i => decide (0 ≤ i) && decide (i < BB)
  | _ => false
def nameV : V → Bool
  | .str x => nameS x
  | _ => false
/-- a judge that lays nothing -/
def spJ (f : V → Bool) : Sp := fun vs H Q _ => ∃ v, vs = [v] ∧ Vok H v ∧ Q (.bl (f v)) H
theorem spJ_len {f : V → Bool} : ∀ vs H Q E, spJ f vs H Q E → vs.length = (["value"] : List Str).length := fun vs H Q E h => by
  obtain ⟨v, rfl, _⟩ := h
  rfl
section
variable {P : Program} {w : World} {K : PySem.W.Frag} {mg : Str → Option Value} {base : Heap} {gg : Bool}
theorem scWhole : FnScope ["value"] ["value"] (defScope sWhole) := ⟨rfl, rfl, rfl, by decide +kernel, rfl, by decide +kernel, by decide +kernel⟩
theorem ok_whole {f : Addr} {fd : FuncData} (F : Fun K "_is_whole" "_is_whole" sWhole f fd) (T : TxW K mg) : FnV gg P w K mg base CX0 1 f fd ["value"] (spJ wholeV) := by
  refine fnV F scWhole spJ_len (fun cdv Ar fr s H vs Q E hG hr h => ?_)
  obtain ⟨v, rfl, hv, q⟩ := h
  obtain ⟨n, kn⟩ := hv.kn
  refine ⟨_, pss_one (ps_ret (pe_and (pe_is (t := "int") (.inl rfl) (by rfl) T.isi (by rfl) T.int (by decide +kernel) (pv 0) mono_var)
    (pe_one (pe_not (pe_is (t := "bool") (.inr (.inl rfl)) (by rfl) T.isi (by rfl) T.bool (by decide +kernel) (pv 0) mono_var))))), ?_⟩
  refine ⟨_, rfl, n, kn, _, rfl, ?_⟩
  have e := whole_is kn
  by_cases c : isB n "int" = true
  · rw [if_pos c]
    refine ⟨_, rfl, n, kn, _, rfl, ?_⟩
    rw [c, Bool.true_and] at e
    show Q (.bl (!isB n "bool")) H
    rw [e]
    exact q
  · rw [if_neg c]
    have c' : isB n "int" = false := by simpa using c
    rw [c', Bool.false_and] at e
    rw [← e] at q
    exact q
theorem scInteger : FnScope ["value"] ["value"] (defScope sInteger) := ⟨rfl, rfl, rfl, by decide +kernel, rfl, by decide +kernel, by decide +kernel⟩
theorem ok_integer {f fW : Addr} {fd dW : FuncData} (F : Fun K "is_integer" "is_integer" sInteger f fd) (T : TxW K mg) (mW : mg "_is_whole" = some (.ref fW)) (FW : Fun K "_is_whole" "_is_whole" sWhole fW dW) (bW : Binds K dW ["value"] []) :
    FnV gg P w K mg base CX0 2 f fd ["value"] (spJ intV) := by
  have GW : FnV gg P w K mg base CX0 1 fW dW ["value"] (spJ wholeV) := ok_whole FW T
  obtain ⟨tb, mB⟩ := T.bound
  refine fnV F scInteger spJ_len (fun cdv Ar fr s H vs Q E hG hr h => ?_)
  obtain ⟨v, rfl, hv, q⟩ := h
  refine ⟨_, pss_one (ps_ret (pe_and (pe_callV (E := fun _ _ _ _ => False) hG GW hr (by rfl) mW FW.kp bW .nil (fun _ => passAt0) (pa_cons (pv 0) pa_nil))
    (pe_one (pe_chain op_lt op_lt (pe_un un_neg (pe_glob (v := .int BB) (by rfl) mB ⟨tb, rfl⟩)) (pv 0) (pe_glob (v := .int BB) (by rfl) mB ⟨tb, rfl⟩))))), ?_⟩
  refine ⟨_, rfl, v, rfl, hv, _, rfl, ?_⟩
  by_cases c : wholeV v = true
  · rw [if_pos c]
    obtain ⟨i, rfl⟩ : ∃ i, v = .int i := by
      cases v <;> first | exact ⟨_, rfl⟩ | cases c
    refine ⟨_, rfl, _, rfl, _, _, rfl, rfl, _, rfl, ?_⟩
    by_cases d : decide (-BB < i) = true
    · rw [if_pos d]
      refine ⟨_, _, rfl, rfl, ?_⟩
      have e : intV (.int i) = decide (i < BB) := by
        show (decide (-BB < i) && decide (i < BB)) = _
        rw [d, Bool.true_and]
      show Q (.bl (decide (i < BB))) H
      rw [← e]
      exact q
    · rw [if_neg d]
      have e : intV (.int i) = false := by
        show (decide (-BB < i) && decide (i < BB)) = _
        rw [Bool.eq_false_iff.mpr d, Bool.false_and]
      rw [← e]
      exact q
  · rw [if_neg c]
    have e : intV v = false := by
      cases v <;> first | rfl | exact absurd rfl c
    rw [← e]
    exact q
theorem scCount : FnScope ["value"] ["value"] (defScope sCount) := ⟨rfl, rfl, rfl, by decide +kernel, rfl, by decide +kernel, by decide +kernel⟩
theorem ok_count {f fI fW : Addr} {fd dI dW : FuncData} (F : Fun K "is_count" "is_count" sCount f fd) (T : TxW K mg) (mI : mg "is_integer" = some (.ref fI)) (FI : Fun K "is_integer" "is_integer" sInteger fI dI) (bI : Binds K dI ["value"] [])
    (mW : mg "_is_whole" = some (.ref fW)) (FW : Fun K "_is_whole" "_is_whole" sWhole fW dW) (bW : Binds K dW ["value"] []) : FnV gg P w K mg base CX0 3 f fd ["value"] (spJ countV) := by
  have GI : FnV gg P w K mg base CX0 2 fI dI ["value"] (spJ intV) := ok_integer FI T mW FW bW
  refine fnV F scCount spJ_len (fun cdv Ar fr s H vs Q E hG hr h => ?_)
  obtain ⟨v, rfl, hv, q⟩ := h
  refine ⟨_, pss_one (ps_ret (pe_and (pe_callV (E := fun _ _ _ _ => False) hG GI hr (by rfl) mI FI.kp bI .nil (fun _ => passAt0) (pa_cons (pv 0) pa_nil))
    (pe_one (pe_cmpR op_ge (pv 0) pe_int (nomark _))))), ?_⟩
  refine ⟨_, rfl, v, rfl, hv, _, rfl, ?_⟩
  by_cases c : intV v = true
  · rw [if_pos c]
    obtain ⟨i, rfl⟩ : ∃ i, v = .int i := by
      cases v <;> first | exact ⟨_, rfl⟩ | cases c
    refine ⟨_, rfl, _, _, rfl, rfl, ?_⟩
    have lt : decide (i < BB) = true := by
      have : (decide (-BB < i) && decide (i < BB)) = true := c
      exact (Bool.and_eq_true_iff.mp this).2
    have e : countV (.int i) = decide (0 ≤ i) := by
      show (decide (0 ≤ i) && decide (i < BB)) = _
      rw [lt, Bool.and_true]
    show Q (.bl (decide (0 ≤ i))) H
    rw [← e]
    exact q
  · rw [if_neg c]
    have e : countV v = false := by
      cases v with
      | int i =>
        show (decide (0 ≤ i) && decide (i < BB)) = false
        have n : ¬ (decide (-BB < i) && decide (i < BB)) = true := c
        by_cases z : 0 ≤ i
        · have : ¬ i < BB := fun l => n (by
            have : -BB < i := by
              have : (0 : Int) < BB := by decide
              omega
            simp [this, l])
          simp [this]
        · simp [z]
      | _ => rfl
    rw [← e]
    exact q
theorem scName : FnScope ["value"] ["value"] (defScope sName) := ⟨rfl, rfl, rfl, by decide +kernel, rfl, by decide +kernel, by decide +kernel⟩
theorem ok_name {f : Addr} {fd : FuncData} (F : Fun K "is_name" "is_name" sName f fd) (T : TxW K mg) : FnV gg P w K mg base CX0 1 f fd ["value"] (spJ nameV) := by
  obtain ⟨tm, mM⟩ := T.letters
  refine fnV F scName spJ_len (fun cdv Ar fr s H vs Q E hG hr h => ?_)
  obtain ⟨v, rfl, hv, q⟩ := h
  obtain ⟨n, kn⟩ := hv.kn
  refine ⟨_, pss_cons (ps_if (PW.pt (pw_or (pt_not (pt_val (pe_is (t := "str") (.inr (.inr (.inl rfl))) (by rfl) T.isi (by rfl) T.str (by decide +kernel) (pv 0) mono_var)))
      (pw_or1 (pt_not (pt_chain op_le op_le pe_int (pe_callB call_len_str (by rfl) T.len PySem.boot_len (pa_cons (pv 0) pa_nil)) (pe_glob (v := .int 8) (by rfl) mM ⟨tm, rfl⟩))))))
      (pss_one (ps_ret pe_bl)) pss_nil)
    (pss_one (ps_ret (pe_and (pe_bm0 PySem.F.plainAttrs_str PySem.F.slot_str_isascii PySem.F.type_str_isascii mt_isascii (pv 0))
      (pe_and (pe_bm0 PySem.F.plainAttrs_str PySem.F.slot_str_isalpha PySem.F.type_str_isalpha mt_isalpha (pv 0))
        (pe_one (pe_bm0 PySem.F.plainAttrs_str PySem.F.slot_str_islower PySem.F.type_str_islower mt_islower (pv 0))))))), ?_⟩
  refine ⟨_, rfl, n, kn, _, rfl, ?_⟩
  by_cases c : ∃ x, v = .str x
  · obtain ⟨x, rfl⟩ := c
    have en : n = "str" := by cases kn; rfl
    subst en
    have sm : x.length ≤ sizeLine := Nat.le_trans (hv.sm x rfl) (by decide)
    rw [if_neg (by decide)]
    refine ⟨_, rfl, x, rfl, sm, _, _, rfl, rfl, _, rfl, ?_⟩
    by_cases c1 : decide ((1 : Int) ≤ (x.length : Int)) = true
    · rw [if_pos c1]
      refine ⟨_, _, rfl, rfl, _, rfl, ?_⟩
      by_cases c2 : decide ((x.length : Int) ≤ 8) = true
      · rw [c2]
        have h1 : 1 ≤ x.length := by
          have := of_decide_eq_true c1
          omega
        have h8 : x.length ≤ 8 := by
          have := of_decide_eq_true c2
          omega
        have e := name_is h1 h8
        refine ⟨_, rfl, rfl, x, rfl, rfl, trivial, _, rfl, ?_⟩
        by_cases a1 : Txt.isascii x = true
        · rw [if_pos a1]
          refine ⟨_, rfl, rfl, x, rfl, rfl, trivial, _, rfl, ?_⟩
          rw [a1, Bool.true_and] at e
          by_cases a2 : Txt.isalpha x = true
          · rw [if_pos a2]
            refine ⟨_, rfl, rfl, x, rfl, rfl, trivial, ?_⟩
            rw [a2, Bool.true_and] at e
            show Q (.bl (Txt.islower x)) H
            rw [e]
            exact q
          · rw [if_neg a2]
            rw [Bool.eq_false_iff.mpr a2, Bool.false_and] at e
            show Q (.bl false) H
            rw [e]
            exact q
        · rw [if_neg a1]
          rw [Bool.eq_false_iff.mpr a1, Bool.false_and] at e
          show Q (.bl false) H
          rw [e]
          exact q
      · rw [Bool.eq_false_iff.mpr c2]
        have e : nameV (.str x) = false := by
          have : ¬ x.length ≤ 8 := fun l => c2 (decide_eq_true (by omega))
          show nameS x = false
          unfold nameS
          simp [this]
        show Q (.bl false) H
        rw [← e]
        exact q
    · rw [if_neg c1]
      have e : nameV (.str x) = false := by
        have : ¬ 1 ≤ x.length := fun l => c1 (decide_eq_true (by omega))
        show nameS x = false
        unfold nameS
        simp [this]
      refine ⟨_, rfl, ?_⟩
      show Q (.bl false) H
      rw [← e]
      exact q
  · have en : isB n "str" = false := by
      cases kn <;> first | rfl | exact (c ⟨_, rfl⟩).elim
    have ev : nameV v = false := by
      cases v <;> first | rfl | exact (c ⟨_, rfl⟩).elim
    rw [en]
    show Q (.bl false) H
    rw [← ev]
    exact q
end
/-! ### tuples of names -/
/-- a value, and whether it is a tuple of names -/
inductive NamesOf (H : Hp) : V → Bool → Prop
  | tup {a : Addr} {xs : List V} (e : H a = some (.tup xs)) (ok : ∀ x ∈ xs, Vok H x) (few : xs.length ≤ 1000) : NamesOf H (.ref a) (xs.all nameV)
  | no {v : V} {n : String} (kn : Kn H v n) (ne : isB n "tuple" = false) : NamesOf H v false
theorem NamesOf.same {H H' : Hp} {v : V} {b : Bool} (h : NamesOf H v b) (s : Same H H') : NamesOf H' v b := by
  cases h with
  | tup e ok few => exact .tup (s _ _ e) (fun x m => (ok x m).same s) few
  | no kn ne => exact .no (kn.same s) ne
def spNames : Sp := fun vs H Q _ => ∃ v b, vs = [v] ∧ NamesOf H v b ∧ ∀ H', Same H H' → Q (.bl b) H'
theorem take_one {α β : Type} {f : α → β} {xs : List α} {i : Nat} {x : α} (h : xs[i]? = some x) : (xs.map f).take (i + 1) = (xs.map f).take i ++ [f x] := by
  have e : (xs.map f)[i]? = some (f x) := by rw [List.getElem?_map, h]; rfl
  rw [List.take_add_one, e]
  rfl
abbrev nN : List Str := ["value", "word"]
section
variable {P : Program} {w : World} {K : PySem.W.Frag} {mg : Str → Option Value} {base : Heap} {gg : Bool}
theorem scNames : FnScope ["value", "word"] ["value"] (defScope sNames) := ⟨rfl, rfl, rfl, by decide +kernel, rfl, by decide +kernel, by decide +kernel⟩
theorem ok_names {f fN : Addr} {fd dN : FuncData} (F : Fun K "are_names" "are_names" sNames f fd) (T : TxW K mg) (mN : mg "is_name" = some (.ref fN)) (FN : Fun K "is_name" "is_name" sName fN dN) (bN : Binds K dN ["value"] []) : FnV gg P w K mg base CX0 2 f fd ["value"] spNames := by
  have GN : FnV gg P w K mg base CX0 1 fN dN ["value"] (spJ nameV) := ok_name FN T
  refine fnV F scNames (fun vs H Q E h => ?_) (fun cdv Ar fr s H vs Q E hG hr h => ?_)
  · obtain ⟨v, b, rfl, _⟩ := h
    rfl
  · obtain ⟨v, b, rfl, hv, q⟩ := h
    refine ⟨_, pss_one (ps_ret (pe_and (pe_is (t := "tuple") (.inr (.inr (.inr (.inl rfl)))) (by rfl) T.isi (by rfl) T.tuple (by decide +kernel) (pv 0) mono_var)
      (pe_one (pe_callB (cr_all rfl) (by rfl) T.all (by decide +kernel) (pa_cons
        (pe_lc (own := [("word", 1)]) (g := gName 1) (by rfl) scNames.nd (pi_tup (pv 0))
          (blkOk_by (N := nN) (sc := defScope sNames) (own := [("word", 1)]) (by decide +kernel)) (fun _ _ _ _ _ => pg_name (i := 1) scNames.nd rfl (Or.inl rfl)) (fun _ _ _ _ _ => pts_nil)
          (fun _ _ _ _ _ => pe_callV (E := fun _ _ _ _ => False) hG GN hr (by rfl) mN FN.kp bN .nil (fun _ => passAt0) (pa_cons (pv 1) pa_nil))) pa_nil))))), ?_⟩
    cases hv with
    | no kn ne =>
      refine ⟨_, rfl, _, kn, _, rfl, ?_⟩
      rw [if_neg (by rw [ne]; decide)]
      exact q _ fun _ _ e => e
    | @tup a xs e ok few =>
      refine ⟨_, rfl, _, .tup e, _, rfl, ?_⟩
      rw [if_pos (by decide)]
      refine ⟨_, rfl, a, rfl, ⟨_, SqT.of e⟩, fun D nD => ?_⟩
      refine lc_tup (K := K) (a := a) (xs := xs) (fun i Hc => Same H Hc ∧ Hc D = some (.lst (((xs.map nameV).take i).map V.bl))) ⟨same_upd nD, upd_same⟩ (fun i Hc _ z => SqT.of (z.1 _ _ e)) ?_ ?_
      · rintro i x Hc hx ⟨sm, hD⟩
        have mx : x ∈ xs := List.mem_of_getElem? hx
        refine ⟨rfl, _, rfl, x, rfl, (ok x mx).same sm, _, hD, ?_, fun b o e => ?_, ?_⟩
        · rw [List.length_map, List.length_take, List.length_map]
          exact Nat.lt_of_le_of_lt (Nat.le_trans (Nat.min_le_right _ _) few) (by decide)
        · have ne : b ≠ D := ne_of_none e nD
          rw [upd_ne ne]
          exact sm _ _ e
        · rw [upd_same]
          refine congrArg (fun l => some (HO.lst l)) ?_
          rw [take_one hx]
          simp
      · rintro Hc ⟨sm, hD⟩
        refine ⟨D, (xs.map nameV), rfl, ?_, ?_⟩
        · refine SqL.of ?_
          rw [hD]
          congr 2
          rw [List.take_of_length_le (by simp)]
        · have e : (xs.map nameV).all id = xs.all nameV := by
            rw [List.all_map]
            rfl
          show Q (.bl ((xs.map nameV).all id)) Hc
          rw [e]
          exact q _ sm
end
end Lx

/-! Sets of texts whose order can be walked. -/
namespace Fw
open PySem PySem.Spec PyProof.Rows L2
/-! ### the set at an address -/
def txOf (e : Int × Value) : Str := match e.2 with | .str k _ => k | _ => Str.empty
def TxE (w : World) (e : Int × Value) : Prop := ∃ k tk, e.2 = Value.str k tk ∧ e.1 = hashStr w k
/-- l: the members, each once -/
def SetW (w : World) (h : Heap) (a : Addr) (l : List Str) : Prop :=
  ∃ ob el ep tb, h.get? a = some ob ∧ ob.ExactSet ∧ ob.data = .set el ep tb ∧ (∀ e ∈ el.toList, TxE w e) ∧ (el.toList.map txOf).Perm l ∧ l.Nodup ∧
    el.size < scanBound ∧ tb.fits el.size = true ∧ Ris tb.place.toList ∧ (w.params.followText "set-order" = true ∨ tb.led = true)
section
variable {P : Program} {w : World} {h h' : Heap} {a : Addr} {l : List Str}
theorem SetW.at (R : SetW w h a l) (k : ∀ u, h.get? a = some u → h'.get? a = some u) : SetW w h' a l := by
  obtain ⟨ob, el, ep, tb, hob, z⟩ := R
  exact ⟨ob, el, ep, tb, k ob hob, z⟩
theorem SetW.perm {l' : List Str} (R : SetW w h a l) (p : l.Perm l') : SetW w h a l' := by
  obtain ⟨ob, el, ep, tb, hob, x, d, g, pm, nd, z⟩ := R
  exact ⟨ob, el, ep, tb, hob, x, d, g, pm.trans p, p.nodup_iff.mp nd, z⟩
theorem txE_elems {r : List (Int × Value)} (g : ∀ e ∈ r, TxE w e) : ElemsOf (strKind P w) r := fun e m => by
  obtain ⟨k, tk, e1, e2⟩ := g e m
  refine ⟨⟨k, ?_, e2⟩, ?_⟩
  · rw [e1]
    exact strKind_is P w k tk
  · rw [e1]
    rfl
theorem txE_is {e : Int × Value} (g : TxE w e) (k : Str) : (strKind P w).is k e.2 = true ↔ txOf e = k := by
  obtain ⟨c, tk, e1, _⟩ := g
  unfold txOf
  rw [e1]
  show Value.isStrOf k (.str c tk) = true ↔ c = k
  constructor
  · intro z
    obtain ⟨u, hu⟩ := Value.isStrOf_shape z
    injection hu
  · rintro rfl
    exact strKind_is P w c tk
theorem txE_mem {r : List (Int × Value)} (g : ∀ e ∈ r, TxE w e) (k : Str) : k ∈ r.map txOf ↔ ∃ e ∈ r, (strKind P w).is k e.2 = true := by
  rw [List.mem_map]
  exact ⟨fun ⟨e, m, q⟩ => ⟨e, m, (txE_is (g e m) k).2 q⟩, fun ⟨e, m, q⟩ => ⟨e, m, (txE_is (g e m) k).1 q⟩⟩
theorem SetW.setOf (R : SetW w h a l) : h.SetOf (strKind P w) a (fun k => decide (k ∈ l)) l.length := by
  obtain ⟨ob, el, ep, tb, hob, x, d, g, pm, nd, few, fit, _⟩ := R
  refine ⟨ob, el, ep, tb, hob, x, d, txE_elems g, fun k => ?_, few, fit, ?_⟩
  · rw [decide_eq_true_eq, ← pm.mem_iff]
    exact txE_mem g k
  · rw [← pm.length_eq, List.length_map, Array.length_toList]
theorem SetW.nodup (R : SetW w h a l) : l.Nodup := by
  obtain ⟨_, _, _, _, _, _, _, _, _, nd, _⟩ := R
  exact nd
end
/-- with one more text -/
def addT (l : List Str) (k : Str) : List Str := if k ∈ l then l else l ++ [k]
section
variable {P : Program} {w : World} {A : Around} {E : Value → Shared → Prop} {s : Shared} {a : Addr} {l : List Str}
theorem laid_at {hp : Heap} {ob : Obj} {el el' : Array (Int × Value)} {ep : Nat} {tb tb' : SetTable} (hob : hp.get? a = some ob) (dat : ob.data = .set el ep tb) :
    (hp.update a (Obj.putSet el' tb')).get? a = some { ob with data := .set el' (ep + 1) tb' } := by
  have z := Heap.get?_update_self (Obj.putSet el' tb') hob (by rw [putSet_of el' tb' dat]; rfl)
  rwa [putSet_of el' tb' dat] at z
theorem setW_tail {g : Bool → Sem Unit} (free : ∀ (b : Bool) (s1 : Shared) (Q' : Unit → Shared → Prop), Q' () s1 → wpAny (model P w) A (g b) Q' E s1)
    {ob : Obj} {el : Array (Int × Value)} {ep : Nat} {tb : SetTable} (hob : s.heap.get? a = some ob) (xs : ob.ExactSet) (dat : ob.data = .set el ep tb)
    {el1 : Array (Int × Value)} {tb2 : SetTable} {l' : List Str} (good : ∀ e ∈ el1.toList, TxE w e) (pm : (el1.toList.map txOf).Perm l') (nd : l'.Nodup)
    (few : el1.size < scanBound) (fit : tb2.fits el1.size = true) (ris : Ris tb2.place.toList) (led : w.params.followText "set-order" = true ∨ tb2.led = true) {wd : Bool} {R : Option Bool → Shared → Prop}
    (fin : ∀ h', Heap.SameBut a s.heap h' → SetW w h' a l' → R (some true) { s with heap := h' }) :
    wpAny (model P w) A (do
        storeSet a el1 tb2
        if (!wd && tb2.tooFull) = true then do
            g (relayAll tb2 el1 (SetTable.grown el1.size)).2.2
            storeSet a (relayAll tb2 el1 (SetTable.grown el1.size)).1 (relayAll tb2 el1 (SetTable.grown el1.size)).2.1
            pure (some true)
          else pure (some true)) R E s := by
  refine wpAny_bind (wpAny_storeSet_of hob dat ?_ (fits_of_scanBound few))
  have at1 := laid_at (el' := el1) (tb' := tb2) hob dat
  have but1 := Heap.SameBut.update s.heap a (Obj.putSet el1 tb2)
  split
  · have p2 := relayAll_perm tb2 el1 (SetTable.grown el1.size)
    have f2 := relayAll_fits tb2 el1 (SetTable.grown el1.size)
    have r2 := relayAll_ris tb2 el1 (SetTable.grown el1.size)
    have d2 := relayAll_led tb2 el1 (SetTable.grown el1.size)
    generalize relayAll tb2 el1 (SetTable.grown el1.size) = Z at p2 f2 r2 d2 ⊢
    obtain ⟨el2, tb3, gave⟩ := Z
    dsimp only at p2 f2 r2 d2 ⊢
    have sz : el2.size = el1.size := by
      have z := p2.length_eq
      rwa [Array.length_toList, Array.length_toList] at z
    have few2 : el2.size < scanBound := sz ▸ few
    refine wpAny_bind (free _ _ _ ?_)
    refine wpAny_bind (wpAny_storeSet_of at1 rfl ?_ (fits_of_scanBound few2))
    have at2 := laid_at (el' := el2) (tb' := tb3) at1 rfl
    refine wpAny_pure (fin _ (but1.trans (Heap.SameBut.update _ a _)) ?_)
    refine ⟨_, el2, _, tb3, at2, xs, rfl, fun e m => good e (p2.mem_iff.mp m), (p2.map txOf).trans pm, nd, few2, f2, r2, ?_⟩
    rw [d2]
    exact led
  · exact wpAny_pure (fin _ but1 ⟨_, el1, _, tb2, at1, xs, rfl, good, pm, nd, few, fit, ris, led⟩)
theorem setW_add {k : Str} {tk : Tok} {Q : Bool → Shared → Prop} (R : SetW w s.heap a l) (room : l.length + 1 < scanBound)
    (fin : ∀ h', Heap.SameBut a s.heap h' → SetW w h' a (addT l k) → Q (!decide (k ∈ l)) { s with heap := h' }) :
    wpAny (model P w) A (setAddHashed a (.str k tk) ((strKind P w).hash k)) Q E s := by
  obtain ⟨ob, el, ep, tb, hob, xs, dat, good, pm, nd, few, fit, ris, led⟩ := R
  have isk : (strKind P w).is k (.str k tk) = true := strKind_is P w k tk
  have scn : (Value.str k tk).scannable = true := rfl
  have els : ElemsOf (strKind P w) el.toList := txE_elems good
  have lenE : el.size = l.length := by rw [← pm.length_eq, List.length_map, Array.length_toList]
  unfold setAddHashed setAddHashedIn
  refine wpAny_holding (wpAny_bind (wpAny_setState_of hob dat fit ?_))
  dsimp only
  rw [byScan_of scn few els]
  simp only [↓reduceIte]
  unfold setAddByScan
  refine wpAny_bind ?_
  refine wpAny_bind (wpAny_rule ?_)
  refine wpAny_bind (wpAny_setScan_of isk hob dat fit els ?_)
  cases fi : List.findIdx? (fun e => (strKind P w).is k e.2) el.toList with
  | some j =>
    dsimp only
    obtain ⟨lj, pj, _⟩ := List.findIdx?_eq_some_iff_getElem.mp fi
    have inl : k ∈ l := pm.mem_iff.mp ((txE_mem (P := P) good k).2 ⟨el.toList[j], List.getElem_mem lj, pj⟩)
    refine wpAny_pure (wpAny_pure ?_)
    have z := fin s.heap (Heap.SameBut.refl a s.heap)
    unfold addT at z
    rw [if_pos inl, decide_eq_true inl] at z
    exact z ⟨ob, el, ep, tb, hob, xs, dat, good, pm, nd, few, fit, ris, led⟩
  | none =>
    dsimp only
    have out : k ∉ l := fun m => by
      obtain ⟨e, me, q⟩ := (txE_mem (P := P) good k).1 (pm.mem_iff.mpr m)
      have c := List.findIdx?_eq_none_iff.mp fi e me
      rw [q] at c
      cases c
    have gives : ∀ (b : Bool) {s1 : Shared} {Q' : Unit → Shared → Prop}, Q' () s1 → wpAny (model P w) A (match b with | true => rule "set.scan.the-table-gave-way" | false => pure ()) Q' E s1 :=
      fun b s1 Q' q => by cases b <;> first | exact wpAny_pure q | exact wpAny_rule q
    have p1 := layNew_perm tb el ((strKind P w).hash k) (.str k tk)
    have f1 := layNew_fits tb el ((strKind P w).hash k) (.str k tk)
    have r1 := layNew_ris tb el ((strKind P w).hash k) (.str k tk) ris
    have d1 := layNew_led tb el ((strKind P w).hash k) (.str k tk)
    generalize layNew tb el ((strKind P w).hash k) (.str k tk) = Z at p1 f1 r1 d1 ⊢
    obtain ⟨el1, tb1, wd, gave⟩ := Z
    dsimp only at p1 f1 r1 d1 ⊢
    rw [Array.toList_push] at p1
    have q1 : (el1.toList.map txOf).Perm (addT l k) := by
      unfold addT
      rw [if_neg out]
      refine (p1.map txOf).trans ?_
      rw [List.map_append]
      exact pm.append (List.Perm.refl [k])
    have good1 : ∀ e ∈ el1.toList, TxE w e := fun e m => by
      rcases List.mem_append.mp (p1.mem_iff.mp m) with z | z
      · exact good e z
      · rw [List.mem_singleton.mp z]
        exact ⟨k, tk, rfl, rfl⟩
    have nd1 : (addT l k).Nodup := by
      unfold addT
      rw [if_neg out]
      exact List.nodup_append.mpr ⟨nd, by simp, fun x hx y hy e => out (by rw [List.mem_singleton] at hy; rw [← hy, ← e]; exact hx)⟩
    have sz1 : el1.size = l.length + 1 := by
      have z := q1.length_eq
      unfold addT at z
      rwa [if_neg out, List.length_map, Array.length_toList, List.length_append] at z
    have few1 : el1.size < scanBound := sz1 ▸ room
    have led1 : w.params.followText "set-order" = true ∨ tb1.led = true := by
      rw [d1]
      exact led
    have last : ∀ h', Heap.SameBut a s.heap h' → SetW w h' a (addT l k) → Q true { s with heap := h' } := fun h' b r => by
      have z := fin h' b r
      rwa [decide_eq_false out] at z
    refine wpAny_bind (gives _ ?_)
    split
    · refine wpAny_bind ?_
      rw [hashByValue_scannable 8 scn]
      refine wpAny_pure ?_
      refine setW_tail ?_ hob xs dat good1 q1 nd1 few1 ?_ ?_ ?_ ?_
      · exact fun b s1 Q' q => by cases b <;> first | exact wpAny_pure q | exact wpAny_rule q
      · first | (split <;> first | exact f1 | exact SetTable.fits_plain_off f1) | exact f1
      · first | (split <;> exact r1) | exact r1
      · first | (split <;> exact led1) | exact led1
      · exact fun h' b r => by dsimp only; exact wpAny_pure (last h' b r)
    · refine wpAny_bind (wpAny_pure ?_)
      simp only [↓reduceIte]
      refine setW_tail ?_ hob xs dat good1 q1 nd1 few1 f1 r1 led1 ?_
      · exact fun b s1 Q' q => by cases b <;> first | exact wpAny_pure q | exact wpAny_rule q
      · exact fun h' b r => by dsimp only; exact wpAny_pure (last h' b r)
end
end Fw

/-! set(texts), its length, its members, sorted. -/
namespace Fw
open PySem PySem.Spec PyProof.Rows L2
/-- the texts, each at its first place -/
def dedT (xs : List Str) : List Str := xs.foldl addT []
theorem dedT_snoc (xs : List Str) (x : Str) : dedT (xs ++ [x]) = addT (dedT xs) x := by
  unfold dedT
  rw [List.foldl_append]
  rfl
theorem addT_len (l : List Str) (k : Str) : (addT l k).length ≤ l.length + 1 := by
  unfold addT
  split
  · omega
  · rw [List.length_append]
    exact Nat.le_refl _
theorem addT_mem (l : List Str) (k c : Str) : c ∈ addT l k ↔ c ∈ l ∨ c = k := by
  unfold addT
  split
  · rename_i h
    exact ⟨.inl, fun z => z.elim id fun e => e ▸ h⟩
  · rw [List.mem_append, List.mem_singleton]
theorem addT_nodup {l : List Str} (h : l.Nodup) (k : Str) : (addT l k).Nodup := by
  unfold addT
  split
  · exact h
  · rename_i n
    exact List.nodup_append.mpr ⟨h, by simp, fun x hx y hy e => n (by rw [List.mem_singleton] at hy; rw [← hy, ← e]; exact hx)⟩
theorem dedT_ind (p : List Str → List Str → Prop) (h0 : p [] []) (hs : ∀ xs l x, p xs l → p (xs ++ [x]) (addT l x)) (xs : List Str) : p xs (dedT xs) := by
  have gen : ∀ (r done l : List Str), p done l → p (done ++ r) (r.foldl addT l) := by
    intro r
    induction r with
    | nil => intro done l h; simpa using h
    | cons y r ih =>
      intro done l h
      have z := ih (done ++ [y]) (addT l y) (hs _ _ _ h)
      rw [List.append_assoc] at z
      exact z
  have z := gen xs [] [] h0
  rwa [List.nil_append] at z
theorem dedT_len (xs : List Str) : (dedT xs).length ≤ xs.length := dedT_ind (fun xs l => l.length ≤ xs.length) (Nat.le_refl _) (fun xs l x h => by
  rw [List.length_append]
  exact Nat.le_trans (addT_len l x) (Nat.succ_le_succ h)) xs
theorem dedT_mem (xs : List Str) (c : Str) : c ∈ dedT xs ↔ c ∈ xs := dedT_ind (fun xs l => c ∈ l ↔ c ∈ xs) Iff.rfl (fun xs l x h => by
  rw [addT_mem, List.mem_append, List.mem_singleton, h]) xs
theorem dedT_nodup (xs : List Str) : (dedT xs).Nodup := dedT_ind (fun _ l => l.Nodup) List.nodup_nil (fun _ _ x h => addT_nodup h x) xs
theorem dedT_same {xs : List Str} (h : xs.Nodup) : dedT xs = xs := by
  refine dedT_ind (fun xs l => xs.Nodup → l = xs) (fun _ => rfl) (fun xs l x ih nd => ?_) xs h
  have nd' := List.nodup_append.mp nd
  have e := ih nd'.1
  rw [e]
  unfold addT
  exact if_neg fun m => nd'.2.2 x m x (by simp) rfl
theorem dedT_full {xs : List Str} (h : (dedT xs).length = xs.length) : xs.Nodup := by
  refine dedT_ind (fun xs l => l.length ≤ xs.length ∧ (∀ c, c ∈ l ↔ c ∈ xs) ∧ (l.length = xs.length → xs.Nodup)) ⟨Nat.le_refl _, fun _ => Iff.rfl, fun _ => List.nodup_nil⟩ (fun xs l x ih => ?_) xs |>.2.2 h
  obtain ⟨le, mem, full⟩ := ih
  refine ⟨?_, fun c => ?_, fun e => ?_⟩
  · rw [List.length_append]
    exact Nat.le_trans (addT_len l x) (Nat.succ_le_succ le)
  · rw [addT_mem, List.mem_append, List.mem_singleton, mem]
  · rw [List.length_append] at e
    have e : (addT l x).length = xs.length + 1 := e
    unfold addT at e
    split at e
    · omega
    · rename_i out
      rw [List.length_append] at e
      have e : l.length + 1 = xs.length + 1 := e
      refine List.nodup_append.mpr ⟨full (by omega), by simp, fun y hy z hz q => out ?_⟩
      rw [List.mem_singleton] at hz
      rw [← hz, ← q]
      exact (mem y).2 hy
section
variable {P : Program} {w : World} {A : Around} {E : Value → Shared → Prop} {s : Shared}
/-- the loop of a new set over texts -/
theorem setW_loop {I : Addr} {fp wr : List Addr} {G : Array GenState → Array GenState → Prop} {n : Nat} {Pv : Nat → Value → Prop} {St : Nat → Shared → Prop} {R : Result → Shared → Prop}
    (W : WalksS P w A.in1 I fp wr G n Pv St) (T : Addr) (off : T ∉ fp) (xs : List Str) (len : n = xs.length) (few : xs.length + 1 < scanBound) (val : ∀ i v, Pv i v → ∃ k t, xs[i]? = some k ∧ v = .str k t) :
    ∀ (k i : Nat) (s : Shared), n - i = k → i ≤ n → St i s → SetW w s.heap T (dedT (xs.take i)) →
      (∀ s', Moved (T :: wr) G s s' → SetW w s'.heap T (dedT xs) → R (.ok (.ret .none)) s') →
      codeAny (model P w) A (.builtin "set.update.loop" ⟨[.ref T, .ref I], []⟩) R s := by
  have offW : T ∉ wr := fun h => off (W.sub _ h)
  have more : ∀ b ∈ wr, b ∈ T :: wr := fun b m => List.mem_cons_of_mem _ m
  intro k
  induction k with
  | zero =>
    intro i s ek le st hT fin
    have ei : i = n := by omega
    subst ei
    refine codeAny_builtin PyProof.Rows.F.entry_set_update_loop ?_
    rw [Around.under_plainId PyProof.Rows.F.plain_set_update_loop _]
    show wpAny _ A.in1 (pyNext (.ref I) >>= fun _ => _) _ _ s
    refine wpAny_bind (W.done s _ _ st fun s' mv => ?_)
    show wpAny _ A.in1 (ret Value.none) _ _ s'
    rw [List.take_of_length_le (by omega)] at hT
    exact wpAny_pure (fin s' (mv.mono more) (hT.at fun u e => mv.heap T u offW e))
  | succ k ih =>
    intro i s ek le st hT fin
    have lt : i < n := by omega
    refine codeAny_builtin PyProof.Rows.F.entry_set_update_loop ?_
    rw [Around.under_plainId PyProof.Rows.F.plain_set_update_loop _]
    show wpAny _ A.in1 (pyNext (.ref I) >>= fun _ => _) _ _ s
    refine wpAny_bind (W.item i s _ _ lt st fun v s' pv st' mv => ?_)
    obtain ⟨x, t, ex, rfl⟩ := val i v pv
    have hT' : SetW w s'.heap T (dedT (xs.take i)) := hT.at fun u e => mv.heap T u offW e
    show wpAny _ A.in1 (holding [Value.str x t] (setAdd T (.str x t)) >>= fun _ => _) _ _ s'
    refine wpAny_bind (wpAny_holding ?_)
    unfold setAdd
    refine wpAny_holding ?_
    refine wpAny_bind ((strKind P w).pyHash (k := x) (strKind_is P w x t) ?_)
    have short : (dedT (xs.take i)).length + 1 < scanBound := by
      have z := dedT_len (xs.take i)
      rw [List.length_take] at z
      omega
    refine setW_add (s := { s' with toks := s'.toks + 1 }) hT' short fun h' but new => ?_
    have new' : SetW w h' T (dedT (xs.take (i + 1))) := by
      rw [List.take_add_one, ex]
      show SetW w h' T (dedT (xs.take i ++ [x]))
      rw [dedT_snoc]
      exact new
    refine wpAny_pure ⟨plainId_quiet PyProof.Rows.F.plain_set_update_loop _, ih (i + 1) _ (by omega) lt (W.frame _ s' _ _ st' (Nat.le_succ _) fun b m u e => ?_) new' fun s'' mv2 hT2 => ?_⟩
    · rw [but.2 b fun q => off (q ▸ m)]
      exact e
    · refine fin s'' (Moved.trans W.gtrans ((mv.mono more).then_heap (Nat.le_succ _) fun b u m e => ?_) mv2) hT2
      rw [but.2 b fun q => m (q ▸ List.mem_cons_self)]
      exact e
theorem setW_fresh {h : Heap} {a : Addr} (new : h.get? a = some { cls := .type "set", dict := none, data := .set #[] 0 (.fresh 0 0 (!w.params.followText "set-order")) }) : SetW w h a [] := by
  refine ⟨_, #[], 0, _, new, ⟨rfl, rfl, rfl⟩, rfl, fun e m => by simp at m, List.Perm.refl _, List.nodup_nil, by decide, rfl, List.Pairwise.nil, ?_⟩
  show _ ∨ (!w.params.followText "set-order") = true
  cases w.params.followText "set-order"
  · exact .inr rfl
  · exact .inl rfl
abbrev newSet (w : World) : Obj := { cls := .type "set", dict := none, data := .set #[] 0 (.fresh 0 0 (!w.params.followText "set-order")) }
set_option maxHeartbeats 8000000 in
/-- set(x), x a list or a tuple of texts -/
theorem call_setW {T : String} {l : Addr} {items : Array Value} (xs : List Str) {Q : Value → Shared → Prop} (kind : (T = "list" ∧ s.heap.IsList l items) ∨ (T = "tuple" ∧ s.heap.IsTuple l items)) (hd : A.handled = none) (hit : StrsAre items.toList xs) (few : xs.length + 1 < scanBound)
    (fin : ∀ (h' : Heap) (tk : Nat), SetW w h' s.heap.objs.size (dedT xs) → (∀ b u, s.heap.get? b = some u → h'.get? b = some u) → Q (.ref s.heap.objs.size) { s with heap := h', toks := tk }) :
    wpAny (model P w) A (call (.type "set") [.ref l]) Q E s := by
  have size : items.size = xs.length := by
    have z := StrsAre.len_eq hit
    rwa [Array.length_toList] at z
  obtain ⟨c, tl, hmro⟩ := PySem.F.called_set.mro
  have made := PySem.F.called_set.made
  have sub := PySem.F.called_set.sub
  refine wpAny_call (codeAny_of_tree ?_)
  show wpAny _ _ (callAny (.type "set") _) _ _ s
  refine wpAny_pure ⟨Code.quiet_builtin _ (by decide +kernel), codeAny_builtin PySem.F.entry_type_call ?_⟩
  rw [Around.under_plain (weight_type_call_type "set" [.ref l] []) rfl]
  have notT := PySem.F.called_set.notType
  have can := PySem.F.called_set.canCreate
  have tc := PySem.F.typeCall_set_1 (.ref l)
  repeat (any_goals (first | assumption | wp_step))
  refine codeAny_mono (code_set_led1 (.ref l) (E := E) (Q₁ := fun obj s1 => obj = .ref s.heap.objs.size ∧ s1 = { s with heap := s.heap.push (newSet w) }) ⟨rfl, rfl⟩) fun r s1 hr => ?_
  cases r with
  | error e => exact hr
  | ok fl =>
    cases fl with
    | ret obj =>
      obtain ⟨rfl, rfl⟩ := hr
      have atT : (s.heap.push (newSet w)).get? s.heap.objs.size = some (newSet w) := Heap.get?_push_size _ rfl
      have isT : Shared.TypeIs { s with heap := s.heap.push (newSet w) } (.ref s.heap.objs.size) "set" := ⟨_, atT, rfl⟩
      have look := PySem.F.called_set.init.lookup
      have bind := PySem.F.called_set.init.bind (.ref s.heap.objs.size)
      repeat (any_goals (first | assumption | wp_step))
      refine codeAny_mono (codeAny_call_builtin (R := wants (fun r s2 => r = .none ∧ ∃ h' tk, s2 = { s with heap := h', toks := tk } ∧ SetW w h' s.heap.objs.size (dedT xs) ∧
          (∀ b u, s.heap.get? b = some u → h'.get? b = some u)) E) PySem.F.called_set.init.plain PySem.F.entry_set_init (check_set_init_1 isT ?_)) fun r2 s2 hr2 => ?_
      · have lt0 : l < s.heap.objs.size := by
          rcases kind with ⟨_, ⟨u, e, _⟩⟩ | ⟨_, ⟨u, e, _⟩⟩ <;> exact Heap.lt_size e
        have h3 : A.in1.in1.in1.handled = none := by simp [hd]
        have neI : l ≠ (s.heap.push (newSet w)).objs.size := by
          rw [Heap.size_push]
          exact Nat.ne_of_lt (Nat.lt_succ_of_lt lt0)
        have offT : s.heap.objs.size ∉ [(s.heap.push (newSet w)).objs.size, l] := by
          rw [Heap.size_push]
          simp only [List.mem_cons, List.not_mem_nil, or_false, not_or]
          exact ⟨Nat.ne_of_lt (Nat.lt_succ_self _), fun z => absurd lt0 (by rw [z]; exact Nat.lt_irrefl _)⟩
        have val : ∀ (i : Nat) (v : Value), items[i]? = some v → ∃ k t, xs[i]? = some k ∧ v = .str k t := fun i v hv => by
          have li : i < xs.length := by
            rw [← size]
            exact (Array.getElem?_eq_some_iff.mp hv).1
          obtain ⟨t, e⟩ := SS.strs_at hit i v (by rw [Array.getElem?_toList]; exact hv)
          refine ⟨xs[i], t, List.getElem?_eq_getElem li, ?_⟩
          rw [e, List.getD_eq_getElem?_getD, List.getElem?_eq_getElem li]
          rfl
        rcases kind with ⟨_, hl⟩ | ⟨_, hl⟩
        · obtain ⟨ob, hob, cl, nl, dl⟩ := hl
          obtain ⟨kls, dct, dat, slt⟩ := ob
          simp only at cl dl
          subst cl dl
          have hob' : (s.heap.push (newSet w)).get? l = some { cls := .type "list", dict := dct, data := .seq items nl, slots := slt } := Heap.get?_push_of_some _ hob
          have s1 := PySem.F.sub_list_set
          have s2 := PySem.F.sub_list_frozenset
          have s3 : (Value.type "list" == Value.type "dict") = false := by decide
          have hl1 : (s.heap.push (newSet w)).IsList l items := ⟨_, hob', rfl, nl, rfl⟩
          unfold Builtin.«set.__init__» noKeywords Builtin.Frozenset.updateFrom
          generalize ePI : pyIter = PI
          wp_walk
          subst ePI
          refine wpAny_pyIter_list hl1 ?_
          refine wpAny_bind (wpAny_runValue ?_)
          refine setW_loop ((Walks.list h3 _ l neI items).toS) s.heap.objs.size offT xs size few val (items.size - 0) 0 _ (by omega) (Nat.zero_le _) ⟨⟨_, Heap.get?_push_size _ rfl, rfl, rfl⟩, hl1.push _⟩ (setW_fresh (Heap.get?_push_of_some _ atT)) fun s' mv hT => ?_
          obtain ⟨h', g', d', tk', os'⟩ := s'
          have eg : g' = s.gens := mv.gens
          have ed : d' = s.drawn := mv.drawn
          have eo : os' = s.os := mv.os
          subst eg ed eo
          show wpAny _ _ (pure ()) _ _ _
          refine wpAny_pure ?_
          show wpAny _ _ (ret Value.none) _ _ _
          refine wpAny_pure ⟨rfl, h', tk', rfl, hT, fun b u e => ?_⟩
          have lt := Heap.lt_size e
          refine mv.heap b u ?_ (Heap.get?_push_of_some _ (Heap.get?_push_of_some _ e))
          rw [Heap.size_push]
          simp only [List.mem_cons, List.not_mem_nil, or_false, not_or]
          exact ⟨Nat.ne_of_lt lt, Nat.ne_of_lt (Nat.lt_succ_of_lt lt)⟩
        · obtain ⟨ob, hob, cl, nl, dl⟩ := hl
          obtain ⟨kls, dct, dat, slt⟩ := ob
          simp only at cl dl
          subst cl dl
          have hob' : (s.heap.push (newSet w)).get? l = some { cls := .type "tuple", dict := dct, data := .seq items nl, slots := slt } := Heap.get?_push_of_some _ hob
          have s1 := PySem.F.sub_tuple_set
          have s2 := PySem.F.sub_tuple_frozenset
          have s3 : (Value.type "tuple" == Value.type "dict") = false := by decide
          have hl1 : (s.heap.push (newSet w)).IsTuple l items := ⟨_, hob', rfl, nl, rfl⟩
          unfold Builtin.«set.__init__» noKeywords Builtin.Frozenset.updateFrom
          generalize ePI : pyIter = PI
          wp_walk
          subst ePI
          refine wpAny_pyIter_tuple hl1 ?_
          refine wpAny_bind (wpAny_runValue ?_)
          refine setW_loop ((Walks.tuple h3 _ l neI items).toS) s.heap.objs.size offT xs size few val (items.size - 0) 0 _ (by omega) (Nat.zero_le _) ⟨⟨_, Heap.get?_push_size _ rfl, rfl, rfl⟩, hl1.push _⟩ (setW_fresh (Heap.get?_push_of_some _ atT)) fun s' mv hT => ?_
          obtain ⟨h', g', d', tk', os'⟩ := s'
          have eg : g' = s.gens := mv.gens
          have ed : d' = s.drawn := mv.drawn
          have eo : os' = s.os := mv.os
          subst eg ed eo
          show wpAny _ _ (pure ()) _ _ _
          refine wpAny_pure ?_
          show wpAny _ _ (ret Value.none) _ _ _
          refine wpAny_pure ⟨rfl, h', tk', rfl, hT, fun b u e => ?_⟩
          have lt := Heap.lt_size e
          refine mv.heap b u ?_ (Heap.get?_push_of_some _ (Heap.get?_push_of_some _ e))
          rw [Heap.size_push]
          simp only [List.mem_cons, List.not_mem_nil, or_false, not_or]
          exact ⟨Nat.ne_of_lt lt, Nat.ne_of_lt (Nat.lt_succ_of_lt lt)⟩
      · cases r2 with
        | error e => exact hr2
        | ok fl2 =>
          cases fl2 with
          | ret r =>
            obtain ⟨rfl, h', tk, rfl, hT, kept⟩ := hr2
            repeat (any_goals (first | assumption | wp_step))
            exact fin _ _ hT kept
          | _ => exact hr2.elim
    | _ => exact hr.elim
end
end Fw

/-! The rules of sets of texts: made, their length, their members, sorted, walked. -/
namespace Fw
open PySem PySem.Spec PyProof.Rows L2
/-- at a stands the set of the texts l -/
def SetWO (w : World) (a : Addr) (l : List Str) : HO := .ext fun h => SetW w h a l
theorem setWO_new {P : Program} {w : World} {H : Hp} {h : Heap} {a : Addr} {l : List Str} (R : SetW w h a l) : ObjOk P w H h a (SetWO w a l) := by
  have ⟨ob, _, _, _, hob, _⟩ := R
  exact ⟨R, ⟨ob, hob⟩, fun h1 h2 p k => p.at k⟩
section
variable {X : Cx} {pins : List (Addr × Obj)} {σ : L2.St} {H : Hp} {s : Shared} {a : Addr} {l : List Str}
theorem setWO_get (I : Inv X pins σ H s) (ha : H a = some (SetWO X.w a l)) : SetW X.w s.heap a l := (I.hok a _ ha).1
end
section
variable {X : Cx}
/-- set(x), x a list or a tuple of texts -/
def rSetW (K : PySem.W.Frag) (w : World) : List V → Hp → VK → Prop := fun vs H Q => ∃ (p : Addr) (xs : List Str), vs = [V.ref p] ∧ (SqL K H p (xs.map V.str) ∨ SqT K H p (xs.map V.str)) ∧ xs.length ≤ 1000 ∧
  ∀ q, H q = none → Q (.ref q) (upd H q (SetWO w q (dedT xs)))
theorem cr_setW (hc : X.calm = true) : CallR X (.type "set") (rSetW X.K X.w) := by
  intro pins s σ H vs us Q I r z
  obtain ⟨p, xs, rfl, hp, few, q⟩ := z
  rw [Vals.ref1 r]
  have new : H s.heap.objs.size = none := I.hok.fresh (Nat.le_refl _)
  have room : xs.length + 1 < scanBound := Nat.lt_of_le_of_lt (Nat.succ_le_succ few) (by decide)
  have last : ∀ (h' : Heap) (tk : Nat), SetW X.w h' s.heap.objs.size (dedT xs) → (∀ b u, s.heap.get? b = some u → h'.get? b = some u) → EP X pins σ Q (.ref s.heap.objs.size) { s with heap := h', toks := tk } := fun h' tk R k =>
    ⟨.ref s.heap.objs.size, upd H s.heap.objs.size (SetWO X.w s.heap.objs.size (dedT xs)), I.laid (t' := tk) k (Nat.le_refl _) (setWO_new R), rfl, q _ new⟩
  rcases hp with hp | hp
  · obtain ⟨its, rv, pl, _⟩ := I.list hp
    exact call_setW (T := "list") (items := its.toArray) xs (.inl ⟨rfl, pl.isList⟩) (I.ok.hd hc) (by simpa using strsAre_of rv) room last
  · obtain ⟨its, rv, pl, _⟩ := I.tuple hp
    exact call_setW (T := "tuple") (items := its.toArray) xs (.inr ⟨rfl, pl⟩) (I.ok.hd hc) (by simpa using strsAre_of rv) room last
/-- len of such a set -/
def rLenW (w : World) : List V → Hp → VK → Prop := fun vs H Q => ∃ (p : Addr) (l : List Str), vs = [V.ref p] ∧ H p = some (SetWO w p l) ∧ Q (.int (l.length : Int)) H
theorem cr_lenW : CallR X (.builtin "len") (rLenW X.w) := by
  intro pins s σ H vs us Q I r z
  obtain ⟨p, l, rfl, hp, q⟩ := z
  rw [Vals.ref1 r]
  obtain ⟨ob, el, ep, tb, hob, xs, dat, good, pm, nd, few, fit, _⟩ := setWO_get I hp
  have n : el.size = l.length := by rw [← pm.length_eq, List.length_map, Array.length_toList]
  refine call_len_set hob xs dat fit ?_ ⟨.int l.length, H, I.tok _, ⟨_, by rw [n]⟩, q⟩
  have : el.size < 2 ^ 63 := Nat.lt_of_lt_of_le few (by decide)
  omega
/-- x in such a set, x not in it -/
def rInW (w : World) (neg : Bool) : R2 := fun x y H Q => ∃ (k : Str) (p : Addr) (l : List Str), x = .str k ∧ y = V.ref p ∧ H p = some (SetWO w p l) ∧ Q (.bl (if neg then !decide (k ∈ l) else decide (k ∈ l))) H
theorem or_inW : OpR X (compareOp .In) (rInW X.w false) := by
  intro pins s σ H x y v u Q I rx ry z
  obtain ⟨k, p, l, rfl, rfl, hp, q⟩ := z
  cases ry
  obtain ⟨t, rfl⟩ := rx
  exact wpAny_inSet_of (strKind_is X.prog X.w k t) rfl ((setWO_get I hp).setOf) ⟨.bl (decide (k ∈ l)), H, I.tok _, rfl, q⟩
theorem or_notInW : OpR X (compareOp .NotIn) (rInW X.w true) := by
  intro pins s σ H x y v u Q I rx ry z
  obtain ⟨k, p, l, rfl, rfl, hp, q⟩ := z
  cases ry
  obtain ⟨t, rfl⟩ := rx
  exact wpAny_notInSet_of (strKind_is X.prog X.w k t) rfl ((setWO_get I hp).setOf) ⟨.bl (!decide (k ∈ l)), H, I.tok _, rfl, q⟩
end
/-! ### sorted -/
def sOf (v : Value) : Str := match v with | .str k _ => k | _ => Str.empty
theorem strs_out : ∀ vs : List Value, (∀ v ∈ vs, ∃ k t, v = Value.str k t) → StrsAre vs (vs.map sOf)
  | [], _ => .nil
  | v :: vs, h => by
    obtain ⟨k, t, rfl⟩ := h v List.mem_cons_self
    exact .cons k t (strs_out vs fun u m => h u (List.mem_cons_of_mem _ m))
section
variable {P : Program} {w : World} {A : Around} {E : Value → Shared → Prop} {s : Shared} {a : Addr} {l : List Str}
theorem sorted_setW {Q : Value → Shared → Prop} (R : SetW w s.heap a l) (hd : A.handled = none) (few : l.length < 64)
    (fin : ∀ s' p (out : Array Value) (c : Nat) (ys : List Str), (∀ b u, s.heap.get? b = some u → s'.heap.get? b = some u) → s'.gens = s.gens → s'.os = s.os → s.heap.objs.size ≤ p →
      s'.heap.get? p = some (seqObj "list" out c) → StrsAre out.toList ys → ys.Perm l → sortedS ys = true → Q (.ref p) s') :
    wpAny (model P w) A (call (.builtin "sorted") [.ref a]) Q E s := by
  obtain ⟨ob, el, ep, tb, hob, xs, dat, good, pm, nd, room, fit, ris, led⟩ := R
  refine Calls.call_function_entry kind_sorted plain_sorted entry_sorted (args_sorted1 _) ?_
  unfold Builtin.«sorted»
  refine wpAny_bind (m := checkCount "sorted" 1 1 _) (wpAny_pure ?_)
  refine wpAny_bind (collect_set (A := A.in1) hd ⟨ob, hob, xs.1, dat⟩ fit room ris led fun s1 vs keep1 size1 gens1 os1 p1 => ?_)
  have isS : ∀ v ∈ vs, ∃ k t, v = Value.str k t := fun v m => by
    obtain ⟨e, me, q⟩ := List.mem_map.mp (p1.mem_iff.mp m)
    obtain ⟨k, t, e1, _⟩ := good e me
    exact ⟨k, t, q ▸ e1⟩
  have are := strs_out vs isS
  have p2 : (vs.map sOf).Perm l := by
    have z := p1.map sOf
    rw [List.map_map] at z
    refine z.trans ?_
    have same : el.toList.map (sOf ∘ fun e => e.2) = el.toList.map txOf := List.map_congr_left fun e me => by
      obtain ⟨k, t, e1, _⟩ := good e me
      show sOf e.2 = txOf e
      unfold txOf sOf
      rw [e1]
    rw [same]
    exact pm
  have n : vs.length = l.length := by
    have z := p2.length_eq
    rwa [List.length_map] at z
  refine wpAny_bind (wpAny_newList ?_ (by rw [n, sizeLine_eq]; omega))
  have atL : (s1.heap.push (seqObj "list" vs.toArray 0)).get? s1.heap.objs.size = some (seqObj "list" vs.toArray 0) := Heap.get?_push_size _ rfl
  refine wpAny_bind (wpAny_holding (wpAny_call_entry PyProof.Rows.slot_list_sort ⟨_, atL, rfl⟩ PyProof.Rows.entry_list_sort
    (list_sort_treeK strKind_oneLt atL are.keysOf (fun v1 v2 rest e => keyKind_strs (by rw [← e]; exact are)) (by rw [n]; exact few) fun st p3 so => ?_) (PyProof.Rows.args_list_sort _)))
  obtain ⟨ys, g1, g2, g3⟩ := sorted_out_str are p3 so
  refine ⟨_, rfl, ?_⟩
  obtain ⟨c, hc⟩ := sortedHeap_at (vs := vs) (out := (arrOf st).map (·.2)) atL
  refine wpAny_pure ⟨_, rfl, fin _ s1.heap.objs.size _ c ys (fun b u e => ?_) gens1 os1 size1 hc g1 (g2.trans p2) g3⟩
  have e1 := keep1 b u e
  have lt := Heap.lt_size e1
  show (sortedHeap (s1.heap.push (seqObj "list" vs.toArray 0)) s1.heap.objs.size vs _).get? b = some u
  rw [sortedHeap_old (Nat.ne_of_lt lt) (by rw [Heap.size_push]; exact Nat.lt_succ_of_lt lt)]
  exact Heap.get?_push_of_some _ e1
end
section
variable {X : Cx}
/-- sorted of such a set -/
def rSortedW (w : World) : List V → Hp → VK → Prop := fun vs H Q => ∃ (p : Addr) (l : List Str), vs = [V.ref p] ∧ H p = some (SetWO w p l) ∧ l.length < 64 ∧
  ∀ (ys : List Str) (q : Addr), ys.Perm l → sortedS ys = true → H q = none → Q (.ref q) (upd H q (.lst (ys.map V.str)))
theorem cr_sortedW (hc : X.calm = true) : CallR X (.builtin "sorted") (rSortedW X.w) := by
  intro pins s σ H vs us Q I r z
  obtain ⟨a, l, rfl, ha, few, q⟩ := z
  rw [Vals.ref1 r]
  refine sorted_setW (setWO_get I ha) (I.ok.hd hc) few fun s' p out c ys keep gens os size at_ are pm so => ?_
  have short : (ys.map V.str).length ≤ sizeLine := by
    rw [List.length_map, pm.length_eq, sizeLine_eq]
    omega
  have new : H p = none := I.hok.fresh size
  have J : Inv X pins σ (upd H p (.lst (ys.map V.str))) { s with heap := s'.heap, gens := s'.gens, drawn := s'.drawn, toks := s'.toks } :=
    I.call (ch := []) (Un.laid keep size new) (I.hok.laid keep size ⟨short, out.toList, c, vals_of_strs are, at_⟩) (by rw [gens]; exact I.bare) (fun _ y => nomatch y)
  have same : s' = { s with heap := s'.heap, gens := s'.gens, drawn := s'.drawn, toks := s'.toks } := by
    cases s'
    cases s
    cases os
    rfl
  rw [same]
  exact ⟨.ref p, _, J, rfl, q ys p pm so new⟩
end
end Fw

/-! list(d.values()), tuple(d.values()), tuple(d). -/
namespace Fw
open PySem PySem.Spec PyProof.Rows L2
section
variable {P : Program} {w : World} {A : Around} {E : Value → Shared → Prop} {s : Shared} {T : String} {r d : Addr} {n : Nat} {Pv : Nat → Value → Prop} {OK : Heap → Prop}
theorem collect_src {Q : List Value → Shared → Prop} (K : PySem.W.KdlSrc P w T r d n Pv OK) (hd : A.handled = none) (ok : OK s.heap) (few : n ≤ sizeLine)
    (fin : ∀ (h' : Heap) (tk : Nat) (acc : Array Value), (∀ b u, s.heap.get? b = some u → h'.get? b = some u) → ItemsOf Pv acc n → Q acc.toList { s with heap := h', toks := tk }) :
    wpAny (model P w) A (collect (.ref r)) Q E s := by
  unfold collect
  refine wpAny_bind (wpAny_runValue (codeAny_builtin PySem.F.entry_proto_collect ?_))
  rw [Around.under_plainId PySem.F.plain_proto_collect _]
  show wpAny _ A.in1 (newList [] >>= fun l => again (.builtin "list.__iadd__" ⟨[l, .ref r], []⟩)) _ _ s
  refine wpAny_bind (wpAny_newObj_type ?_)
  refine wpAny_pure ⟨plainId_quiet PySem.F.plain_list_iadd _, codeAny_builtin PySem.F.entry_list_iadd ?_⟩
  rw [Around.under_plainId PySem.F.plain_list_iadd _]
  show wpAny _ A.in1 (Builtin.List.listExtendWith (.ref s.heap.objs.size) (.ref r) (.ref s.heap.objs.size)) _ _ _
  have at_ : (s.heap.push { cls := .type "list", data := .seq ([] : List Value).toArray }).get? s.heap.objs.size = some { cls := .type "list", data := .seq #[] 0 } := Heap.get?_push_size _ rfl
  have low := K.there _ ok
  refine wpAny_mono (PySem.W.kdl_extend (A := A) (R := fun rr s' => rr = .ok (.ret (.ref s.heap.objs.size)) ∧ ∃ (h' : Heap) (tk : Nat) (acc : Array Value) (c' : Nat), s' = { s with heap := h', toks := tk } ∧
      (∀ b u, s.heap.get? b = some u → h'.get? b = some u) ∧ h'.get? s.heap.objs.size = some { cls := .type "list", dict := none, data := .seq acc c', slots := #[] } ∧ ItemsOf Pv acc n)
    (s := { s with heap := s.heap.push { cls := .type "list", data := .seq ([] : List Value).toArray } }) K hd (K.keep _ _ ok fun b _ u e => Heap.get?_push_of_some _ e) _ (Nat.ne_of_gt low.1) (Nat.ne_of_gt low.2) _ 0 at_
    (fun h' tk acc c' keep e it => ⟨rfl, h', tk, acc, c', rfl, fun b u q => keep b u (Nat.ne_of_lt (Heap.lt_size q)) (Heap.get?_push_of_some _ q), e, it⟩) few) (fun end_ s' h => ?_) (fun e s' h => ?_)
  · cases end_ with
    | done f =>
      obtain ⟨e, h', tk, acc, c', rfl, keep, at', it⟩ := h
      cases e
      show wpAny _ A (load s.heap.objs.size >>= fun _ => _) _ _ _
      exact wpAny_bind (wpAny_load at' (wpAny_pure (fin h' tk acc keep it)))
    | again c' =>
      refine ⟨h.1, codeAny_mono h.2 fun rr s'' hr => ?_⟩
      obtain ⟨rfl, h', tk, acc, c', rfl, keep, at', it⟩ := hr
      show wpAny _ A (load s.heap.objs.size >>= fun _ => _) _ _ _
      exact wpAny_bind (wpAny_load at' (wpAny_pure (fin h' tk acc keep it)))
  · exact absurd h.1 (by simp)
theorem new_tuple_src {Q : Value → Shared → Prop} (K : PySem.W.KdlSrc P w T r d n Pv OK) (hd : A.handled = none) (ok : OK s.heap) (few : n ≤ sizeLine)
    (fin : ∀ (h' : Heap) (tk : Nat) (acc : Array Value), (∀ b u, s.heap.get? b = some u → h'.get? b = some u) → ItemsOf Pv acc n → Q (.ref h'.objs.size) { s with heap := h'.push { cls := .type "tuple", data := .seq acc }, toks := tk }) :
    codeAny (model P w) A (.call (.builtin "tuple.__new__") ⟨[.type "tuple", .ref r], []⟩) (wants Q E) s := by
  refine codeAny_of_tree ?_
  show wpAny _ A.in1 (do checkBuiltinCall "tuple.__new__" ⟨[.type "tuple", .ref r], []⟩; again (.builtin "tuple.__new__" ⟨[.type "tuple", .ref r], []⟩)) _ _ _
  refine wpAny_bind (wpAny_of_eq (PySem.F.newCall_tuple_1 _) (wpAny_pure ⟨plainId_quiet PySem.F.plain_tuple_new _, codeAny_builtin PySem.F.entry_tuple_new ?_⟩))
  rw [Around.under_plainId PySem.F.plain_tuple_new _]
  have sub := sub_tuple_self
  have ini := init_tuple_lookup
  have here := madeHere_tuple
  have isT := K.type s ok
  have nt := K.notTuple
  have d1 : A.in1.handled = none := hd
  wp_walk using wpAny_typeOf isT, collect_src (A := A.in1) K d1 ok few
  intro h' tk acc keep it
  have same : acc.toList.toArray = acc := Array.toArray_toList
  show wpAny _ _ (Builtin.Tuple.tupleExact acc.toList.toArray >>= fun v => ret v) _ _ _
  unfold Builtin.Tuple.tupleExact
  refine wpAny_bind (wpAny_newObj_type (wpAny_pure ?_) (by show acc.toList.toArray.size ≤ sizeLine; rw [same, it.1]; exact few))
  rw [same]
  exact fin h' tk acc keep it
theorem tuple_src {Q : Value → Shared → Prop} (K : PySem.W.KdlSrc P w T r d n Pv OK) (hd : A.handled = none) (ok : OK s.heap) (few : n ≤ sizeLine)
    (fin : ∀ (h' : Heap) (tk : Nat) (acc : Array Value), (∀ b u, s.heap.get? b = some u → h'.get? b = some u) → ItemsOf Pv acc n → Q (.ref h'.objs.size) { s with heap := h'.push { cls := .type "tuple", data := .seq acc }, toks := tk }) :
    wpAny (model P w) A (call (.type "tuple") [.ref r]) Q E s := by
  refine callType_codes (Q₁ := fun ob s1 => s1.TypeIs ob "tuple" ∧ Q ob s1) PySem.F.called_tuple (PySem.F.typeCall_tuple_1 _) PySem.F.entry_object_init
    (new_tuple_src (A := A.in1) K hd ok few fun h' tk acc keep it => ⟨⟨_, Heap.get?_push_size _ rfl, rfl⟩, fin h' tk acc keep it⟩) fun ob s1 z => ?_
  exact ⟨z.1, PySem.F.args_object_init_2 ob _, object_init_meets PySem.F.called_tuple.init.lookup PySem.F.called_tuple.made (by decide) P w A.in1 _ s1 ⟨z.1, rfl, z.2⟩⟩
end
/-! ### the values of a dict -/
theorem kv_vals {P : Program} {w : World} {kvs : List (L2.Key × V)} {vs : List (L2.Key × Value)} (kv : KV kvs vs) {acc : Array Value} (it : ItemsOf (fun i v => ∃ k, vs[i]? = some (k, v)) acc vs.length) : Vals (kvs.map (·.2)) acc.toList := by
  have e : acc.toList = vs.map (·.2) := PySem.W.kdl_vals_eq acc.toList (by rw [Array.length_toList]; exact it.1) fun j v h => it.2 j v (by rw [← Array.getElem?_toList]; exact h)
  rw [e]
  clear e it
  induction kv with
  | nil => exact .nil
  | cons h t ih => exact .cons h.2 ih
section
variable {X : Cx} {e : Expr} {te : TE} {p apos cpos pos : Pos}
/-- list(e.values()) -/
def tListVals (te : TE) : TE := fun σ H Q => te σ H fun x H1 => ∃ (d : Addr) (kvs : List (L2.Key × V)), x = .ref d ∧ H1 d = some (.dK kvs) ∧ ∀ q, H1 q = none → Q (.ref q) (upd H1 q (.lst (kvs.map (·.2))))
/-- tuple(e.values()) -/
def tTupVals (te : TE) : TE := fun σ H Q => te σ H fun x H1 => ∃ (d : Addr) (kvs : List (L2.Key × V)), x = .ref d ∧ H1 d = some (.dK kvs) ∧ ∀ q, H1 q = none → Q (.ref q) (upd H1 q (.tup (kvs.map (·.2))))
theorem pe_listVals (hc : X.calm = true) (he : PE X e te) (hg : Gl X "list") (hm : X.mg "list" = none) (hv : bootBuiltins "list" = some (.type "list")) (hbase : attributeBase e "values" X.env (eval e X.env) = eval e X.env := by rfl) (hline : (apos.endLine == cpos.line) = true := by rfl)
    (hs : starEach [.Call (.Attribute e "values" apos) [] [] cpos] X.env = (false, eval (.Call (.Attribute e "values" apos) [] [] cpos) X.env) :: starEach [] X.env := by rfl) :
    PE X (.Call (.Name "list" p) [.Call (.Attribute e "values" apos) [] [] cpos] [] pos) (tListVals te) := by
  refine ⟨fun pins s σ H Q I hq => ?_⟩
  refine wpAny_Call_Name_kw (ld_blt I hg hm hv (PyProof.Rows.callWith_type1 ?_ hs rfl))
  rw [hs]
  refine Calls.spliced_cons ?_
  refine wpAny_Call_method (T := "dict") (id := "dict.values") hbase rfl hline F.plainAttrs_dict F.slot_dict_values F.type_dict_values (thn (he.run pins s σ H _ I hq) fun u s1 ⟨x, H1, I1, rx, d, kvs, ex, hd, q⟩ => ?_)
  subst ex
  obtain rfl : u = Value.ref d := rx
  obtain ⟨hz, off, vs, kv, isd⟩ := I1.hok d _ hd
  obtain ⟨ep, at_⟩ := isd.dictAt
  have len : kvs.length = vs.length := Paired.length kv
  refine ⟨isd.typeIs, isd.mapOf.noDict, ?_⟩
  show wpAny _ _ (callWith cpos (.builtin "dict.values") [.ref d] [] []) _ X.xe s1
  refine method_meetsIn F.slot_dict_values F.entry_dict_values rfl (PySem.evalArgs_none ⟨rfl, isd.typeIs, F.args_dict_values_1 _, _, meets_dict_values (mixKind X.prog X.w) d off, ⟨vs, isd⟩, ?_⟩)
  refine Calls.spliced_nil ?_
  have I2 : Inv X pins σ H1 { s1 with heap := s1.heap.push { cls := .type "dict_values", data := .fields #[.ref d] } } := I1.kept (t' := s1.toks) fun b ob q => Heap.get?_push_of_some _ q
  refine PySem.W.kdl_call (PySem.W.kdl_values (knd := mixKind X.prog X.w) (kvs := vs) (ep := ep)) (I1.ok.hd hc) ⟨⟨_, Heap.get?_push_size _ rfl, rfl, rfl⟩, at_.push _⟩ (by rw [← len]; exact hz) fun h' tk acc c keep at' it => ?_
  have vals := kv_vals (P := X.prog) (w := X.w) kv it
  refine ⟨.ref _, upd H1 _ (.lst (kvs.map (·.2))), I2.laid (t' := tk) keep (Nat.le_refl _) ⟨by rw [List.length_map]; exact hz, acc.toList, c, vals, by rw [Array.toArray_toList]; exact at'⟩, rfl, q _ (I2.hok.fresh (Nat.le_refl _))⟩
theorem pe_tupVals (hc : X.calm = true) (he : PE X e te) (hg : Gl X "tuple") (hm : X.mg "tuple" = none) (hbase : attributeBase e "values" X.env (eval e X.env) = eval e X.env := by rfl) (hline : (apos.endLine == cpos.line) = true := by rfl)
    (hs : starEach [.Call (.Attribute e "values" apos) [] [] cpos] X.env = (false, eval (.Call (.Attribute e "values" apos) [] [] cpos) X.env) :: starEach [] X.env := by rfl) :
    PE X (.Call (.Name "tuple" p) [.Call (.Attribute e "values" apos) [] [] cpos] [] pos) (tTupVals te) := by
  refine ⟨fun pins s σ H Q I hq => ?_⟩
  refine wpAny_Call_Name_kw (ld_blt I hg hm boot_tuple (PyProof.Rows.callWith_type1 ?_ hs rfl))
  rw [hs]
  refine Calls.spliced_cons ?_
  refine wpAny_Call_method (T := "dict") (id := "dict.values") hbase rfl hline F.plainAttrs_dict F.slot_dict_values F.type_dict_values (thn (he.run pins s σ H _ I hq) fun u s1 ⟨x, H1, I1, rx, d, kvs, ex, hd, q⟩ => ?_)
  subst ex
  obtain rfl : u = Value.ref d := rx
  obtain ⟨hz, off, vs, kv, isd⟩ := I1.hok d _ hd
  obtain ⟨ep, at_⟩ := isd.dictAt
  have len : kvs.length = vs.length := Paired.length kv
  refine ⟨isd.typeIs, isd.mapOf.noDict, ?_⟩
  show wpAny _ _ (callWith cpos (.builtin "dict.values") [.ref d] [] []) _ X.xe s1
  refine method_meetsIn F.slot_dict_values F.entry_dict_values rfl (PySem.evalArgs_none ⟨rfl, isd.typeIs, F.args_dict_values_1 _, _, meets_dict_values (mixKind X.prog X.w) d off, ⟨vs, isd⟩, ?_⟩)
  refine Calls.spliced_nil ?_
  have I2 : Inv X pins σ H1 { s1 with heap := s1.heap.push { cls := .type "dict_values", data := .fields #[.ref d] } } := I1.kept (t' := s1.toks) fun b ob q => Heap.get?_push_of_some _ q
  refine tuple_src (PySem.W.kdl_values (knd := mixKind X.prog X.w) (kvs := vs) (ep := ep)) (I1.ok.hd hc) ⟨⟨_, Heap.get?_push_size _ rfl, rfl, rfl⟩, at_.push _⟩ (by rw [← len]; exact hz) fun h' tk acc keep it => ?_
  have vals := kv_vals (P := X.prog) (w := X.w) kv it
  have I3 : Inv X pins σ H1 { s1 with heap := h', toks := tk } := I2.kept keep
  refine ⟨.ref _, upd H1 h'.objs.size (.tup (kvs.map (·.2))), I3.laid (t' := tk) (fun b u q => Heap.get?_push_of_some _ q) (Nat.le_refl _) ⟨by rw [List.length_map]; exact hz, acc.toList, vals, ?_⟩, rfl, q _ (I3.hok.fresh (Nat.le_refl _))⟩
  rw [Array.toArray_toList]
  exact IsTup.new _ _
end
end Fw

/-! Words: different names, keys, namings. -/
namespace Lx
open PySem PySem.Spec PyProof.Rows L2 Fw
def strV : V → Str
  | .str x => x
  | _ => Str.empty
theorem names_strs : ∀ xs : List V, xs.all nameV = true → xs = (xs.map strV).map V.str
  | [], _ => rfl
  | x :: xs, h => by
    have h' : (nameV x && xs.all nameV) = true := h
    obtain ⟨a, b⟩ := Bool.and_eq_true_iff.mp h'
    have e := names_strs xs b
    cases x with
    | str z =>
      show V.str z :: xs = V.str z :: (xs.map strV).map V.str
      rw [← e]
    | _ => cases a
/-- at least n names, all different -/
def diffV (xs : List V) (n : Int) : Bool := xs.all nameV && (decide (n ≤ (xs.length : Int)) && decide (xs.map strV).Nodup)
/-- asked of a tuple -/
def spDiff : Sp := fun vs H Q _ => ∃ (a : Addr) (xs : List V) (n : Int), vs = [.ref a, .int n] ∧ H a = some (.tup xs) ∧ (∀ x ∈ xs, Vok H x) ∧ xs.length ≤ 1000 ∧ ∀ H', Same H H' → Q (.bl (diffV xs n)) H'
section
variable {P : Program} {w : World} {K : PySem.W.Frag} {mg : Str → Option Value} {base : Heap} {gg : Bool}
theorem scDifferent : FnScope ["value", "least"] ["value", "least"] (defScope sDifferent) := ⟨rfl, rfl, rfl, by decide +kernel, rfl, by decide +kernel, by decide +kernel⟩
theorem ok_different {f fA fN : Addr} {fd dA dN : FuncData} (F : Fun K "are_different" "are_different" sDifferent f fd) (T : TxW K mg) (mS : mg "set" = none) (mA : mg "are_names" = some (.ref fA)) (FA : Fun K "are_names" "are_names" sNames fA dA) (bA : Binds K dA ["value"] [])
    (mN : mg "is_name" = some (.ref fN)) (FN : Fun K "is_name" "is_name" sName fN dN) (bN : Binds K dN ["value"] []) : FnV gg P w K mg base CX0 3 f fd ["value", "least"] spDiff := by
  have GA : FnV gg P w K mg base CX0 2 fA dA ["value"] spNames := ok_names FA T mN FN bN
  refine fnV F scDifferent (fun vs H Q E h => ?_) (fun cdv Ar fr s H vs Q E hG hr h => ?_)
  · obtain ⟨a, xs, n, rfl, _⟩ := h
    rfl
  · obtain ⟨a, xs, n, rfl, at_, ok, few, q⟩ := h
    refine ⟨_, pss_one (ps_ret (pe_and (pe_callV (E := fun _ _ _ _ => False) hG GA hr (by rfl) mA FA.kp bA .nil (fun _ => passAt0) (pa_cons (pv 0) pa_nil))
      (pe_and (pe_cmpR op_ge (pe_callB call_len_seq (by rfl) T.len PySem.boot_len (pa_cons (pv 0) pa_nil)) (pv 1) (nomark _))
        (pe_one (pe_cmpR op_eq (pe_callB cr_lenW (by rfl) T.len PySem.boot_len (pa_cons (pe_callTy (cr_setW rfl) (by rfl) mS (by decide +kernel) (pa_cons (pv 0) pa_nil)) pa_nil)) (pe_callB call_len_seq (by rfl) T.len PySem.boot_len (pa_cons (pv 0) pa_nil)) (nomark _)))))), ?_⟩
    refine ⟨_, rfl, .ref a, _, rfl, .tup at_ ok few, fun H1 s1 => ?_⟩
    have at1 := s1 _ _ at_
    refine ⟨_, rfl, ?_⟩
    cases c : xs.all nameV with
    | false =>
      have e : diffV xs n = false := by
        unfold diffV
        rw [c, Bool.false_and]
      rw [if_neg (by decide)]
      rw [← e]
      exact q _ s1
    | true =>
      rw [if_pos rfl]
      refine ⟨_, rfl, a, xs, rfl, .inr (SqT.of at1), _, rfl, _, _, rfl, rfl, _, rfl, ?_⟩
      by_cases d : decide (n ≤ (xs.length : Int)) = true
      · rw [if_pos d]
        have es := names_strs xs c
        refine ⟨_, rfl, a, xs.map strV, rfl, .inr ?_, by rw [List.length_map]; exact few, fun p np => ?_⟩
        · rw [← es]
          exact SqT.of at1
        have z := same_upd (o := SetWO w p (dedT (xs.map strV))) np
        refine ⟨p, _, rfl, upd_same, _, rfl, a, xs, rfl, .inr (SqT.of (z _ _ at1)), ?_, ?_⟩
        · rfl
        · have e : diffV xs n = decide (V.int ((dedT (xs.map strV)).length : Int) = V.int (xs.length : Int)) := by
            unfold diffV
            rw [c, d, Bool.true_and, Bool.true_and]
            by_cases nd : (xs.map strV).Nodup
            · rw [decide_eq_true nd, dedT_same nd, List.length_map]
              simp
            · rw [decide_eq_false nd]
              refine (decide_eq_false fun l => nd (dedT_full ?_)).symm
              have l' : ((dedT (xs.map strV)).length : Int) = (xs.length : Int) := by injection l
              rw [List.length_map]
              omega
          show Q (.bl (decide (V.int ((dedT (xs.map strV)).length : Int) = V.int (xs.length : Int)))) _
          rw [← e]
          exact q _ (same_trans s1 z)
      · rw [if_neg d]
        have e : diffV xs n = false := by
          unfold diffV
          rw [Bool.eq_false_iff.mpr d, Bool.false_and, Bool.and_false]
        rw [← e]
        exact q _ s1
end
end Lx

/-! Words: the keys of a dict. -/
namespace Lx
open PySem PySem.Spec PyProof.Rows L2 Fw
theorem op_inK {X : Cx} {K : PySem.W.Frag} (h : X.K = K) : OpR X (compareOp .In) (rIn K false) := h ▸ op_in_seq
def keysV (kvs : List (L2.Key × V)) (ns : List Str) : Bool := (kvs.map fun kv => inV (kV kv.1) (ns.map V.str)).all id && (ns.map fun n => (valV kvs (Sum.inr n)).isSome).all id
/-- a value, and whether it is a dict of just these keys -/
inductive KeysOf (H : Hp) (ns : List Str) : V → Bool → Prop
  | dict {d : Addr} {kvs : List (L2.Key × V)} (e : H d = some (.dK kvs)) (few : kvs.length ≤ 1000) : KeysOf H ns (.ref d) (keysV kvs ns)
  | no {v : V} {n : String} (kn : Kn H v n) (ne : isB n "dict" = false) : KeysOf H ns v false
def spKeys : Sp := fun vs H Q _ => ∃ (v : V) (t : Addr) (ns : List Str) (b : Bool), vs = [v, .ref t] ∧ H t = some (.tup (ns.map V.str)) ∧ ns.length ≤ 1000 ∧ KeysOf H ns v b ∧ ∀ H', Same H H' → Q (.bl b) H'
abbrev nK : List Str := ["value", "names", "key", "name"]
theorem kV_flat (k : L2.Key) : flatV (kV k) = true := by cases k <;> rfl
theorem strs_flat (ns : List Str) : (ns.map V.str).all flatV = true := by
  rw [List.all_map]
  exact List.all_eq_true.mpr fun _ _ => rfl
section
variable {P : Program} {w : World} {K : PySem.W.Frag} {mg : Str → Option Value} {base : Heap} {gg : Bool}
theorem scKeys : FnScope ["value", "names", "key", "name"] ["value", "names"] (defScope sKeys) := ⟨rfl, rfl, rfl, by decide +kernel, rfl, by decide +kernel, by decide +kernel⟩
theorem ok_keys {f : Addr} {fd : FuncData} (F : Fun K "has_keys" "has_keys" sKeys f fd) (T : TxW K mg) : FnV gg P w K mg base CX0 1 f fd ["value", "names"] spKeys := by
  refine fnV F scKeys (fun vs H Q E h => ?_) (fun cdv Ar fr s H vs Q E hG hr h => ?_)
  · obtain ⟨v, t, ns, b, rfl, _⟩ := h
    rfl
  · obtain ⟨v, t, ns, b, rfl, at_, few, kv, q⟩ := h
    have hu := hr.units
    refine ⟨_, pss_cons (ps_if (pt_not (pt_val (pe_is (t := "dict") (.inr (.inr (.inr (.inr (.inl rfl))))) (by rfl) T.isi (by rfl) T.dict (by decide +kernel) (pv 0) mono_var))) (pss_one (ps_ret pe_bl)) pss_nil)
      (pss_one (ps_ret (pe_and
        (pe_callB (cr_all rfl) (by rfl) T.all (by decide +kernel) (pa_cons (pe_lock
          (pe_lc (own := [("key", 2)]) (g := gName 2) (by rfl) scKeys.nd (pi_keys (pv 0))
            (blkOk_by (N := nK) (sc := defScope sKeys) (own := [("key", 2)]) (by decide +kernel)) (fun _ _ _ _ _ => pg_name (i := 2) scKeys.nd rfl (Or.inl rfl)) (fun _ _ _ _ _ => pts_nil)
            (fun _ _ _ _ _ => pe_cmpR (op_inK (K := K) rfl) (pv 2) (pv 1) (by rfl)))) pa_nil))
        (pe_one (pe_callB (cr_all rfl) (by rfl) T.all (by decide +kernel) (pa_cons
          (pe_lc (own := [("name", 3)]) (g := gName 3) (by rfl) scKeys.nd (pi_tup (pv 1))
            (blkOk_by (N := nK) (sc := defScope sKeys) (own := [("name", 3)]) (by decide +kernel)) (fun _ _ _ _ _ => pg_name (i := 3) scKeys.nd rfl (Or.inl rfl)) (fun _ _ _ _ _ => pts_nil)
            (fun _ _ _ _ _ => pe_cmp (pc_din (by have z := hu; show _ < _; exact Nat.lt_of_le_of_lt (Nat.add_le_add_left (by decide) _) z) (pv 3) (pv 0)))) pa_nil)))))), ?_⟩
    cases kv with
    | no kn ne =>
      refine ⟨_, rfl, _, kn, _, rfl, ?_⟩
      rw [ne]
      exact q _ fun _ _ e => e
    | @dict d kvs e fk =>
      refine ⟨_, rfl, _, .dK e, _, rfl, ?_⟩
      refine ⟨d, _, e, trivial, fun od => ?_⟩
      have dt : d ≠ t := fun z => by
        rw [z, at_] at e
        cases e
      refine ⟨_, rfl, d, od, rfl, .inl ⟨kvs, upd_same, fun D nD => ?_⟩⟩
      have nd : D ≠ d := fun z => by
        rw [z, upd_same] at nD
        cases nD
      have nH : H D = none := by
        rw [upd_ne nd] at nD
        exact nD
      refine lc_it walk_keys (fun i Hc => (∀ b o, b ≠ D → (upd H d (.frz od (.dK kvs))) b = some o → Hc b = some o) ∧ Hc D = some (.lst (((kvs.map fun kv => inV (kV kv.1) (ns.map V.str)).take i).map V.bl))) ⟨fun b o n z => by rw [upd_ne n]; exact z, upd_same⟩ (fun i Hc _ z => z.1 d _ nd.symm upd_same) ?_ ?_
      · rintro i x Hc Hc' lt ⟨sm, hD⟩ ⟨rfl, k, v, ek, rfl⟩
        have at' : Hc' t = some (.tup (ns.map V.str)) := sm t _ (fun z => by rw [← z, at_] at nH; cases nH) (by rw [upd_ne dt.symm]; exact at_)
        refine ⟨rfl, _, rfl, _, rfl, t, _, rfl, .inr (SqT.of at'), kV_flat k, strs_flat ns, _, hD, ?_, fun b o n z => ?_, ?_⟩
        · rw [List.length_map, List.length_take, List.length_map]
          exact Nat.lt_of_le_of_lt (Nat.le_trans (Nat.min_le_right _ _) fk) (by decide)
        · rw [upd_ne n]
          exact sm b o n z
        · rw [upd_same]
          refine congrArg (fun l => some (HO.lst l)) ?_
          rw [take_one ek]
          simp
      · rintro Hc ⟨sm, hD⟩
        have atd : Hc d = some (.frz od (.dK kvs)) := sm d _ nd.symm upd_same
        refine ⟨atd, D, kvs.map fun kv => inV (kV kv.1) (ns.map V.str), rfl, ?_, _, rfl, ?_⟩
        · refine SqL.of ?_
          rw [upd_ne nd, hD]
          congr 2
          rw [List.take_of_length_le (by simp)]
        have S : Same H (upd Hc d (.dK kvs)) := fun b o z => by
          by_cases c : b = d
          · rw [c] at z ⊢
            rw [upd_same, ← z, e]
          · rw [upd_ne c]
            refine sm b o (fun y => ?_) (by rw [upd_ne c]; exact z)
            rw [y, nH] at z
            cases z
        have atd2 : (upd Hc d (.dK kvs)) d = some (.dK kvs) := upd_same
        have att : (upd Hc d (.dK kvs)) t = some (.tup (ns.map V.str)) := S _ _ at_
        generalize upd Hc d (.dK kvs) = H2 at S atd2 att ⊢
        clear sm hD atd nD nd nH
        cases c1 : (kvs.map fun kv => inV (kV kv.1) (ns.map V.str)).all id with
        | false =>
          have ev : keysV kvs ns = false := by
            unfold keysV
            rw [c1, Bool.false_and]
          rw [if_neg (by decide), ← ev]
          exact q _ S
        | true =>
          rw [if_pos rfl]
          refine ⟨_, rfl, t, rfl, ⟨_, SqT.of att⟩, fun D2 nD => ?_⟩
          refine lc_tup (K := K) (a := t) (xs := ns.map V.str) (fun i Hc => Same H2 Hc ∧ Hc D2 = some (.lst (((ns.map fun n => (valV kvs (Sum.inr n)).isSome).take i).map V.bl))) ⟨same_upd nD, upd_same⟩ (fun i Hc _ z => SqT.of (z.1 _ _ att)) ?_ ?_
          · rintro i x Hc hx ⟨sm, hD⟩
            obtain ⟨n, en, rfl⟩ : ∃ n, ns[i]? = some n ∧ x = .str n := by
              rw [List.getElem?_map] at hx
              cases z : ns[i]? with
              | none => rw [z] at hx; cases hx
              | some n => rw [z] at hx; exact ⟨n, rfl, (Option.some.inj hx).symm⟩
            refine ⟨rfl, _, rfl, _, rfl, d, _, rfl, DGet.k (k := Sum.inr n) (sm _ _ atd2), _, hD, ?_, fun b o z => ?_, ?_⟩
            · rw [List.length_map, List.length_take, List.length_map]
              exact Nat.lt_of_le_of_lt (Nat.le_trans (Nat.min_le_right _ _) few) (by decide)
            · have ne : b ≠ D2 := ne_of_none z nD
              rw [upd_ne ne]
              exact sm _ _ z
            · rw [upd_same]
              refine congrArg (fun l => some (HO.lst l)) ?_
              rw [take_one en]
              simp
          · rintro Hc ⟨sm, hD⟩
            refine ⟨D2, ns.map fun n => (valV kvs (Sum.inr n)).isSome, rfl, ?_, ?_⟩
            · refine SqL.of ?_
              rw [hD]
              congr 2
              rw [List.take_of_length_le (by simp)]
            · have ev : keysV kvs ns = (ns.map fun n => (valV kvs (Sum.inr n)).isSome).all id := by
                unfold keysV
                rw [c1, Bool.true_and]
              show Q (.bl ((ns.map fun n => (valV kvs (Sum.inr n)).isSome).all id)) Hc
              rw [← ev]
              exact q _ (same_trans S sm)
end
end Lx

/-! Words: namings. -/
namespace Lx
open PySem PySem.Spec PyProof.Rows L2 Fw
/-- an error class without an __init__ of its own, over ValueError -/
structure ExP (K : PySem.W.Frag) (mg : Str → Option Value) (x : Str) (C : Addr) : Prop where
  gl : mg x = some (.ref C)
  kp : PySem.W.keepIn K (.ref C) = true
  plain : PySem.W.excIn K C [.type "ValueError", .type "Exception", .type "BaseException", .type "object"] "ValueError.__new__" = true
  hs : PySem.W.subIn K (.ref C) (.type "BaseException") = some true
  ty : PySem.W.typeIn K (.ref C) = some (.type "type")
/-- a value, and whether it is a naming of these names -/
inductive NamingOf (H : Hp) (ns : List Str) : V → Bool → Prop
  | dict {d : Addr} {kvs : List (L2.Key × V)} (e : H d = some (.dK kvs)) (few : kvs.length ≤ 1000) (ok : ∀ x ∈ kvs.map (·.2), Vok H x) : NamingOf H ns (.ref d) (keysV kvs ns && diffV (kvs.map (·.2)) 0)
  | no {v : V} {n : String} (kn : Kn H v n) (ne : isB n "dict" = false) : NamingOf H ns v false
def spNaming (C : Addr) : Sp := fun vs H Q E => ∃ (v1 v2 : V) (b : Bool), vs = [v1, v2] ∧ NamesOf H v1 b ∧ (b = false → ∀ H', Same H H' → E (.ref C) none H') ∧
  (b = true → ∃ (t : Addr) (ns : List Str) (r : Bool), v1 = .ref t ∧ H t = some (.tup (ns.map V.str)) ∧ ns.length ≤ 1000 ∧ NamingOf H ns v2 r ∧ ∀ H', Same H H' → Q (.bl r) H')
section
variable {P : Program} {w : World} {K : PySem.W.Frag} {mg : Str → Option Value} {base : Heap} {gg : Bool}
structure TxN (K : PySem.W.Frag) (mg : Str → Option Value) (fA fN fK fD : Addr) (dA dN dK dD : FuncData) : Prop where
  T : TxW K mg
  set : mg "set" = none
  mA : mg "are_names" = some (.ref fA)
  FA : Fun K "are_names" "are_names" sNames fA dA
  bA : Binds K dA ["value"] []
  mN : mg "is_name" = some (.ref fN)
  FN : Fun K "is_name" "is_name" sName fN dN
  bN : Binds K dN ["value"] []
  mK : mg "has_keys" = some (.ref fK)
  FK : Fun K "has_keys" "has_keys" sKeys fK dK
  bK : Binds K dK ["value", "names"] []
  mD : mg "are_different" = some (.ref fD)
  FD : Fun K "are_different" "are_different" sDifferent fD dD
  bD : Binds K dD ["value", "least"] []
theorem scNaming : FnScope ["names", "value"] ["names", "value"] (defScope sNaming) := ⟨rfl, rfl, rfl, by decide +kernel, rfl, by decide +kernel, by decide +kernel⟩
theorem ok_naming {f C fA fN fK fD : Addr} {fd dA dN dK dD : FuncData} (F : Fun K "is_naming" "is_naming" sNaming f fd) (X : ExP K mg "InvalidPlace" C) (N : TxN K mg fA fN fK fD dA dN dK dD) : FnV gg P w K mg base (L2.CX P w) 4 f fd ["names", "value"] (spNaming C) := by
  have GA : FnV gg P w K mg base CX0 2 fA dA ["value"] spNames := ok_names N.FA N.T N.mN N.FN N.bN
  have GK : FnV gg P w K mg base CX0 1 fK dK ["value", "names"] spKeys := ok_keys N.FK N.T
  have GD : FnV gg P w K mg base CX0 3 fD dD ["value", "least"] spDiff := ok_different N.FD N.T N.set N.mA N.FA N.bA N.mN N.FN N.bN
  refine fnV F scNaming (fun vs H Q E h => ?_) (fun cdv Ar fr s H vs Q E hG hr h => ?_)
  · obtain ⟨v1, v2, b, rfl, _⟩ := h
    rfl
  · obtain ⟨v1, v2, b, rfl, hv, bad, good⟩ := h
    have hr1 := hr.mono (show 1 ≤ 3 by decide)
    have hr2 := hr.mono (show 2 ≤ 3 by decide)
    have tk : Takes (cxOf (L2.CX P w) P w K mg base ["names", "value"] "is_naming" (defScope sNaming) f cdv Ar fr s H E) (fun cls d _ H => E cls d H) := takes_of rfl rfl rfl rfl
    refine ⟨_, pss_cons (ps_if (pt_not (pt_val (pe_callV (E := fun _ _ _ _ => False) hG GA hr2 (by rfl) N.mA N.FA.kp N.bA .nil (fun _ => passAt0) (pa_cons (pv 0) pa_nil))))
        (pss_one (ps_raise rfl tk (pmk_own PySem.F.excBase_ValueError X.plain X.gl X.kp (raises_own X.hs X.ty) (by rfl)))) pss_nil)
      (pss_one (ps_ret (pe_and (pe_callV (E := fun _ _ _ _ => False) hG GK hr1 (by rfl) N.mK N.FK.kp N.bK .nil (fun _ => passAt0) (pa_cons (pv 1) (pa_cons (pv 0) pa_nil)))
        (pe_one (pe_callV (E := fun _ _ _ _ => False) hG GD hr (by rfl) N.mD N.FD.kp N.bD .nil (fun _ => passAt0) (pa_cons (pe_tupVals rfl (pv 1) (by rfl) N.T.tuple) (pa_cons pe_int pa_nil))))))), ?_⟩
    refine ⟨_, rfl, v1, b, rfl, hv, fun H1 s1 => ⟨_, rfl, ?_⟩⟩
    cases b with
    | false => exact bad rfl H1 s1
    | true =>
      obtain ⟨t, ns, r, rfl, at_, few, hn, q⟩ := good rfl
      have at1 := s1 _ _ at_
      cases hn with
      | no kn ne =>
        refine ⟨_, rfl, _, rfl, _, t, ns, false, rfl, at1, few, .no (kn.same s1) ne, fun H2 s2 => ⟨_, rfl, ?_⟩⟩
        rw [if_neg (by decide)]
        exact q _ (same_trans s1 s2)
      | @dict d kvs e fk ok =>
        refine ⟨_, rfl, _, rfl, _, t, ns, keysV kvs ns, rfl, at1, few, .dict (s1 _ _ e) fk, fun H2 s2 => ⟨_, rfl, ?_⟩⟩
        have S := same_trans s1 s2
        cases c : keysV kvs ns with
        | false =>
          rw [if_neg (by decide)]
          rw [c, Bool.false_and] at q
          exact q _ S
        | true =>
          rw [if_pos rfl]
          rw [c, Bool.true_and] at q
          refine ⟨_, rfl, d, kvs, rfl, S _ _ e, fun p np => ?_⟩
          have z := same_upd (o := .tup (kvs.map (·.2))) np
          refine ⟨p, kvs.map (·.2), 0, rfl, upd_same, fun x m => ((ok x m).same S).same z, by rw [List.length_map]; exact fk, fun H3 s3 => ?_⟩
          exact q _ (same_trans (same_trans S z) s3)
end
end Lx

/-! Words: fractions judged. -/
namespace Lx
open PySem PySem.Spec PyProof.Rows L2 Fw
def pairV : V → V → Bool
  | .int a, .int b => decide (1 ≤ b) && decide (Nat.gcd a.natAbs b.natAbs = 1)
  | _, _ => false
def fracV : List V → Bool
  | [x, y] => pairV x y
  | _ => false
theorem pairV_whole {x y : V} (h : (wholeV x && wholeV y) = false) : pairV x y = false := by
  cases x <;> first | rfl | (cases y <;> first | rfl | cases h)
/-- a value, and whether it is a fraction in lowest terms -/
inductive FracOf (H : Hp) : V → Bool → Prop
  | tup {a : Addr} {xs : List V} (e : H a = some (.tup xs)) (ok : ∀ x ∈ xs, Vok H x) (few : xs.length ≤ 1000) : FracOf H (.ref a) (fracV xs)
  | no {v : V} {n : String} (kn : Kn H v n) (ne : isB n "tuple" = false) : FracOf H v false
def spFrac : Sp := fun vs H Q _ => ∃ v b, vs = [v] ∧ FracOf H v b ∧ Q (.bl b) H
section
variable {P : Program} {w : World} {K : PySem.W.Frag} {mg : Str → Option Value} {base : Heap} {gg : Bool}
theorem scIsFraction : FnScope ["value", "top", "bottom"] ["value"] (defScope sIsFraction) := ⟨rfl, rfl, rfl, by decide +kernel, rfl, by decide +kernel, by decide +kernel⟩
theorem ok_isFraction {f fW : Addr} {fd dW : FuncData} (F : Fun K "is_fraction" "is_fraction" sIsFraction f fd) (T : TxW K mg) (mG : mg "gcd" = some (.builtin "math.gcd")) (mW : mg "_is_whole" = some (.ref fW)) (FW : Fun K "_is_whole" "_is_whole" sWhole fW dW) (bW : Binds K dW ["value"] []) :
    FnV gg P w K mg base CX0 2 f fd ["value"] spFrac := by
  have GW : FnV gg P w K mg base CX0 1 fW dW ["value"] (spJ wholeV) := ok_whole FW T
  refine fnV F scIsFraction (fun vs H Q E h => ?_) (fun cdv Ar fr s H vs Q E hG hr h => ?_)
  · obtain ⟨v, b, rfl, _⟩ := h
    rfl
  · obtain ⟨v, b, rfl, hv, q⟩ := h
    refine ⟨_, pss_cons (ps_if (PW.pt (pw_or (pt_not (pt_val (pe_is (t := "tuple") (.inr (.inr (.inr (.inl rfl)))) (by rfl) T.isi (by rfl) T.tuple (by decide +kernel) (pv 0) mono_var)))
        (pw_or1 (pt_cmpR op_ne (pe_callB call_len_seq (by rfl) T.len PySem.boot_len (pa_cons (pv 0) pa_nil)) pe_int (nomark _))))) (pss_one (ps_ret pe_bl)) pss_nil)
      (pss_cons (ps_asg (pv 0) (pg_tup (by rfl) (pgs_cons (pg_name (i := 1) scIsFraction.nd rfl (Or.inl rfl)) (pgs_cons (pg_name (i := 2) scIsFraction.nd rfl (Or.inl rfl)) pgs_nil))))
      (pss_one (ps_ret (pe_and (pe_callV (E := fun _ _ _ _ => False) hG GW hr (by rfl) mW FW.kp bW .nil (fun _ => passAt0) (pa_cons (pv 1) pa_nil))
        (pe_and (pe_callV (E := fun _ _ _ _ => False) hG GW hr (by rfl) mW FW.kp bW .nil (fun _ => passAt0) (pa_cons (pv 2) pa_nil))
          (pe_and (pe_cmpR op_ge (pv 2) pe_int (nomark _))
            (pe_one (pe_cmpR op_eq (pe_callBfun cr_gcd (by rfl) mG (pa_cons (pv 1) (pa_cons (pv 2) pa_nil))) pe_int (nomark _))))))))), ?_⟩
    cases hv with
    | no kn ne =>
      refine ⟨_, rfl, _, kn, _, rfl, ?_⟩
      rw [ne]
      exact q
    | @tup a xs e ok few =>
      refine ⟨_, rfl, _, .tup e, _, rfl, ?_⟩
      rw [show isB "tuple" "tuple" = true by decide]
      refine ⟨_, rfl, a, xs, rfl, .inr (SqT.of e), rfl, _, rfl, ?_⟩
      by_cases c : xs.length = 2
      · obtain ⟨x, y, rfl⟩ : ∃ x y, xs = [x, y] := by
          match xs, c with
          | [x, y], _ => exact ⟨x, y, rfl⟩
        have vx := ok x (by simp)
        have vy := ok y (by simp)
        rw [show (!decide (V.int (([x, y] : List V).length : Int) = V.int 2)) = false from rfl]
        refine ⟨_, rfl, a, [x, y], rfl, SqT.of e, rfl, ?_⟩
        refine ⟨x, [y], rfl, y, [], rfl, rfl, ?_⟩
        refine ⟨_, rfl, x, rfl, vx, _, rfl, ?_⟩
        cases c1 : wholeV x with
        | false =>
          rw [if_neg (by decide)]
          rw [show fracV [x, y] = false from pairV_whole (by rw [c1]; rfl)] at q
          exact q
        | true =>
          rw [if_pos rfl]
          refine ⟨_, rfl, y, rfl, vy, _, rfl, ?_⟩
          cases c2 : wholeV y with
          | false =>
            rw [if_neg (by decide)]
            rw [show fracV [x, y] = false from pairV_whole (by rw [c1, c2]; rfl)] at q
            exact q
          | true =>
            rw [if_pos rfl]
            obtain ⟨i, rfl⟩ : ∃ i, x = .int i := by
              cases x <;> first | exact ⟨_, rfl⟩ | cases c1
            obtain ⟨j, rfl⟩ : ∃ i, y = .int i := by
              cases y <;> first | exact ⟨_, rfl⟩ | cases c2
            have ev : fracV [.int i, .int j] = (decide (1 ≤ j) && decide (Nat.gcd i.natAbs j.natAbs = 1)) := rfl
            rw [ev] at q
            refine ⟨_, rfl, j, 1, rfl, rfl, _, rfl, ?_⟩
            by_cases d : decide (1 ≤ j) = true
            · rw [if_pos d]
              rw [d, Bool.true_and] at q
              refine ⟨_, rfl, _, rfl, i, j, rfl, rfl, ?_⟩
              have same : decide (V.int ((Nat.gcd i.natAbs j.natAbs : Nat) : Int) = V.int 1) = decide (Nat.gcd i.natAbs j.natAbs = 1) := by
                refine decide_eq_decide.mpr ⟨fun l => ?_, fun l => by rw [l]; rfl⟩
                injection l with l
                omega
              show Q (.bl (decide (V.int ((Nat.gcd i.natAbs j.natAbs : Nat) : Int) = V.int 1))) H
              rw [same]
              exact q
            · rw [if_neg d]
              rw [Bool.eq_false_iff.mpr d, Bool.false_and] at q
              exact q
      · have ev : fracV xs = false := by
          match xs, c with
          | [], _ => rfl
          | [_], _ => rfl
          | [_, _], c => exact absurd rfl c
          | _ :: _ :: _ :: _, _ => rfl
        have ne : (!decide (V.int ((xs.length : Nat) : Int) = V.int 2)) = true := by
          have : ¬ V.int ((xs.length : Nat) : Int) = V.int 2 := fun l => c (by injection l with l; omega)
          rw [decide_eq_false this]
          rfl
        rw [ne]
        rw [ev] at q
        exact q
end
end Lx

/-! Words: fractions made. -/
namespace Lx
open PySem PySem.Spec PyProof.Rows L2 Fw
theorem op_fdivZ {X : Cx} : OpR X (binaryOp .FloorDiv) (rI (fun _ j => j ≠ 0 ∧ j.natAbs.log2 < 9000) fun i j => .int (i.fdiv j)) := opI fun i j _ _ _ _ _ hc q =>
  floordiv_int hc.1 q (.inl (PyProof.noPylong_of_log2 hc.2))
/-- the divisor, with the sign of the bottom -/
def divV (i j : Int) : Int := if j < 0 then -((Nat.gcd i.natAbs j.natAbs : Nat) : Int) else ((Nat.gcd i.natAbs j.natAbs : Nat) : Int)
def fracT (i j : Int) : V := .int (i.fdiv (divV i j))
def fracB (i j : Int) : V := .int (j.fdiv (divV i j))
/-- an error class that keeps a value -/
structure ExK (K : PySem.W.Frag) (mg : Str → Option Value) (x : Str) (C I : Addr) : Prop where
  gl : mg x = some (.ref C)
  init : ∃ q, InitC K C I q "value"
  hs : PySem.W.subIn K (.ref C) (.type "BaseException") = some true
  ty : PySem.W.typeIn K (.ref C) = some (.type "type")
def spFraction (C : Addr) : Sp := fun vs H Q E => ∃ v1 v2 : V, vs = [v1, v2] ∧ Vok H v1 ∧ Vok H v2 ∧
  (intV v1 = false → ∀ d H', Same H H' → H' d = some (.xd [("value", v1)]) → E (.ref C) (some d) H') ∧
  (intV v1 = true → (intV v2 = false ∨ v2 = .int 0) → ∀ d H', Same H H' → H' d = some (.xd [("value", v2)]) → E (.ref C) (some d) H') ∧
  (∀ i j : Int, v1 = .int i → v2 = .int j → intV v1 = true → intV v2 = true → j ≠ 0 → ∀ p, H p = none → Q (.ref p) (upd H p (.tup [fracT i j, fracB i j])))
theorem out_same {H : Hp} {a d : Addr} {u : HO} {D : Addr} (na : H a = none) (nd : H d = none) : Same H (delH (upd (upd H d u) a (ExD D a d)) a) := fun b o e => by
  rw [delH_ne (ne_of_none e na), upd_ne (ne_of_none e na), upd_ne (ne_of_none e nd)]
  exact e
theorem out_at {H : Hp} {a d : Addr} {u : HO} {D : Addr} (ne : d ≠ a) : delH (upd (upd H d u) a (ExD D a d)) a d = some u := by rw [delH_ne ne, upd_ne ne, upd_same]
theorem intV_bits {j : Int} (h : intV (.int j) = true) : j.natAbs < 2 ^ 200 := by
  have z : (decide (-BB < j) && decide (j < BB)) = true := h
  obtain ⟨z1, z2⟩ := Bool.and_eq_true_iff.mp z
  have z1 := of_decide_eq_true z1
  have z2 := of_decide_eq_true z2
  have b : BB ≤ 2 ^ 200 := by decide
  omega
section
variable {P : Program} {w : World} {K : PySem.W.Frag} {mg : Str → Option Value} {base : Heap} {gg : Bool}
theorem scFraction : FnScope ["top", "bottom"] ["top", "bottom"] (defScope sFraction) := ⟨rfl, rfl, rfl, by decide +kernel, rfl, by decide +kernel, by decide +kernel⟩
theorem scLowest : FnScope ["top", "bottom", "divisor"] ["top", "bottom"] (defScope sLowest) := ⟨rfl, rfl, rfl, by decide +kernel, rfl, by decide +kernel, by decide +kernel⟩
/-- the lowest form of i / j -/
def spLowest : Sp := fun vs H Q _ => ∃ i j : Int, vs = [.int i, .int j] ∧ intV (.int j) = true ∧ j ≠ 0 ∧ ∀ p, H p = none → Q (.ref p) (upd H p (.tup [fracT i j, fracB i j]))
theorem ok_lowest {f : Addr} {fd : FuncData} (F : Fun K "lowest" "lowest" sLowest f fd) (mG : mg "gcd" = some (.builtin "math.gcd")) : FnV gg P w K mg base CX0 1 f fd ["top", "bottom"] spLowest := by
  refine fnV F scLowest (fun vs H Q E h => ?_) (fun cdv Ar fr s H vs Q E hG hr h => ?_)
  · obtain ⟨i, j, rfl, _⟩ := h
    rfl
  · obtain ⟨i, j, rfl, c2, j0, res⟩ := h
    refine ⟨_, pss_cons (ps_set (i := 2) scLowest.nd rfl (Or.inl rfl) (pe_callBfun cr_gcd (by rfl) mG (pa_cons (pv 0) (pa_cons (pv 1) pa_nil))))
      (pss_cons (ps_if (pt_cmpR op_lt (pv 1) pe_int (nomark _)) (pss_one (ps_set (i := 2) scLowest.nd rfl (Or.inl rfl) (pe_un un_neg (pv 2)))) pss_nil)
      (pss_one (ps_ret (pe_tup (pa_cons (pe_op op_fdivZ (pv 0) (pv 2)) (pa_cons (pe_op op_fdivZ (pv 1) (pv 2)) pa_nil)))))), ?_⟩
    unfold fracT fracB at res
    have small := intV_bits c2
    have g0 : 0 < Nat.gcd i.natAbs j.natAbs := Nat.gcd_pos_of_pos_right _ (by omega)
    have gle : Nat.gcd i.natAbs j.natAbs ≤ j.natAbs := Nat.le_of_dvd (by omega) (Nat.gcd_dvd_right _ _)
    have g9 : (Nat.gcd i.natAbs j.natAbs).log2 < 9000 := Nat.lt_of_lt_of_le (PySem.Flt.log2_lt_of (k := 200) (by decide) (Nat.lt_of_le_of_lt gle small)) (by decide)
    refine ⟨_, rfl, _, rfl, i, j, rfl, ?_⟩
    refine ⟨_, rfl, _, _, rfl, rfl, _, rfl, ?_⟩
    refine ite2 (fun c4 => ?_) (fun c4 => ?_)
    · have neg : j < 0 := of_decide_eq_true c4
      have ev : divV i j = -((Nat.gcd i.natAbs j.natAbs : Nat) : Int) := if_pos neg
      have ok : divV i j ≠ 0 ∧ (divV i j).natAbs.log2 < 9000 := by
        rw [ev, Int.natAbs_neg, Int.natAbs_natCast]
        exact ⟨by omega, g9⟩
      rw [ev] at res ok
      exact ⟨_, rfl, _, rfl, _, rfl, _, rfl, _, _, rfl, rfl, ok, _, rfl, _, rfl, _, _, rfl, rfl, ok, by show 2 ≤ sizeLine; decide, res⟩
    · have pos : ¬ j < 0 := fun z => c4 (decide_eq_true z)
      have ev : divV i j = ((Nat.gcd i.natAbs j.natAbs : Nat) : Int) := if_neg pos
      have ok : divV i j ≠ 0 ∧ (divV i j).natAbs.log2 < 9000 := by
        rw [ev, Int.natAbs_natCast]
        exact ⟨by omega, g9⟩
      rw [ev] at res ok
      exact ⟨_, rfl, _, rfl, _, _, rfl, rfl, ok, _, rfl, _, rfl, _, _, rfl, rfl, ok, by show 2 ≤ sizeLine; decide, res⟩
theorem ok_fraction {f C CI fI fW : Addr} {fd dI dW : FuncData} (F : Fun K "fraction" "fraction" sFraction f fd) (T : TxW K mg) (X : ExK K mg "InvalidNumber" C CI) (O : InitOk "value") (mG : mg "gcd" = some (.builtin "math.gcd"))
    (mI : mg "is_integer" = some (.ref fI)) (FI : Fun K "is_integer" "is_integer" sInteger fI dI) (bI : Binds K dI ["value"] []) (mW : mg "_is_whole" = some (.ref fW)) (FW : Fun K "_is_whole" "_is_whole" sWhole fW dW) (bW : Binds K dW ["value"] []) :
    FnV gg P w K mg base (L2.CX P w) 3 f fd ["top", "bottom"] (spFraction C) := by
  have GI : FnV gg P w K mg base CX0 2 fI dI ["value"] (spJ intV) := ok_integer FI T mW FW bW
  obtain ⟨qC, XC⟩ := X.init
  obtain ⟨fL, dL, mL, FL, bL⟩ := T.low
  have GLo : FnV gg P w K mg base CX0 1 fL dL ["top", "bottom"] spLowest := ok_lowest FL mG
  refine fnV F scFraction (fun vs H Q E h => ?_) (fun cdv Ar fr s H vs Q E hG hr h => ?_)
  · obtain ⟨v1, v2, rfl, _⟩ := h
    rfl
  · obtain ⟨v1, v2, rfl, h1, h2, bad1, bad2, good⟩ := h
    have tk : Takes (cxOf (L2.CX P w) P w K mg base ["top", "bottom"] "fraction" (defScope sFraction) f cdv Ar fr s H E) (fun cls d _ H => E cls d H) := takes_of rfl rfl rfl rfl
    refine ⟨_, pss_cons (ps_if (pt_not (pt_val (pe_callV (E := fun _ _ _ _ => False) hG GI hr (by rfl) mI FI.kp bI .nil (fun _ => passAt0) (pa_cons (pv 0) pa_nil))))
        (pss_one (ps_raise rfl tk (pmk_retD (K := K) (H0 := H) rfl rfl rfl (pe_mkE XC O hr (by rfl) X.gl (pv 0))))) pss_nil)
      (pss_cons (ps_if (PW.pt (pw_or (pt_not (pt_val (pe_callV (E := fun _ _ _ _ => False) hG GI hr (by rfl) mI FI.kp bI .nil (fun _ => passAt0) (pa_cons (pv 1) pa_nil)))) (pw_or1 (pt_cmpR op_eq (pv 1) pe_int (nomark _)))))
        (pss_one (ps_raise rfl tk (pmk_retD (K := K) (H0 := H) rfl rfl rfl (pe_mkE XC O hr (by rfl) X.gl (pv 1))))) pss_nil)
      (pss_one (ps_ret (pe_callV (E := fun _ _ _ _ => False) hG GLo (hr.mono (by decide)) (by rfl) mL FL.kp bL .nil (fun _ => passAt0) (pa_cons (pv 0) (pa_cons (pv 1) pa_nil)))))), ?_⟩
    refine ⟨_, rfl, v1, rfl, h1, _, rfl, ?_⟩
    cases c1 : intV v1 with
    | false =>
      refine ⟨_, rfl, fun a d na nd ne => ?_⟩
      exact ⟨a, C, d, rfl, upd_same, fr0_none na, X.hs, X.ty, bad1 c1 d _ (out_same na nd) (out_at ne)⟩
    | true =>
      refine ⟨_, rfl, v2, rfl, h2, _, rfl, ?_⟩
      cases c2 : intV v2 with
      | false =>
        refine ⟨_, rfl, fun a d na nd ne => ?_⟩
        exact ⟨a, C, d, rfl, upd_same, fr0_none na, X.hs, X.ty, bad2 c1 (.inl c2) d _ (out_same na nd) (out_at ne)⟩
      | true =>
        obtain ⟨i, rfl⟩ : ∃ i, v1 = .int i := by
          cases v1 <;> first | exact ⟨_, rfl⟩ | cases c1
        obtain ⟨j, rfl⟩ : ∃ j, v2 = .int j := by
          cases v2 <;> first | exact ⟨_, rfl⟩ | cases c2
        refine ⟨_, rfl, rfl, _, rfl, ?_⟩
        refine ite2 (fun c3 => ?_) (fun c3 => ?_)
        · have j0 : V.int j = V.int 0 := of_decide_eq_true c3
          refine ⟨_, rfl, fun a d na nd ne => ?_⟩
          exact ⟨a, C, d, rfl, upd_same, fr0_none na, X.hs, X.ty, bad2 c1 (.inr j0) d _ (out_same na nd) (out_at ne)⟩
        · have j0 : j ≠ 0 := fun z => c3 (decide_eq_true (by rw [z]))
          have res := good i j rfl rfl c1 c2 j0
          exact ⟨_, rfl, _, rfl, i, j, rfl, c2, j0, res⟩
end
end Lx

/-! The dice of a law: what they promise. -/
namespace Lx
open PySem PySem.Spec PyProof.Rows L2 Fw
abbrev sDice : Stmt := top 21
abbrev sRoll : Stmt := top 22
abbrev sPick : Stmt := top 23
/-- at p stand dice -/
def DiceAt (H : Hp) (p : Addr) : Prop := ∃ l s c : Int, H p = some (.lst [.int l, .int s, .int c])
/-- all but p stands as it stood -/
def But (p : Addr) (H H' : Hp) : Prop := ∀ b o, b ≠ p → H b = some o → H' b = some o
theorem But.refl {p : Addr} {H : Hp} : But p H H := fun _ _ _ e => e
theorem But.trans {p : Addr} {H H1 H2 : Hp} (a : But p H H1) (b : But p H1 H2) : But p H H2 := fun c o n e => b c o n (a c o n e)
theorem But.upd {p : Addr} {H : Hp} {o : HO} : But p H (upd H p o) := fun b u n e => by
  rw [upd_ne n]
  exact e
theorem But.same {p : Addr} {H H' : Hp} (s : Same H H') : But p H H' := fun b o _ e => s b o e
theorem DiceAt.same {H H' : Hp} {p : Addr} (d : DiceAt H p) (s : Same H H') : DiceAt H' p := by
  obtain ⟨l, z, c, e⟩ := d
  exact ⟨l, z, c, s _ _ e⟩
/-- a new dice list, made of the script's number -/
def spDice (K : PySem.W.Frag) : Sp := fun vs H Q _ => ∃ (a : Addr) (ns : List Int) (i : Int), vs = [.ref a, .int i] ∧ SqL K H a (ns.map V.int) ∧ ns.length ≤ 63 ∧ 0 ≤ i ∧ i ≤ 1 ∧ ∀ p H', Same H H' → H p = none → DiceAt H' p → Q (.ref p) H'
/-- some number below t -/
def spRoll : Sp := fun vs H Q _ => ∃ (p : Addr) (t : Int), vs = [.ref p, .int t] ∧ DiceAt H p ∧ 0 < t ∧ t < 1000000 ∧ ∀ (r : Int) H', 0 ≤ r → r < t → But p H H' → DiceAt H' p → Q (.int r) H'
/-- some item -/
def spPick (K : PySem.W.Frag) : Sp := fun vs H Q _ => ∃ (p b : Addr) (xs : List V), vs = [.ref p, .ref b] ∧ DiceAt H p ∧ SqL K H b xs ∧ p ≠ b ∧ 0 < xs.length ∧ xs.length < 1000000 ∧ ∀ (r : Nat) (x : V) H', xs[r]? = some x → But p H H' → DiceAt H' p → Q x H'
structure TxD (mg : Str → Option Value) : Prop where
  int : mg "int" = none
  len : mg "len" = none
  max : mg "max" = none
  abs : mg "abs" = none
section
variable {P : Program} {w : World} {K : PySem.W.Frag} {mg : Str → Option Value} {base : Heap} {CX : CXT}
theorem scDice : FnScope ["_law_script", "_law_spot", "_law_cell", "_law_left"] ["_law_script", "_law_spot"] (defScope sDice) := ⟨rfl, rfl, rfl, by decide +kernel, rfl, by decide +kernel, by decide +kernel⟩
theorem ok_dice {f : Addr} {fd : FuncData} (F : Fun K "_law_dice" "_law_dice" sDice f fd) (T : TxD mg) : FnG P w K mg base CX0 1 f fd ["_law_script", "_law_spot"] (spDice K) := by
  refine fnG F scDice (fun vs H Q E h => ?_) (fun cdv A fr s H vs Q E hG hr h => ?_)
  · obtain ⟨a, ns, i, rfl, _⟩ := h
    rfl
  · obtain ⟨a, ns, i, rfl, hS, hl, h0, h1, k⟩ := h
    refine ⟨_, pss_cons (ps_set (i := 2) scDice.nd rfl (Or.inl rfl) (pe_ifExp (pt_cmpR op_lt (pv 1) (pe_callB call_len_seq (by rfl) T.len PySem.boot_len (pa_cons (pv 0) pa_nil)) (nomark _))
          (pe_callTy call_int1 (by rfl) T.int (by decide +kernel) (pa_cons (pe_ix ix_list (pv 0) (pv 1) (fun _ _ => rfl)) pa_nil))
          (pe_op op_add (pe_op op_mul pe_int (pv 1)) pe_int)))
      (pss_cons (ps_set (i := 3) scDice.nd rfl (Or.inl rfl) (pe_op op_mod (pe_callB (call_max2 rfl) (by rfl) T.max (by decide +kernel) (pa_cons pe_int (pa_cons
          (pe_op op_sub (pe_callB call_abs (by rfl) T.abs (by decide +kernel) (pa_cons (pv 2) pa_nil)) (pe_op op_pow pe_int pe_int)) pa_nil)))
          (pe_op op_mulW (pe_op op_pow pe_int pe_int) (pe_op op_pow pe_int pe_int))))
      (pss_one (ps_ret (pe_lst (pa_cons (pv 3) (pa_cons
          (pe_op op_add (pe_op op_add (pe_op op_add (pe_op op_mul (pe_op op_mod (pe_callB call_abs (by rfl) T.abs (by decide +kernel) (pa_cons (pv 2) pa_nil)) pe_int) pe_int) (pe_op op_mul pe_int (pv 1)))
            (pe_op op_mul pe_int (pe_callTy call_int1 (by rfl) T.int (by decide +kernel) (pa_cons (pe_cmpR op_lt (pv 2) pe_int (nomark _)) pa_nil)))) pe_int)
          (pa_cons pe_int pa_nil))))))), ?_⟩
    have pw : ∀ k : Nat, k ≤ 100 → CPow 10 (k : Int) := fun k hk => ⟨by omega, by omega, by decide⟩
    have cm : CMulW (10 ^ Int.toNat 60) (10 ^ Int.toNat 60) := by
      unfold CMulW
      decide +kernel
    have ps1 : (0 : Int) < 10 ^ Int.toNat 60 * 10 ^ Int.toNat 60 := by decide +kernel
    have ps2 : (0 : Int) < 1152921504606846883 := by decide
    have few : ∀ x y z : V, [x, y, z].length ≤ sizeLine := fun _ _ _ => (by decide : 3 ≤ sizeLine)
    have done_ : ∀ l s' : Int, ∀ p, H p = none → Q (.ref p) (upd H p (.lst [.int l, .int s', .int 0])) := fun l s' p hp => k p _ (same_upd hp) hp ⟨l, s', 0, upd_same⟩
    refine ⟨_, rfl, _, rfl, a, _, rfl, .inl hS, _, _, rfl, rfl, _, rfl, ?_⟩
    refine ite2 (fun c => ?_) (fun c => ?_)
    · have lt : i.toNat < ns.length := by
        have c' : i < ((ns.map V.int).length : Int) := of_decide_eq_true c
        rw [List.length_map] at c'
        omega
      obtain ⟨n, hn⟩ : ∃ n, ns[i.toNat]? = some n := ⟨_, List.getElem?_eq_getElem lt⟩
      have at_ : atI (ns.map V.int) i = some (V.int n) := by
        have e := atI_nat (xs := ns.map V.int) (j := i.toNat) (v := V.int n) (by rw [List.getElem?_map, hn]; rfl)
        rw [Int.toNat_of_nonneg h0] at e
        exact e
      refine ⟨_, rfl, _, rfl, a, _, _, _, rfl, rfl, hS, at_, .inl ⟨_, rfl, ?_⟩⟩
      refine ⟨_, rfl, _, rfl, _, _, rfl, rfl, pw 16 (by decide), _, _, rfl, rfl, _, _, rfl, _, _, rfl, rfl, pw 60 (by decide), _, _, rfl, rfl, pw 60 (by decide), _, _, rfl, rfl, cm, _, _, rfl, rfl, ps1, ?_⟩
      refine ⟨_, rfl, _, rfl, _, rfl, _, _, rfl, rfl, ps2, _, _, rfl, rfl, .inr ⟨by decide, by decide⟩, _, rfl, _, _, rfl, rfl, .inl ⟨by decide, by decide⟩, _, _, rfl, rfl,
        _, rfl, _, _, rfl, rfl, .inr ⟨_, rfl, _, _, rfl, rfl, .inl ⟨by decide, by decide⟩, _, _, rfl, rfl, _, _, rfl, rfl, few _ _ _, done_ _ _⟩⟩
    · refine ⟨_, rfl, _, _, rfl, rfl, .inl ⟨by decide, by decide⟩, _, _, rfl, rfl, ?_⟩
      refine ⟨_, rfl, _, rfl, _, _, rfl, rfl, pw 16 (by decide), _, _, rfl, rfl, _, _, rfl, _, _, rfl, rfl, pw 60 (by decide), _, _, rfl, rfl, pw 60 (by decide), _, _, rfl, rfl, cm, _, _, rfl, rfl, ps1, ?_⟩
      refine ⟨_, rfl, _, rfl, _, rfl, _, _, rfl, rfl, ps2, _, _, rfl, rfl, .inr ⟨by decide, by decide⟩, _, rfl, _, _, rfl, rfl, .inl ⟨by decide, by decide⟩, _, _, rfl, rfl,
        _, rfl, _, _, rfl, rfl, .inr ⟨_, rfl, _, _, rfl, rfl, .inl ⟨by decide, by decide⟩, _, _, rfl, rfl, _, _, rfl, rfl, few _ _ _, done_ _ _⟩⟩
theorem scRoll : FnScope ["_law_dice_here", "_law_total", "_law_found", "_law_one", "_law_two"] ["_law_dice_here", "_law_total"] (defScope sRoll) := ⟨rfl, rfl, rfl, by decide +kernel, rfl, by decide +kernel, by decide +kernel⟩
theorem ok_roll {f : Addr} {fd : FuncData} (F : Fun K "_law_roll" "_law_roll" sRoll f fd) (T : TxD mg) : FnG P w K mg base CX0 1 f fd ["_law_dice_here", "_law_total"] spRoll := by
  refine fnG F scRoll (fun vs H Q E h => ?_) (fun cdv A fr s H vs Q E hG hr h => ?_)
  · obtain ⟨p, t, rfl, _⟩ := h
    rfl
  · obtain ⟨p, t, rfl, ⟨l, z, c, hp⟩, t0, t1, k⟩ := h
    refine ⟨_, pss_cons (ps_if (pt_cmpR op_gt (pe_ix ix_list (pv 0) pe_int (fun _ _ => rfl)) pe_int (nomark _))
        (pss_cons (ps_set (i := 2) scRoll.nd rfl (Or.inl rfl) (pe_op op_mod (pe_callTy call_int1 (by rfl) T.int (by decide +kernel) (pa_cons (pe_ix ix_list (pv 0) pe_int (fun _ _ => rfl)) pa_nil)) (pv 1)))
        (pss_cons (ps_asg (pe_op op_fdiv (pe_ix ix_list (pv 0) pe_int (fun _ _ => rfl)) (pv 1)) (pg_sub (pv 0) pe_int set_list))
        (pss_one (ps_ret (pv 2))))) pss_nil)
      (pss_cons (ps_asg (pe_op op_add (pe_ix ix_list (pv 0) pe_int (fun _ _ => rfl)) pe_int) (pg_sub (pv 0) pe_int set_list))
      (pss_cons (ps_set (i := 3) scRoll.nd rfl (Or.inl rfl) (pe_op op_mod (pe_callTy call_int1 (by rfl) T.int (by decide +kernel) (pa_cons (pe_op op_add (pe_ix ix_list (pv 0) pe_int (fun _ _ => rfl)) (pe_op op_mul pe_int (pe_ix ix_list (pv 0) pe_int (fun _ _ => rfl)))) pa_nil)) pe_int))
      (pss_cons (ps_set (i := 4) scRoll.nd rfl (Or.inl rfl) (pe_op op_add (pe_op op_mul (pe_op op_mod (pe_callTy call_int1 (by rfl) T.int (by decide +kernel) (pa_cons (pe_op op_add (pe_op op_mul (pv 3) (pv 3)) (pe_op op_mul pe_int (pe_ix ix_list (pv 0) pe_int (fun _ _ => rfl)))) pa_nil)) pe_int) pe_int) (pv 3)))
      (pss_one (ps_ret (pe_op op_mod (pe_callTy call_int1 (by rfl) T.int (by decide +kernel) (pa_cons (pe_op op_fdiv (pv 4) pe_int) pa_nil)) (pv 1))))))), ?_⟩
    have i0 : ∀ x y u : V, atI [x, y, u] 0 = some x := fun _ _ _ => rfl
    have i1 : ∀ x y u : V, atI [x, y, u] 1 = some y := fun _ _ _ => rfl
    have i2 : ∀ x y u : V, atI [x, y, u] 2 = some u := fun _ _ _ => rfl
    refine ⟨_, rfl, p, _, _, _, rfl, rfl, SqL.of hp, i0 _ _ _, _, _, rfl, rfl, _, rfl, ?_⟩
    refine ite2 (fun _ => ?_) (fun _ => ?_)
    · refine ⟨_, rfl, p, _, _, _, rfl, rfl, SqL.of hp, i0 _ _ _, .inl ⟨_, rfl, _, rfl, _, _, rfl, rfl, t0, ?_⟩⟩
      refine ⟨_, rfl, p, _, _, _, rfl, rfl, SqL.of hp, i0 _ _ _, _, rfl, _, _, rfl, rfl, ⟨t0, by omega⟩, ?_⟩
      refine ⟨_, rfl, p, _, 0, 0, rfl, rfl, hp, rfl, ?_⟩
      exact ⟨_, rfl, k _ _ (Int.emod_nonneg _ (by omega)) (Int.emod_lt_of_pos _ t0) But.upd ⟨_, _, _, upd_same⟩⟩
    · refine ⟨_, rfl, p, _, _, _, rfl, rfl, SqL.of hp, i2 _ _ _, _, _, rfl, rfl, ?_⟩
      refine ⟨_, rfl, p, _, 2, 2, rfl, rfl, hp, rfl, ?_⟩
      have hq : (upd H p (.lst [.int l, .int z, .int (c + 1)])) p = some (.lst [.int l, .int z, .int (c + 1)]) := upd_same
      refine ⟨_, rfl, p, _, _, _, rfl, rfl, SqL.of hq, i1 _ _ _, _, rfl, p, _, _, _, rfl, rfl, SqL.of hq, i2 _ _ _, _, _, rfl, rfl, .inl ⟨by decide, by decide⟩, _, _, rfl, rfl, .inl ⟨_, rfl, _, _, rfl, rfl, (by show (0 : Int) < 2305843009213693907; decide), ?_⟩⟩
      have b0 := Int.emod_nonneg (z + 57885161 * (c + 1)) (show (2305843009213693907 : Int) ≠ 0 by decide)
      have b1 := Int.emod_lt_of_pos (z + 57885161 * (c + 1)) (show (0 : Int) < 2305843009213693907 by decide)
      refine ⟨_, rfl, _, rfl, _, _, rfl, rfl, .inl ⟨by omega, by omega⟩, _, rfl, p, _, _, _, rfl, rfl, SqL.of hq, i2 _ _ _, _, _, rfl, rfl, .inl ⟨by decide, by decide⟩, _, _, rfl, rfl, .inl ⟨_, rfl, _, _, rfl, rfl, (by show (0 : Int) < 2305843009213693921; decide), _, _, rfl, rfl, .inr ⟨by decide, by decide⟩, _, rfl, _, _, rfl, rfl, ?_⟩⟩
      refine ⟨_, rfl, _, _, rfl, rfl, ⟨by decide, by decide⟩, .inl ⟨_, rfl, _, rfl, _, _, rfl, rfl, t0, ?_⟩⟩
      exact k _ _ (Int.emod_nonneg _ (by omega)) (Int.emod_lt_of_pos _ t0) But.upd ⟨_, _, _, upd_same⟩
theorem scPick : FnScope ["_law_dice_here", "_law_items"] ["_law_dice_here", "_law_items"] (defScope sPick) := ⟨rfl, rfl, rfl, by decide +kernel, rfl, by decide +kernel, by decide +kernel⟩
theorem But.seqL {p b : Addr} {H H' : Hp} {xs : List V} (u : But p H H') (n : b ≠ p) (h : SqL K H b xs) : SqL K H' b xs := by
  rcases h with (h | ⟨o, h⟩) | h
  · exact .inl (.inl (u _ _ n h))
  · exact .inl (.inr ⟨o, u _ _ n h⟩)
  · exact .inr h
theorem ok_pick {f fR : Addr} {fd fdR : FuncData} (F : Fun K "_law_pick" "_law_pick" sPick f fd) (T : TxD mg) (mR : mg "_law_roll" = some (.ref fR)) (FR : Fun K "_law_roll" "_law_roll" sRoll fR fdR) (bR : Binds K fdR ["_law_dice_here", "_law_total"] []) :
    FnG P w K mg base CX0 2 f fd ["_law_dice_here", "_law_items"] (spPick K) := by
  have GR : FnG P w K mg base CX0 1 fR fdR ["_law_dice_here", "_law_total"] spRoll := ok_roll FR T
  refine fnG F scPick (fun vs H Q E h => ?_) (fun cdv A fr s H vs Q E hG hr h => ?_)
  · obtain ⟨p, b, xs, rfl, _⟩ := h
    rfl
  · obtain ⟨p, b, xs, rfl, hd, hx, ne, l0, l1, k⟩ := h
    refine ⟨_, pss_one (ps_ret (pe_ix ix_list (pv 1) (pe_callG (E := fun _ _ _ _ => False) hG GR hr (by rfl) mR FR.kp bR .nil (fun _ => passAt0) (pa_cons (pv 0) (pa_cons (pe_callB call_len_seq (by rfl) T.len PySem.boot_len (pa_cons (pv 1) pa_nil)) pa_nil))) (fun _ _ => rfl))), ?_⟩
    refine ⟨_, rfl, _, rfl, _, rfl, b, _, rfl, .inl hx, ?_⟩
    refine ⟨p, _, rfl, hd, by omega, by omega, fun r H' r0 r1 but d' => ?_⟩
    have lt : r.toNat < xs.length := by omega
    refine ⟨b, xs, r, _, rfl, rfl, but.seqL ne.symm hx, ?_, k r.toNat _ H' (List.getElem?_eq_getElem lt) but d'⟩
    have e := atI_nat (xs := xs) (j := r.toNat) (List.getElem?_eq_getElem lt)
    rw [Int.toNat_of_nonneg r0] at e
    exact e
end
end Lx

/-! Small things: comprehensions over a text's signs, lists of texts compared. -/
namespace Fw
open PySem PySem.Spec PyProof.Rows L2
theorem lcSigns {x : Str} {g : TG} {tt : TT} {te : TE} {vs : List Nat} {σ : L2.St} {H1 : Hp} {D : Addr} {Qd : Hp → Prop} (Pv : Nat → Hp → Prop) (first_ : Pv 0 (upd H1 D (.lst [])))
    (turn : ∀ i c H, x.cps[i]? = some c → Pv i H → g (.str ⟨#[c]⟩) (wipe σ vs) H fun σ2 H2 => wipe σ2 vs = wipe σ vs ∧ tt σ2 H2 fun b H3 =>
      if b = true then te σ2 H3 fun y H4 => ∃ acc, H4 D = some (.lst acc) ∧ acc.length < sizeLine ∧ Pv (i + 1) (upd H4 D (.lst (acc ++ [y]))) else Pv (i + 1) H3) (last : ∀ H, Pv x.cps.size H → Qd H) :
    ∃ W : Nat → Nat → Hp → Prop, (∃ m, W 0 m (upd H1 D (.lst []))) ∧ ∀ i m H, W i m H →
      ((Its x).stop i H ∧ Qd H) ∨ ((Its x).go i H ∧ ∃ Nx : Hp → Prop, (∀ H', Nx H' → ∃ m', m' < m ∧ W (i + 1) m' H') ∧ ∀ z H', (Its x).yld i H z H' → g z (wipe σ vs) H' fun σ2 H2 => wipe σ2 vs = wipe σ vs ∧ tt σ2 H2 fun b H3 =>
        if b = true then te σ2 H3 fun y H4 => ∃ acc, H4 D = some (.lst acc) ∧ acc.length < sizeLine ∧ Nx (upd H4 D (.lst (acc ++ [y]))) else Nx H3) := by
  refine ⟨fun i m H => m = x.cps.size - i ∧ i ≤ x.cps.size ∧ Pv i H, ⟨x.cps.size, rfl, Nat.zero_le _, first_⟩, fun i m H hW => ?_⟩
  obtain ⟨e, le, p⟩ := hW
  by_cases c : i < x.cps.size
  · refine .inr ⟨c, fun H' => Pv (i + 1) H', fun H' q => ⟨x.cps.size - (i + 1), by omega, rfl, by omega, q⟩, fun z H' hz => ?_⟩
    obtain ⟨eH, k, hk, ez⟩ := hz
    subst eH ez
    exact turn i k _ hk p
  · have ei : i = x.cps.size := by omega
    subst ei
    exact .inl ⟨Nat.le_refl _, last H p⟩
/-! ### lists of texts as data -/
theorem dpT {K : PySem.W.Frag} {H : Hp} : ∀ ys : List Str, DpAll K H (ys.map V.str) (ys.map PyData.str)
  | [] => .nil
  | y :: ys => .cons (.str y) (dpT ys)
theorem layT : ∀ ys : List Str, (∀ y ∈ ys, PyData.strOk y = true) → PyData.canLayAll0 (ys.map PyData.str) = true ∧ PyData.depthAll (ys.map PyData.str) = 0
  | [], _ => ⟨rfl, rfl⟩
  | y :: ys, h => by
    obtain ⟨a, b⟩ := layT ys fun z m => h z (List.mem_cons_of_mem _ m)
    have c := h y List.mem_cons_self
    constructor
    · show (PyData.strOk y && PyData.canLayAll0 (ys.map PyData.str)) = true
      rw [a, c]
      rfl
    · show max 0 (PyData.depthAll (ys.map PyData.str)) = 0
      rw [b]
      rfl
theorem shapedT {ys : List Str} (h : ∀ y ∈ ys, PyData.strOk y = true) : SeqAt.shaped (.list (ys.map PyData.str)) = true := by
  obtain ⟨a, b⟩ := layT ys h
  show (PyData.canLayAll0 (ys.map PyData.str) && decide (PyData.depthAll (ys.map PyData.str) + 1 ≤ 64)) = true
  rw [a, b]
  rfl
theorem eqv_nilT (ys : List Str) : PyData.eqv (.list (ys.map PyData.str)) (.list []) = ys.isEmpty := by
  cases ys <;> rfl
end Fw

/-! The law: the greatest common divisor, letters. -/
namespace Lx
open PySem PySem.Spec PyProof.Rows L2 Fw
abbrev sMixed : Stmt := top 24
abbrev sLettered : Stmt := top 25
abbrev sWord : Stmt := top 26
abbrev sNumber : Stmt := top 27
abbrev sMet : Stmt := top 28
abbrev sJudged : Stmt := top 29
abbrev sNamings : Stmt := top 30
abbrev sCommon : Stmt := top 31
abbrev sFractions : Stmt := top 32
abbrev sLaw : Stmt := top 33
def spCommon : Sp := fun vs H Q _ => ∃ a b : Nat, vs = [.int a, .int b] ∧ Q (.int ((Nat.gcd a b : Nat) : Int)) H
section
variable {P : Program} {w : World} {K : PySem.W.Frag} {mg : Str → Option Value} {base : Heap}
theorem scCommon : FnScope ["_law_one", "_law_other"] ["_law_one", "_law_other"] (defScope sCommon) := ⟨rfl, rfl, rfl, by decide +kernel, rfl, by decide +kernel, by decide +kernel⟩
theorem ok_common {f : Addr} {fd : FuncData} (F : Fun K "_law_common" "_law_common" sCommon f fd) : FnG P w K mg base CX0 1 f fd ["_law_one", "_law_other"] spCommon := by
  refine fnG F scCommon (fun vs H Q E h => ?_) (fun cdv Ar fr s H vs Q E hG hr h => ?_)
  · obtain ⟨a, b, rfl, _⟩ := h
    rfl
  · obtain ⟨a, b, rfl, q⟩ := h
    refine ⟨_, pss_cons (ps_while (passes_of rfl) (pt_cmpR op_gt (pv 1) pe_int (nomark _))
        (pss_one (ps_par (i := 0) (j := 1) (by rfl) scCommon.nd rfl rfl (by decide) rfl rfl (pa_cons (pv 1) (pa_cons (pe_op op_mod (pv 0) (pv 1)) pa_nil)) (by rfl))))
      (pss_one (ps_ret (pv 0))), ?_⟩
    refine while_by (fun σ' H' => H' = H ∧ ∃ x y : Nat, σ' = [some (.int x), some (.int y)] ∧ Nat.gcd x y = Nat.gcd a b) (fun σ' _ => match σ' with | [_, some (.int y)] => y.toNat | _ => 0) ⟨rfl, a, b, rfl, rfl⟩ (fun σ' H' z => ?_) (fun σ' H' Q1 Q2 m z => ?_)
    · obtain ⟨rfl, x, y, rfl, e⟩ := z
      refine ⟨_, rfl, _, _, rfl, rfl, _, rfl, ?_⟩
      refine ite2 (fun c => ?_) (fun c => ?_)
      · have pos : (0 : Int) < (y : Int) := of_decide_eq_true c
        have pos' : 0 < y := by omega
        refine ⟨_, rfl, _, rfl, _, rfl, _, _, rfl, rfl, pos, _, _, rfl, ⟨rfl, y, x % y, ?_, ?_⟩, ?_⟩
        · show [some (V.int (y : Int)), some (V.int ((x : Int) % (y : Int)))] = _
          rw [Int.natCast_emod]
        · rw [← e, Nat.gcd_comm x y, Nat.gcd_rec y x]
          exact Nat.gcd_comm _ _
        · show ((x : Int) % (y : Int)).toNat < ((y : Nat) : Int).toNat
          rw [← Int.natCast_emod, Int.toNat_natCast, Int.toNat_natCast]
          exact Nat.mod_lt _ pos'
      · have zero : y = 0 := by
          have : ¬ (0 : Int) < (y : Int) := fun l => c (decide_eq_true l)
          omega
        refine ⟨_, rfl, ?_⟩
        rw [zero, Nat.gcd_zero_right] at e
        rw [e]
        exact q
    · obtain ⟨v, e1, i, j, e2, e3, k, e4, q1⟩ := z
      exact ⟨v, e1, i, j, e2, e3, k, e4, m _ _ q1⟩
end
/-! ### letters -/
def az : Str := "abcdefghijklmnopqrstuvwxyz"
theorem az_low (c : Nat) : decide (c ∈ az.cps.toList) = low c := by
  have e : az.cps.toList = List.range' 97 26 := by decide +kernel
  rw [e]
  unfold low
  rw [Bool.eq_iff_iff]
  simp only [List.mem_range'_1, decide_eq_true_eq, Bool.and_eq_true]
  omega
/-- the signs that are no letters a to z -/
def odd (x : Str) (i : Nat) : List Str := ((x.cps.toList.take i).filter fun c => !low c).map fun c => (⟨#[c]⟩ : Str)
def plainS (x : Str) : Bool := x.cps.toList.all fun c => decide (c < 128)
theorem odd_len (x : Str) (i : Nat) : (odd x i).length ≤ x.length := by
  unfold odd
  rw [List.length_map]
  refine Nat.le_trans (List.length_filter_le _ _) ?_
  rw [List.length_take]
  exact Nat.min_le_right _ _
theorem sign_at {x : Str} {i c : Nat} (h : x.cps[i]? = some c) : x.cps.toList[i]? = some c := by
  rw [Array.getElem?_toList]
  exact h
theorem odd_yes {x : Str} {i c : Nat} (h : x.cps[i]? = some c) (l : low c = true) : odd x (i + 1) = odd x i := by
  unfold odd
  rw [List.take_add_one, sign_at h, List.filter_append]
  simp [l]
theorem odd_no {x : Str} {i c : Nat} (h : x.cps[i]? = some c) (l : low c = false) : odd x (i + 1) = odd x i ++ [⟨#[c]⟩] := by
  unfold odd
  rw [List.take_add_one, sign_at h, List.filter_append]
  simp [l]
theorem odd_ok {x : Str} (p : plainS x = true) (i : Nat) : ∀ y ∈ odd x i, PyData.strOk y = true := fun y m => by
  unfold odd at m
  obtain ⟨c, mc, rfl⟩ := List.mem_map.mp m
  have m2 := List.mem_of_mem_take (List.mem_filter.mp mc).1
  have z := of_decide_eq_true (List.all_eq_true.mp p c m2)
  show (#[c] : Array Nat).all (fun c => decide (c < 0x110000)) = true
  simp
  omega
theorem odd_end {x : Str} (h1 : 1 ≤ x.length) (h8 : x.length ≤ 8) : (odd x x.cps.size).isEmpty = nameS x := by
  unfold nameS
  rw [decide_eq_true h1, decide_eq_true h8, Bool.true_and, Bool.true_and]
  have e : x.cps.toList.take x.cps.size = x.cps.toList := List.take_of_length_le (by simp)
  unfold odd
  rw [e]
  rw [Bool.eq_iff_iff, List.isEmpty_iff, List.map_eq_nil_iff, List.filter_eq_nil_iff, List.all_eq_true]
  constructor
  · intro z c m
    simpa using z c m
  · intro z c m
    simpa using z c m
def spLettered : Sp := fun vs H Q _ => ∃ x : Str, vs = [.str x] ∧ x.length ≤ 1000 ∧ plainS x = true ∧ ∀ H', Same H H' → Q (.bl (nameS x)) H'
abbrev nL : List Str := ["_law_value", "_law_sign"]
section
variable {P : Program} {w : World} {K : PySem.W.Frag} {mg : Str → Option Value} {base : Heap}
theorem scLettered : FnScope ["_law_value", "_law_sign"] ["_law_value"] (defScope sLettered) := ⟨rfl, rfl, rfl, by decide +kernel, rfl, by decide +kernel, by decide +kernel⟩
theorem ok_lettered {f : Addr} {fd : FuncData} (F : Fun K "_law_lettered" "_law_lettered" sLettered f fd) (T : TxW K mg) : FnG P w K mg base CX0 1 f fd ["_law_value"] spLettered := by
  refine fnG F scLettered (fun vs H Q E h => ?_) (fun cdv Ar fr s H vs Q E hG hr h => ?_)
  · obtain ⟨x, rfl, _⟩ := h
    rfl
  · obtain ⟨x, rfl, small, plain, q⟩ := h
    refine ⟨_, pss_cons (ps_if (PW.pt (pw_or (pt_not (pt_val (pe_is (t := "str") (.inr (.inr (.inl rfl))) (by rfl) T.isi (by rfl) T.str (by decide +kernel) (pv 0) mono_var)))
        (pw_or1 (pt_not (pt_chain op_lt op_lt pe_int (pe_callB call_len_str (by rfl) T.len PySem.boot_len (pa_cons (pv 0) pa_nil)) pe_int))))) (pss_one (ps_ret pe_bl)) pss_nil)
      (pss_one (ps_ret (pe_cmpR (op_eqD hr.units)
        (pe_lc (own := [("_law_sign", 1)]) (g := gName 1) (by rfl) scLettered.nd (pi_str (pv 0))
          (blkOk_by (N := nL) (sc := defScope sLettered) (own := [("_law_sign", 1)]) (by decide +kernel)) (fun _ _ _ _ _ => pg_name (i := 1) scLettered.nd rfl (Or.inl rfl))
          (fun _ _ _ _ _ => pts_one (pt_cmpR op_notIn_sign (pv 1) pe_str (by rfl))) (fun _ _ _ _ _ => pv 1)) (pe_lst pa_nil) (nomark _)))), ?_⟩
    refine ⟨_, rfl, _, .str x, _, rfl, ?_⟩
    rw [show isB "str" "str" = true by decide]
    have sm : x.length ≤ sizeLine := Nat.le_trans small (by decide)
    refine ⟨_, rfl, x, rfl, sm, _, _, rfl, rfl, _, rfl, ?_⟩
    by_cases c1 : decide ((0 : Int) < (x.length : Int)) = true
    · rw [if_pos c1]
      refine ⟨_, _, rfl, rfl, _, rfl, ?_⟩
      by_cases c2 : decide ((x.length : Int) < 9) = true
      · rw [c2]
        refine ⟨_, rfl, x, rfl, fun D nD => ?_⟩
        refine lcSigns (x := x) (fun i Hc => Same H Hc ∧ Hc D = some (.lst ((odd x i).map V.str))) ⟨same_upd nD, upd_same⟩ ?_ ?_
        · rintro i c Hc hc ⟨sm2, hD⟩
          refine ⟨rfl, _, rfl, c, az, rfl, rfl, _, rfl, ?_⟩
          rw [az_low]
          cases l : low c with
          | true =>
            rw [if_neg (by decide)]
            refine ⟨sm2, ?_⟩
            rw [hD, odd_yes hc l]
          | false =>
            refine ⟨_, rfl, _, hD, ?_, fun b o e => ?_, ?_⟩
            · rw [List.length_map]
              exact Nat.lt_of_le_of_lt (odd_len x i) (Nat.lt_of_le_of_lt small (by decide))
            · have ne : b ≠ D := ne_of_none e nD
              rw [upd_ne ne]
              exact sm2 _ _ e
            · rw [upd_same, odd_no hc l]
              simp
        · rintro Hc ⟨sm2, hD⟩
          refine ⟨Nat.zero_le _, fun p np => ⟨_, _, .lst (SqL.of ((same_upd np) _ _ hD)) (dpT _), .lst (SqL.of upd_same) .nil, shapedT (odd_ok plain _), by decide +kernel, ?_⟩⟩
          have ev : PyData.eqv (.list ((odd x x.cps.size).map PyData.str)) (.list []) = nameS x := by
            rw [eqv_nilT]
            exact odd_end (by have := of_decide_eq_true c1; omega) (by have := of_decide_eq_true c2; omega)
          rw [ev]
          exact q _ (same_trans sm2 (same_upd np))
      · rw [Bool.eq_false_iff.mpr c2]
        have ev : nameS x = false := by
          have : ¬ x.length ≤ 8 := fun l => c2 (decide_eq_true (by omega))
          unfold nameS
          simp [this]
        rw [ev] at q
        exact q _ fun _ _ e => e
    · rw [if_neg c1]
      have ev : nameS x = false := by
        have : ¬ 1 ≤ x.length := fun l => c1 (decide_eq_true (by omega))
        unfold nameS
        simp [this]
      rw [ev] at q
      exact ⟨_, rfl, q _ fun _ _ e => e⟩
end
end Lx

/-! The law: drawn words. -/
namespace Lx
open PySem PySem.Spec PyProof.Rows L2 Fw
def spWord : Sp := fun vs H Q _ => ∃ p : Addr, vs = [.ref p] ∧ DiceAt H p ∧ ∀ (x : Str) (H' : Hp), x.length ≤ 10 → plainS x = true → But p H H' → DiceAt H' p → Q (.str x) H'
abbrev nWd : List Str := ["_law_dice_here", "_law_signs", "_law_turn"]
/-- the signs are one sign each, all plain -/
def Ones (ys : List Str) : Prop := ∀ y ∈ ys, ∃ c, c < 128 ∧ y = (⟨#[c]⟩ : Str)
theorem ones_join (ys : List Str) (h : Ones ys) : (Txt.join Str.empty ys).length = ys.length ∧ plainS (Txt.join Str.empty ys) = true := by
  have key : ∀ ys : List Str, Ones ys → (TL.tl (Str.join Str.empty ys)).length = ys.length ∧ ∀ c ∈ TL.tl (Str.join Str.empty ys), c < 128 := by
    intro ys
    induction ys with
    | nil => exact fun _ => ⟨rfl, fun c m => by cases m⟩
    | cons y r ih =>
      intro h
      obtain ⟨c, lt, rfl⟩ := h _ List.mem_cons_self
      obtain ⟨a, b⟩ := ih fun z m => h z (List.mem_cons_of_mem _ m)
      have e : TL.tl (Str.join Str.empty ((⟨#[c]⟩ : Str) :: r)) = c :: TL.tl (Str.join Str.empty r) := by
        rw [TL.tl_join, TL.tl_join]
        cases r with
        | nil => rfl
        | cons z r => rfl
      rw [e]
      exact ⟨by rw [List.length_cons, a, List.length_cons], fun d m => (List.mem_cons.mp m).elim (fun z => z ▸ lt) (b d)⟩
  obtain ⟨a, b⟩ := key ys h
  rw [TL.join_eq]
  refine ⟨a, List.all_eq_true.mpr fun c m => decide_eq_true (b c m)⟩
theorem ones_sum : ∀ ys : List Str, Ones ys → (ys.map (·.length)).sum = ys.length
  | [], _ => rfl
  | y :: r, h => by
    obtain ⟨c, _, rfl⟩ := h _ List.mem_cons_self
    have ih := ones_sum r fun z m => h z (List.mem_cons_of_mem _ m)
    rw [List.map_cons, List.sum_cons, ih, List.length_cons]
    show 1 + r.length = _
    omega
theorem sign_of {z : Str} {r : Int} (p : plainS z = true) (r0 : 0 ≤ r) (r1 : r < (z.length : Int)) : ∃ c, atI z.cps.toList r = some c ∧ c < 128 := by
  have lt : r.toNat < z.cps.toList.length := by
    show r.toNat < z.cps.toList.length
    have : z.length = z.cps.toList.length := by simp [Str.length]
    omega
  have e := atI_nat (xs := z.cps.toList) (j := r.toNat) (List.getElem?_eq_getElem lt)
  rw [Int.toNat_of_nonneg r0] at e
  exact ⟨_, e, of_decide_eq_true (List.all_eq_true.mp p _ (List.getElem_mem lt))⟩
section
variable {P : Program} {w : World} {K : PySem.W.Frag} {mg : Str → Option Value} {base : Heap}
theorem scWord : FnScope ["_law_dice_here", "_law_signs", "_law_turn"] ["_law_dice_here"] (defScope sWord) := ⟨rfl, rfl, rfl, by decide +kernel, rfl, by decide +kernel, by decide +kernel⟩
theorem ok_word {f fR : Addr} {fd dR : FuncData} (F : Fun K "_law_word" "_law_word" sWord f fd) (T : TxD mg) (mrg : mg "range" = none) (mR : mg "_law_roll" = some (.ref fR)) (FR : Fun K "_law_roll" "_law_roll" sRoll fR dR) (bR : Binds K dR ["_law_dice_here", "_law_total"] []) :
    FnG P w K mg base CX0 2 f fd ["_law_dice_here"] spWord := by
  have GR : FnG P w K mg base CX0 1 fR dR ["_law_dice_here", "_law_total"] spRoll := ok_roll FR T
  refine fnG F scWord (fun vs H Q E h => ?_) (fun cdv A fr s H vs Q E hG hr h => ?_)
  · obtain ⟨p, rfl, _⟩ := h
    rfl
  · obtain ⟨p, rfl, hd, q⟩ := h
    refine ⟨_, pss_cons (ps_set (i := 1) scWord.nd rfl (Or.inr rfl) (pe_ifExp (pt_cmpR op_gt (pe_callG (E := fun _ _ _ _ => False) hG GR hr (by rfl) mR FR.kp bR .nil (fun _ => passAt0) (pa_cons (pv 0) (pa_cons pe_int pa_nil))) pe_int (nomark _)) pe_str pe_str))
      (pss_one (ps_ret (pe_join pe_str
        (pe_lc (own := [("_law_turn", 2)]) (g := gName 2) (by rfl) scWord.nd (pi_range1 (by rfl) mrg (pa_cons (pe_callG (E := fun _ _ _ _ => False) hG GR hr (by rfl) mR FR.kp bR .nil (fun _ => passAt0) (pa_cons (pv 0) (pa_cons pe_int pa_nil))) pa_nil))
          (blkOk_by (N := nWd) (sc := defScope sWord) (own := [("_law_turn", 2)]) (by decide +kernel)) (fun _ _ _ _ _ => pg_name (i := 2) scWord.nd rfl (Or.inl rfl)) (fun _ _ _ _ _ => pts_nil)
          (fun _ _ _ _ _ => pe_ix ix_str (pv 1) (pe_callG (E := fun _ _ _ _ => False) hG GR hr (by rfl) mR FR.kp bR .nil (fun _ => passAt0) (pa_cons (pv 0) (pa_cons (pe_callB call_len_str (by rfl) T.len PySem.boot_len (pa_cons (pv 1) pa_nil)) pa_nil))) (fun _ _ => rfl)))))), ?_⟩
    refine ⟨_, rfl, p, 3, rfl, hd, by decide, by decide, fun r1 H1 _ _ b1 d1 => ⟨_, _, rfl, rfl, _, rfl, ?_⟩⟩
    refine ite2 (fun _ => ?_) (fun _ => ?_)
    all_goals
      refine ⟨⟨_, rfl⟩, _, rfl, p, 11, rfl, d1, by decide, by decide, fun n H2 n0 n1 b2 d2 => ⟨n, rfl, by omega, by omega, fun D nD => ?_⟩⟩
      have nDp : D ≠ p := fun z => by
        obtain ⟨_, _, _, e⟩ := d2
        rw [← z, nD] at e
        cases e
      refine lc_range (lo := 0) (n := n.toNat) (fun i Hc => But p H2 Hc ∧ DiceAt Hc p ∧ ∃ ys : List Str, ys.length = i ∧ Ones ys ∧ Hc D = some (.lst (ys.map V.str))) ⟨But.same (same_upd nD), d2.same (same_upd nD), [], rfl, (fun _ m => by cases m), upd_same⟩ ?_ ?_
      · rintro i Hc lt ⟨bc, dc, ys, len, ones, hD⟩
        refine ⟨rfl, _, rfl, _, rfl, _, rfl, _, rfl, by decide +kernel, p, _, rfl, dc, by decide +kernel, by decide +kernel, fun r Hr r0 r1 bt dt => ?_⟩
        obtain ⟨c, hc, lc⟩ := sign_of (by decide +kernel) r0 r1
        refine ⟨_, r, c, rfl, rfl, by decide +kernel, hc, _, bt D _ nDp hD, ?_, ?_, ?_, ys ++ [⟨#[c]⟩], ?_, ?_, ?_⟩
        · rw [List.length_map, len, sizeLine_eq]
          omega
        · exact fun b o nb e => by
            have e2 := bt b o nb (bc b o nb e)
            rw [upd_ne (ne_of_none e nD)]
            exact e2
        · obtain ⟨a1, a2, a3, e⟩ := dt
          exact ⟨a1, a2, a3, by rw [upd_ne nDp.symm]; exact e⟩
        · rw [List.length_append, len]
          rfl
        · exact fun y m => (List.mem_append.mp m).elim (ones y) fun z => ⟨c, lc, List.mem_singleton.mp z⟩
        · rw [upd_same]
          simp
      · rintro Hc ⟨bc, dc, ys, len, ones, hD⟩
        obtain ⟨j1, j2⟩ := ones_join ys ones
        refine ⟨_, D, ys, rfl, rfl, .inl (SqL.of hD), ?_, q _ Hc (show (Txt.join Str.empty ys).length ≤ 10 by rw [j1]; omega) j2 (b1.trans (b2.trans bc)) dc⟩
        rw [ones_sum ys ones]
        show ys.length + ys.length * 0 ≤ 16777216
        omega
end
end Lx

/-! The law: drawn numbers. -/
namespace Lx
open PySem PySem.Spec PyProof.Rows L2 Fw
/-- the greatest number near which numbers are drawn -/
def TOP : Int := 10 ^ Int.toNat 40 * 10 ^ Int.toNat 40
def spNumber : Sp := fun vs H Q _ => ∃ p : Addr, vs = [.ref p] ∧ DiceAt H p ∧ ∀ (n : Int) (H' : Hp), n.natAbs ≤ TOP.natAbs + 5 → But p H H' → DiceAt H' p → Q (.int n) H'
def nears : List V := [.int 0, .int 1, .int 7, .int (10 ^ Int.toNat 6), .int (10 ^ Int.toNat 59), .int (10 ^ Int.toNat 60), .int (10 ^ Int.toNat 60), .int (10 ^ Int.toNat 40 * 10 ^ Int.toNat 40)]
theorem nears_int : ∀ x ∈ nears, ∃ m : Int, x = .int m ∧ 0 ≤ m ∧ m ≤ TOP := by
  have k : ∀ m ∈ ([0, 1, 7, 10 ^ Int.toNat 6, 10 ^ Int.toNat 59, 10 ^ Int.toNat 60, 10 ^ Int.toNat 60, 10 ^ Int.toNat 40 * 10 ^ Int.toNat 40] : List Int), 0 ≤ m ∧ m ≤ TOP := by decide +kernel
  intro x m
  have e : nears = ([0, 1, 7, 10 ^ Int.toNat 6, 10 ^ Int.toNat 59, 10 ^ Int.toNat 60, 10 ^ Int.toNat 60, 10 ^ Int.toNat 40 * 10 ^ Int.toNat 40] : List Int).map V.int := rfl
  rw [e] at m
  obtain ⟨i, mi, rfl⟩ := List.mem_map.mp m
  exact ⟨i, rfl, k i mi⟩
section
variable {P : Program} {w : World} {K : PySem.W.Frag} {mg : Str → Option Value} {base : Heap}
theorem scNumber : FnScope ["_law_dice_here", "_law_near", "_law_number_here"] ["_law_dice_here"] (defScope sNumber) := ⟨rfl, rfl, rfl, by decide +kernel, rfl, by decide +kernel, by decide +kernel⟩
structure TxP (K : PySem.W.Frag) (mg : Str → Option Value) (fR fP : Addr) (dR dP : FuncData) : Prop where
  D : TxD mg
  mR : mg "_law_roll" = some (.ref fR)
  FR : Fun K "_law_roll" "_law_roll" sRoll fR dR
  bR : Binds K dR ["_law_dice_here", "_law_total"] []
  mP : mg "_law_pick" = some (.ref fP)
  FP : Fun K "_law_pick" "_law_pick" sPick fP dP
  bP : Binds K dP ["_law_dice_here", "_law_items"] []
theorem ok_number {f fR fP : Addr} {fd dR dP : FuncData} (F : Fun K "_law_number" "_law_number" sNumber f fd) (T : TxP K mg fR fP dR dP) : FnG P w K mg base CX0 3 f fd ["_law_dice_here"] spNumber := by
  have GR : FnG P w K mg base CX0 1 fR dR ["_law_dice_here", "_law_total"] spRoll := ok_roll T.FR T.D
  have GP : FnG P w K mg base CX0 2 fP dP ["_law_dice_here", "_law_items"] (spPick K) := ok_pick T.FP T.D T.mR T.FR T.bR
  refine fnG F scNumber (fun vs H Q E h => ?_) (fun cdv A fr s H vs Q E hG hr h => ?_)
  · obtain ⟨p, rfl, _⟩ := h
    rfl
  · obtain ⟨p, rfl, hd, q⟩ := h
    have hr1 := hr.mono (show 1 ≤ 2 by decide)
    refine ⟨_, pss_cons (ps_set (i := 1) scNumber.nd rfl (Or.inl rfl) (pe_callG (E := fun _ _ _ _ => False) hG GP hr (by rfl) T.mP T.FP.kp T.bP .nil (fun _ => passAt0) (pa_cons (pv 0) (pa_cons
          (pe_lst (pa_cons pe_int (pa_cons pe_int (pa_cons pe_int (pa_cons (pe_op op_pow pe_int pe_int) (pa_cons (pe_op op_pow pe_int pe_int) (pa_cons (pe_op op_pow pe_int pe_int) (pa_cons (pe_op op_pow pe_int pe_int) (pa_cons (pe_op op_mulW (pe_op op_pow pe_int pe_int) (pe_op op_pow pe_int pe_int)) pa_nil))))))))) pa_nil))))
      (pss_cons (ps_set (i := 2) scNumber.nd rfl (Or.inl rfl) (pe_op op_sub (pe_op op_add (pv 1) (pe_callG (E := fun _ _ _ _ => False) hG GR hr1 (by rfl) T.mR T.FR.kp T.bR .nil (fun _ => passAt0) (pa_cons (pv 0) (pa_cons pe_int pa_nil)))) pe_int))
      (pss_one (ps_ret (pe_ifExp (pt_cmpR op_eq (pe_callG (E := fun _ _ _ _ => False) hG GR hr1 (by rfl) T.mR T.FR.kp T.bR .nil (fun _ => passAt0) (pa_cons (pv 0) (pa_cons pe_int pa_nil))) pe_int (nomark _)) (pe_op op_sub pe_int (pv 2)) (pv 2))))), ?_⟩
    have pw : ∀ k : Nat, k ≤ 100 → CPow 10 (k : Int) := fun k hk => ⟨by omega, by omega, by decide⟩
    have cm : CMulW (10 ^ Int.toNat 40) (10 ^ Int.toNat 40) := by
      unfold CMulW
      decide +kernel
    refine ⟨_, rfl, _, _, rfl, rfl, pw 6 (by decide), _, _, rfl, rfl, pw 59 (by decide), _, _, rfl, rfl, pw 60 (by decide), _, _, rfl, rfl, pw 60 (by decide), _, _, rfl, rfl, pw 40 (by decide), _, _, rfl, rfl, pw 40 (by decide), _, _, rfl, rfl, cm, (by show 8 ≤ sizeLine; decide), fun b nb => ?_⟩
    have ne : p ≠ b := fun z => by
      obtain ⟨_, _, _, e⟩ := hd
      rw [z, nb] at e
      cases e
    have z := same_upd (o := .lst nears) nb
    refine ⟨p, b, nears, rfl, hd.same z, SqL.of upd_same, ne, by decide, by decide, fun r x H1 hx b1 d1 => ?_⟩
    obtain ⟨m, rfl, m0, m1⟩ := nears_int x (List.mem_of_getElem? hx)
    refine ⟨_, rfl, _, rfl, p, 5, rfl, d1, by decide, by decide, fun r2 H2 a0 a1 b2 d2 => ?_⟩
    refine ⟨_, _, rfl, rfl, _, _, rfl, rfl, ?_⟩
    refine ⟨_, rfl, p, 3, rfl, d2, by decide, by decide, fun r3 H3 _ _ b3 d3 => ⟨rfl, _, rfl, ?_⟩⟩
    have all : But p H H3 := (But.same z).trans (b1.trans (b2.trans b3))
    have t0 : 0 ≤ TOP := by decide
    refine ite2 (fun _ => ?_) (fun _ => ?_)
    · exact ⟨_, rfl, _, _, rfl, rfl, q _ H3 (by omega) all d3⟩
    · exact ⟨_, rfl, q _ H3 (by omega) all d3⟩
end
end Lx

/-! The law: items in a drawn order. -/
namespace Lx
open PySem PySem.Spec PyProof.Rows L2 Fw
def spMixed (K : PySem.W.Frag) : Sp := fun vs H Q _ => ∃ (p b : Addr) (xs : List V), vs = [.ref p, .ref b] ∧ DiceAt H p ∧ SqL K H b xs ∧ xs.length ≤ 1000 ∧
  ∀ (ys : List V) (q : Addr) (H' : Hp), ys.Perm xs → But p H H' → DiceAt H' p → H q = none → H' q = some (.lst ys) → Q (.ref q) H'
theorem ix_nat {i n : Nat} (h : i < n) : seqIndex? (i : Int) n = some i := by
  unfold seqIndex?
  simp
  omega
section
variable {P : Program} {w : World} {K : PySem.W.Frag} {mg : Str → Option Value} {base : Heap}
theorem scMixed : FnScope ["_law_dice_here", "_law_items", "_law_left", "_law_found", "_law_turn"] ["_law_dice_here", "_law_items"] (defScope sMixed) := ⟨rfl, rfl, rfl, by decide +kernel, rfl, by decide +kernel, by decide +kernel⟩
theorem ok_mixed {f fR : Addr} {fd dR : FuncData} (F : Fun K "_law_mixed" "_law_mixed" sMixed f fd) (T : TxD mg) (mrg : mg "range" = none) (mls : mg "list" = none) (mR : mg "_law_roll" = some (.ref fR)) (FR : Fun K "_law_roll" "_law_roll" sRoll fR dR) (bR : Binds K dR ["_law_dice_here", "_law_total"] []) :
    FnG P w K mg base CX0 2 f fd ["_law_dice_here", "_law_items"] (spMixed K) := by
  have GR : FnG P w K mg base CX0 1 fR dR ["_law_dice_here", "_law_total"] spRoll := ok_roll FR T
  refine fnG F scMixed (fun vs H Q E h => ?_) (fun cdv A fr s H vs Q E hG hr h => ?_)
  · obtain ⟨p, b, xs, rfl, _⟩ := h
    rfl
  · obtain ⟨p, b, xs, rfl, hd, hb, few, q⟩ := h
    refine ⟨_, pss_cons (ps_par (i := 2) (j := 3) (by rfl) scMixed.nd rfl rfl (by decide) rfl rfl (pa_cons (pe_callTy call_list_of (by rfl) mls (by decide +kernel) (pa_cons (pv 1) pa_nil)) (pa_cons (pe_lst pa_nil) pa_nil)) (by rfl))
      (pss_cons (ps_for (passes_of rfl) rfl (pi_range1 (by rfl) mrg (pa_cons (pe_callB call_len_seq (by rfl) T.len PySem.boot_len (pa_cons (pv 1) pa_nil)) pa_nil)) (pg_name (i := 4) scMixed.nd rfl (Or.inl rfl))
        (pss_one (ps_expr (pe_bm PySem.F.plainAttrs_list PySem.F.slot_list_append PySem.F.type_list_append mt_append (pv 3) (pa_cons
          (pe_bm PySem.F.plainAttrs_list PySem.F.slot_list_pop PySem.F.type_list_pop mt_popAt (pv 2) (pa_cons (pe_callG (E := fun _ _ _ _ => False) hG GR hr (by rfl) mR FR.kp bR .nil (fun _ => passAt0) (pa_cons (pv 0) (pa_cons (pe_callB call_len_seq (by rfl) T.len PySem.boot_len (pa_cons (pv 2) pa_nil)) pa_nil))) pa_nil)) pa_nil)))))
      (pss_one (ps_ret (pv 3)))), ?_⟩
    refine ⟨_, rfl, b, xs, rfl, .inl hb, fun l nl => ⟨Nat.zero_le _, fun g ng => ⟨_, _, rfl, ?_⟩⟩⟩
    have nlg : g ≠ l := fun z => by
      rw [z, upd_same] at ng
      cases ng
    have zl := same_upd (o := .lst xs) nl
    have zg := same_upd (o := .lst []) ng
    have S := same_trans zl zg
    have atl : (upd (upd H l (.lst xs)) g (.lst [])) l = some (.lst xs) := zg _ _ upd_same
    have atg : (upd (upd H l (.lst xs)) g (.lst [])) g = some (.lst []) := upd_same
    have ng0 : H g = none := by
      rw [upd_ne nlg] at ng
      exact ng
    generalize upd (upd H l (.lst xs)) g (.lst []) = H2 at S atl atg ⊢
    clear zl zg ng
    have nlp : l ≠ p := fun z => by
      obtain ⟨_, _, _, e⟩ := hd
      rw [← z, nl] at e
      cases e
    have ngp : g ≠ p := fun z => by
      obtain ⟨_, _, _, e⟩ := hd
      rw [← z, ng0] at e
      cases e
    refine ⟨_, rfl, b, xs, rfl, .inl (S.seq hb), (xs.length : Int), rfl, by omega, by omega, ?_⟩
    refine for_range (lo := 0) (n := ((xs.length : Nat) : Int).toNat) (fun i σ Hc => ∃ (v4 : Option V) (left found : List V), σ = [some (.ref p), some (.ref b), some (.ref l), some (.ref g), v4] ∧ But p H Hc ∧ DiceAt Hc p ∧ Hc l = some (.lst left) ∧ Hc g = some (.lst found) ∧
      (found ++ left).Perm xs ∧ found.length = i) ⟨none, xs, [], rfl, But.same S, hd.same S, atl, atg, List.Perm.refl _, rfl⟩ ?_ ?_
    · rintro i σ Hc hi ⟨v4, left, found, rfl, bc, dc, al, ag, pm, len⟩
      have tot := pm.length_eq
      rw [List.length_append, len] at tot
      have lt0 : i < xs.length := by simpa using hi
      have pos : 0 < left.length := by omega
      refine ⟨_, rfl, .inl ⟨rfl, _, SqL.of ag⟩, _, rfl, .inl ⟨rfl, _, SqL.of al⟩, _, rfl, _, rfl, l, left, rfl, .inl (SqL.of al), p, _, rfl, dc, by omega, by omega, fun r H3 r0 r1 b3 d3 => ?_⟩
      have al3 := b3 _ _ nlp al
      have ag3 := b3 _ _ ngp ag
      have ltr : r.toNat < left.length := by omega
      have ex : seqIndex? r left.length = some r.toNat := by
        have z := ix_nat ltr
        rwa [Int.toNat_of_nonneg r0] at z
      refine ⟨l, left, r, r.toNat, left[r.toNat], rfl, rfl, al3, by omega, by omega, ex, List.getElem?_eq_getElem ltr, ?_⟩
      have ag4 : (upd H3 l (.lst (left.eraseIdx r.toNat))) g = some (.lst found) := by
        rw [upd_ne nlg]
        exact ag3
      refine ⟨g, found, left[r.toNat], rfl, rfl, ag4, Nat.lt_of_lt_of_le (show found.length < 1001 by omega) (by decide), ?_⟩
      refine ⟨_, left.eraseIdx r.toNat, found ++ [left[r.toNat]], rfl, fun c o nc e => ?_, ?_, ?_, upd_same, ?_, ?_⟩
      · have e3 := b3 _ _ nc (bc _ _ nc e)
        rw [upd_ne (ne_of_none e ng0), upd_ne (ne_of_none e nl)]
        exact e3
      · obtain ⟨a1, a2, a3, e⟩ := d3
        exact ⟨a1, a2, a3, by rw [upd_ne ngp.symm, upd_ne nlp.symm]; exact e⟩
      · rw [upd_ne nlg.symm, upd_same]
      · rw [List.append_assoc]
        refine List.Perm.trans (List.Perm.append_left found ?_) pm
        exact erase_perm left r.toNat _ (List.getElem?_eq_getElem ltr)
      · rw [List.length_append, len]
        rfl
    · rintro σ Hc ⟨v4, left, found, rfl, bc, dc, al, ag, pm, len⟩
      have tot := pm.length_eq
      rw [List.length_append, len] at tot
      have zero : left = [] := List.length_eq_zero_iff.mp (by omega)
      rw [zero, List.append_nil] at pm
      exact ⟨_, rfl, q found g Hc pm bc dc ng0 ag⟩
end
end Lx

set_option exponentiation.threshold 2000
/-! The law: integers, names and tuples of names judged. -/
namespace Lx
open PySem PySem.Spec PyProof.Rows L2 Fw
/-- asked of the dice: true -/
def spTrue : Sp := fun vs H Q _ => ∃ p : Addr, vs = [.ref p] ∧ DiceAt H p ∧ ∀ H', But p H H' → DiceAt H' p → Q (.bl true) H'
/-- how many figures a number has -/
theorem figures (m : Nat) (k : Nat) (hk : 0 < k) : (PySem.Str.ofString (toString ((m : Nat) : Int))).length ≤ k ↔ m < 10 ^ k := by
  have e := PySem.W.KIN.signs_num m
  have l : (PySem.Str.ofString (toString ((m : Nat) : Int))).length = (Nat.toDigits 10 m).length := by
    show (PySem.Str.ofString (toString ((m : Nat) : Int))).cps.size = _
    rw [← Array.length_toList, e, List.length_map]
  rw [l]
  exact Nat.length_toDigits_le_iff (by decide) hk
theorem ite_no {c : Bool} {A B : Prop} (h : c = false) (b : B) : if c = true then A else B := by
  rw [h]
  exact b
theorem three (a b c : Bool) : (PyData.list [.bool a, .bool b, .bool c]).showable = true ∧ (PyData.list [.bool a, .bool b, .bool c]).depth ≤ 40 ∧ (PyData.list [.bool a, .bool b, .bool c]).shown.length ≤ sizeLine := by
  cases a <;> cases b <;> cases c <;> decide +kernel
theorem count_if {n : Int} {A B : Prop} (a : countV (.int n) = decide (0 ≤ n) → A) (b : countV (.int n) = false → B) : if intV (.int n) = true then A else B := by
  by_cases c : intV (.int n) = true
  · rw [if_pos c]
    refine a ?_
    have z : (decide (-BB < n) && decide (n < BB)) = true := c
    show (decide (0 ≤ n) && decide (n < BB)) = _
    rw [(Bool.and_eq_true_iff.mp z).2, Bool.and_true]
  · rw [if_neg c]
    refine b ?_
    show (decide (0 ≤ n) && decide (n < BB)) = false
    have z : ¬ (decide (-BB < n) && decide (n < BB)) = true := c
    have b0 : (0 : Int) < BB := by decide
    by_cases l : 0 ≤ n
    · by_cases u : n < BB
      · exact absurd (by rw [decide_eq_true (by omega), decide_eq_true u]; rfl) z
      · rw [decide_eq_false u, Bool.and_false]
    · rw [decide_eq_false l, Bool.false_and]
theorem pe_weak {X : Cx} {e : Expr} {t t' : TE} (he : PE X e t) (h : ∀ σ H Q, t' σ H Q → t σ H Q) : PE X e t' := ⟨fun pins s σ H Q I q => he.run pins s σ H Q I (h σ H Q q)⟩
/-- short, and at least 0 -/
def tShort : TE := fun σ H Q => ∃ n : Int, σ[1]? = some (some (.int n)) ∧ σ[3]? = some (some (.bl (intV (.int n)))) ∧ Q (.bl (countV (.int n))) H
theorem short_and {σ : L2.St} {H : Hp} {Q : VK} (h : tShort σ H Q) : tAndV (tVar 3) (tOp (rI0 fun i j => .bl (decide (j ≤ i))) (tVar 1) (tC (.int 0))) σ H Q := by
  obtain ⟨n, e1, e3, q⟩ := h
  refine ⟨_, e3, _, rfl, count_if (n := n) (fun c => ⟨_, e1, n, 0, rfl, rfl, ?_⟩) (fun c => ?_)⟩
  · rw [c] at q
    exact q
  · rw [c] at q
    exact q
theorem one_ok (b : Bool) : (PyData.bool b).showable = true := rfl
theorem one_dp (b : Bool) : (PyData.bool b).depth ≤ 40 := Nat.zero_le 40
theorem one_len (b : Bool) : (PyData.bool b).shown.length ≤ sizeLine := by cases b <;> decide +kernel
/-- the words that are no names -/
def oddT (ys : List Str) (i : Nat) : List Str := (ys.take i).filter fun y => !nameS y
theorem oddT_len (ys : List Str) (i : Nat) : (oddT ys i).length ≤ ys.length := Nat.le_trans (List.length_filter_le _ _) (by rw [List.length_take]; exact Nat.min_le_right _ _)
theorem oddT_yes {ys : List Str} {i : Nat} {y : Str} (h : ys[i]? = some y) (l : nameS y = true) : oddT ys (i + 1) = oddT ys i := by
  unfold oddT
  rw [List.take_add_one, h, List.filter_append]
  simp [l]
theorem oddT_no {ys : List Str} {i : Nat} {y : Str} (h : ys[i]? = some y) (l : nameS y = false) : oddT ys (i + 1) = oddT ys i ++ [y] := by
  unfold oddT
  rw [List.take_add_one, h, List.filter_append]
  simp [l]
theorem oddT_ok {ys : List Str} (g : ∀ y ∈ ys, y.length ≤ 10 ∧ plainS y = true) (i : Nat) : ∀ y ∈ oddT ys i, PyData.strOk y = true := fun y m => by
  have p := (g y (List.mem_of_mem_take (List.mem_filter.mp m).1)).2
  show y.cps.all (fun c => decide (c < 0x110000)) = true
  rw [← Array.all_toList]
  refine List.all_eq_true.mpr fun c mc => decide_eq_true ?_
  have := of_decide_eq_true (List.all_eq_true.mp p c mc)
  omega
theorem oddT_end (ys : List Str) : (oddT ys ys.length).isEmpty = (ys.map V.str).all nameV := by
  unfold oddT
  rw [List.take_length, List.all_map, Bool.eq_iff_iff, List.isEmpty_iff, List.filter_eq_nil_iff, List.all_eq_true]
  constructor
  · intro z y m
    have h : nameS y = true := by simpa using z y m
    exact h
  · intro z y m
    have h : nameS y = true := z y m
    simp [h]
theorem off_dice {H : Hp} {p a : Addr} (d : DiceAt H p) (n : H a = none) : a ≠ p := fun z => by
  obtain ⟨_, _, _, e⟩ := d
  rw [← z, n] at e
  cases e
/-- a value that is nothing asked for -/
inductive Odd (p : Addr) (H : Hp) : V → Prop
  | non : Odd p H .non
  | bl (b : Bool) : Odd p H (.bl b)
  | str (x : Str) (n : nameS x = false) (l : x.length ≤ 1000) : Odd p H (.str x)
  | lst {a : Addr} {xs : List V} (ne : a ≠ p) (e : H a = some (.lst xs)) : Odd p H (.ref a)
  | dK {a : Addr} {kvs : List (L2.Key × V)} (ne : a ≠ p) (e : H a = some (.dK kvs)) : Odd p H (.ref a)
  | tup {a : Addr} {xs : List V} (ne : a ≠ p) (e : H a = some (.tup xs)) (ok : ∀ H', ∀ v ∈ xs, Vok H' v) (nn : xs.all nameV = false) (nf : fracV xs = false) (few : xs.length ≤ 1000) : Odd p H (.ref a)
theorem Odd.but {p : Addr} {H H' : Hp} {v : V} (o : Odd p H v) (b : But p H H') : Odd p H' v := by
  cases o with
  | non => exact .non
  | bl b => exact .bl b
  | str x n l => exact .str x n l
  | lst ne e => exact .lst ne (b _ _ ne e)
  | dK ne e => exact .dK ne (b _ _ ne e)
  | tup ne e ok nn nf few => exact .tup ne (b _ _ ne e) ok nn nf few
theorem Odd.vok {p : Addr} {H : Hp} {v : V} (o : Odd p H v) : Vok H v := by
  cases o with
  | non => exact ⟨⟨_, .non⟩, fun _ z => by cases z⟩
  | bl b => exact ⟨⟨_, .bl b⟩, fun _ z => by cases z⟩
  | str x n l => exact ⟨⟨_, .str x⟩, fun y z => by injection z with z; rw [← z]; exact l⟩
  | lst ne e => exact ⟨⟨_, .lst e⟩, fun _ z => by cases z⟩
  | dK ne e => exact ⟨⟨_, .dK e⟩, fun _ z => by cases z⟩
  | tup ne e ok nn nf few => exact ⟨⟨_, .tup e⟩, fun _ z => by cases z⟩
theorem Odd.int {p : Addr} {H : Hp} {v : V} (o : Odd p H v) : intV v = false ∧ countV v = false ∧ nameV v = false := by
  cases o with
  | str x n l => exact ⟨rfl, rfl, n⟩
  | _ => exact ⟨rfl, rfl, rfl⟩
theorem Odd.names {p : Addr} {H : Hp} {v : V} (o : Odd p H v) : NamesOf H v false := by
  cases o with
  | non => exact .no .non (by decide)
  | bl b => exact .no (.bl b) (by decide)
  | str x n l => exact .no (.str x) (by decide)
  | lst ne e => exact .no (.lst e) (by decide)
  | dK ne e => exact .no (.dK e) (by decide)
  | tup ne e ok nn nf few =>
    have z := NamesOf.tup e (ok H) few
    rwa [nn] at z
theorem Odd.frac {p : Addr} {H : Hp} {v : V} (o : Odd p H v) : FracOf H v false := by
  cases o with
  | non => exact .no .non (by decide)
  | bl b => exact .no (.bl b) (by decide)
  | str x n l => exact .no (.str x) (by decide)
  | lst ne e => exact .no (.lst e) (by decide)
  | dK ne e => exact .no (.dK e) (by decide)
  | tup ne e ok nn nf few =>
    have z := FracOf.tup e (ok H) few
    rwa [nf] at z
def odds (o1 o2 o3 o4 o5 o6 o7 o8 o9 : Addr) : List V := [.non, .bl true, .bl false, .ref o1, .ref o2, .ref o3, .ref o4, .ref o5, .ref o6, .ref o7, .str ("" : Str), .str ("a b" : Str), .ref o8, .ref o9]
theorem okS {H : Hp} {x : Str} (l : x.length ≤ 1000) : Vok H (.str x) := ⟨⟨_, .str x⟩, fun y z => by injection z with z; rw [← z]; exact l⟩
theorem okI {H : Hp} (i : Int) : Vok H (.int i) := ⟨⟨_, .int i⟩, fun _ z => by cases z⟩
theorem okB {H : Hp} (b : Bool) : Vok H (.bl b) := ⟨⟨_, .bl b⟩, fun _ z => by cases z⟩
theorem okN {H : Hp} : Vok H .non := ⟨⟨_, .non⟩, fun _ z => by cases z⟩
theorem all1 {H : Hp} {x : V} (a : Vok H x) : ∀ v ∈ [x], Vok H v := fun v m => by rw [List.mem_singleton.mp m]; exact a
theorem all2 {H : Hp} {x y : V} (a : Vok H x) (b : Vok H y) : ∀ v ∈ [x, y], Vok H v := fun v m => (List.mem_cons.mp m).elim (fun z => by rw [z]; exact a) fun m => by rw [List.mem_singleton.mp m]; exact b
theorem odds_ok {p : Addr} {H : Hp} {o1 o2 o3 o4 o5 o6 o7 o8 o9 : Addr} (e1 : o1 ≠ p) (f1 : H o1 = some (.lst [.int 0])) (e2 : o2 ≠ p) (f2 : H o2 = some (.lst [])) (e3 : o3 ≠ p) (f3 : H o3 = some (.dK []))
    (e4 : o4 ≠ p) (f4 : H o4 = some (.tup [.non])) (e5 : o5 ≠ p) (f5 : H o5 = some (.tup [.str ("" : Str)])) (e6 : o6 ≠ p) (f6 : H o6 = some (.tup [.str ("a" : Str), .int 1])) (e7 : o7 ≠ p) (f7 : H o7 = some (.lst [.str ("a" : Str)]))
    (e8 : o8 ≠ p) (f8 : H o8 = some (.tup [.int 0, .str ("1" : Str)])) (e9 : o9 ≠ p) (f9 : H o9 = some (.tup [.bl false])) : ∀ v ∈ odds o1 o2 o3 o4 o5 o6 o7 o8 o9, Odd p H v := by
  intro v m
  have m : v ∈ [V.non, .bl true, .bl false, .ref o1, .ref o2, .ref o3, .ref o4, .ref o5, .ref o6, .ref o7, .str ("" : Str), .str ("a b" : Str), .ref o8, .ref o9] := m
  simp only [List.mem_cons, List.not_mem_nil, or_false] at m
  rcases m with rfl | rfl | rfl | rfl | rfl | rfl | rfl | rfl | rfl | rfl | rfl | rfl | rfl | rfl
  · exact .non
  · exact .bl _
  · exact .bl _
  · exact .lst e1 f1
  · exact .lst e2 f2
  · exact .dK e3 f3
  · exact .tup e4 f4 (fun _ => all1 okN) rfl rfl (by decide)
  · exact .tup e5 f5 (fun _ => all1 (okS (by decide))) (by decide +kernel) rfl (by decide)
  · exact .tup e6 f6 (fun _ => all2 (okS (by decide)) (okI 1)) (by decide +kernel) rfl (by decide)
  · exact .lst e7 f7
  · exact .str _ (by decide +kernel) (by decide)
  · exact .str _ (by decide +kernel) (by decide)
  · exact .tup e8 f8 (fun _ => all2 (okI 0) (okS (by decide))) (by decide +kernel) rfl (by decide)
  · exact .tup e9 f9 (fun _ => all1 (okB false)) rfl rfl (by decide)
abbrev nJ : List Str := ["_law_dice_here", "_law_number_here", "_law_word_here", "_law_is_short", "_law_told", "_law_words", "_law_some", "_law_odd", "_law_turn", "_law_one"]
section
variable {P : Program} {w : World} {K : PySem.W.Frag} {mg : Str → Option Value} {base : Heap}
structure TxJ (K : PySem.W.Frag) (mg : Str → Option Value) (fR fP fI fC fN fW fA fF fU fD fL : Addr) (dR dP dI dC dN dW dA dF dU dD dL : FuncData) : Prop where
  W : TxW K mg
  P : TxP K mg fR fP dR dP
  rng : mg "range" = none
  rpr : mg "repr" = none
  abs : mg "abs" = none
  gcd : mg "gcd" = some (.builtin "math.gcd")
  mI : mg "is_integer" = some (.ref fI)
  FI : Fun K "is_integer" "is_integer" sInteger fI dI
  bI : Binds K dI ["value"] []
  mC : mg "is_count" = some (.ref fC)
  FC : Fun K "is_count" "is_count" sCount fC dC
  bC : Binds K dC ["value"] []
  mN : mg "is_name" = some (.ref fN)
  FN : Fun K "is_name" "is_name" sName fN dN
  bN : Binds K dN ["value"] []
  mW : mg "_is_whole" = some (.ref fW)
  FW : Fun K "_is_whole" "_is_whole" sWhole fW dW
  bW : Binds K dW ["value"] []
  mA : mg "are_names" = some (.ref fA)
  FA : Fun K "are_names" "are_names" sNames fA dA
  bA : Binds K dA ["value"] []
  mF : mg "is_fraction" = some (.ref fF)
  FF : Fun K "is_fraction" "is_fraction" sIsFraction fF dF
  bF : Binds K dF ["value"] []
  mU : mg "_law_number" = some (.ref fU)
  FU : Fun K "_law_number" "_law_number" sNumber fU dU
  bU : Binds K dU ["_law_dice_here"] []
  mD : mg "_law_word" = some (.ref fD)
  FD : Fun K "_law_word" "_law_word" sWord fD dD
  bD : Binds K dD ["_law_dice_here"] []
  mL : mg "_law_lettered" = some (.ref fL)
  FL : Fun K "_law_lettered" "_law_lettered" sLettered fL dL
  bL : Binds K dL ["_law_value"] []
theorem scJudged : FnScope ["_law_dice_here", "_law_number_here", "_law_word_here", "_law_is_short", "_law_told", "_law_words", "_law_some", "_law_odd", "_law_turn", "_law_one"] ["_law_dice_here"] (defScope sJudged) := ⟨rfl, rfl, rfl, by decide +kernel, rfl, by decide +kernel, by decide +kernel⟩
theorem ok_judged {f fR fP fI fC fN fW fA fF fU fD fL : Addr} {fd dR dP dI dC dN dW dA dF dU dD dL : FuncData} (F : Fun K "_law_judged_right" "_law_judged_right" sJudged f fd) (T : TxJ K mg fR fP fI fC fN fW fA fF fU fD fL dR dP dI dC dN dW dA dF dU dD dL) :
    FnG P w K mg base CX0 4 f fd ["_law_dice_here"] spTrue := by
  have GR : FnG P w K mg base CX0 1 fR dR ["_law_dice_here", "_law_total"] spRoll := ok_roll T.P.FR T.P.D
  have GP : FnG P w K mg base CX0 2 fP dP ["_law_dice_here", "_law_items"] (spPick K) := ok_pick T.P.FP T.P.D T.P.mR T.P.FR T.P.bR
  have GI : FnG P w K mg base CX0 2 fI dI ["value"] (spJ intV) := ok_integer T.FI T.W T.mW T.FW T.bW
  have GC : FnG P w K mg base CX0 3 fC dC ["value"] (spJ countV) := ok_count T.FC T.W T.mI T.FI T.bI T.mW T.FW T.bW
  have GN : FnG P w K mg base CX0 1 fN dN ["value"] (spJ nameV) := ok_name T.FN T.W
  have GA : FnG P w K mg base CX0 2 fA dA ["value"] spNames := ok_names T.FA T.W T.mN T.FN T.bN
  have GF : FnG P w K mg base CX0 2 fF dF ["value"] spFrac := ok_isFraction T.FF T.W T.gcd T.mW T.FW T.bW
  have GU : FnG P w K mg base CX0 3 fU dU ["_law_dice_here"] spNumber := ok_number T.FU T.P
  have GD : FnG P w K mg base CX0 2 fD dD ["_law_dice_here"] spWord := ok_word T.FD T.P.D T.rng T.P.mR T.P.FR T.P.bR
  have GL : FnG P w K mg base CX0 1 fL dL ["_law_value"] spLettered := ok_lettered T.FL T.W
  refine fnG F scJudged (fun vs H Q E h => ?_) (fun cdv A fr s H vs Q E hG hr h => ?_)
  · obtain ⟨p, rfl, _⟩ := h
    rfl
  · obtain ⟨p, rfl, hd, q⟩ := h
    have hr1 := hr.mono (show 1 ≤ 3 by decide)
    have hr2 := hr.mono (show 2 ≤ 3 by decide)
    refine ⟨_, pss_cons (ps_par (i := 1) (j := 2) (by rfl) scJudged.nd rfl rfl (by decide) rfl rfl (pa_cons (pe_callG (E := fun _ _ _ _ => False) hG GU hr (by rfl) T.mU T.FU.kp T.bU .nil (fun _ => passAt0) (pa_cons (pv 0) pa_nil))
        (pa_cons (pe_callG (E := fun _ _ _ _ => False) hG GD hr2 (by rfl) T.mD T.FD.kp T.bD .nil (fun _ => passAt0) (pa_cons (pv 0) pa_nil)) pa_nil)) (by rfl))
      (pss_cons (ps_set (i := 3) scJudged.nd rfl (Or.inl rfl) (pe_cmpR op_le (pe_callB call_len_str (by rfl) T.W.len PySem.boot_len (pa_cons (pe_callTy call_str_int (by rfl) T.W.str (by decide +kernel) (pa_cons (pe_callB call_abs (by rfl) T.abs (by decide +kernel) (pa_cons (pv 1) pa_nil)) pa_nil)) pa_nil)) pe_int (nomark _)))
      (pss_cons (ps_set (i := 4) scJudged.nd rfl (Or.inl rfl) (pe_lstN (pa_cons (pe_callG (E := fun _ _ _ _ => False) hG GI hr2 (by rfl) T.mI T.FI.kp T.bI .nil (fun _ => passAt0) (pa_cons (pv 1) pa_nil))
          (pa_cons (pe_callG (E := fun _ _ _ _ => False) hG GC hr (by rfl) T.mC T.FC.kp T.bC .nil (fun _ => passAt0) (pa_cons (pv 1) pa_nil)) (pa_cons (pe_callG (E := fun _ _ _ _ => False) hG GN hr1 (by rfl) T.mN T.FN.kp T.bN .nil (fun _ => passAt0) (pa_cons (pv 2) pa_nil)) pa_nil)))))
      (pss_cons (ps_if (pt_cmpR op_ne (pe_callB (call_repr (K := K) rfl hG hr.units) (by rfl) T.rpr (by decide +kernel) (pa_cons (pv 4) pa_nil))
          (pe_callB (call_repr (K := K) rfl hG hr.units) (by rfl) T.rpr (by decide +kernel) (pa_cons (pe_lstN (pa_cons (pv 3) (pa_cons (pe_weak (t' := tShort) (pe_and (pv 3) (pe_one (pe_cmpR op_ge (pv 1) pe_int (nomark _)))) (fun σ H Q h => short_and h))
            (pa_cons (pe_callG (E := fun _ _ _ _ => False) hG GL hr1 (by rfl) T.mL T.FL.kp T.bL .nil (fun _ => passAt0) (pa_cons (pv 2) pa_nil)) pa_nil)))) pa_nil)) (nomark _)) (pss_one (ps_ret pe_bl)) pss_nil)
      (pss_cons (ps_set (i := 5) scJudged.nd rfl (Or.inl rfl) (pe_tupleOf (by rfl) T.W.tuple
          (pe_lc (own := [("_law_turn", 8)]) (g := gName 8) (by rfl) scJudged.nd (pi_range1 (by rfl) T.rng (pa_cons (pe_callG (E := fun _ _ _ _ => False) hG GR hr1 (by rfl) T.P.mR T.P.FR.kp T.P.bR .nil (fun _ => passAt0) (pa_cons (pv 0) (pa_cons pe_int pa_nil))) pa_nil))
            (blkOk_by (N := nJ) (sc := defScope sJudged) (own := [("_law_turn", 8)]) (by decide +kernel)) (fun _ _ _ _ _ => pg_name (i := 8) scJudged.nd rfl (Or.inl rfl)) (fun _ _ _ _ _ => pts_nil)
            (fun _ _ _ _ _ => pe_callG (E := fun _ _ _ _ => False) hG GD hr2 (by rfl) T.mD T.FD.kp T.bD .nil (fun _ => passAt0) (pa_cons (pv 0) pa_nil)))))
      (pss_cons (ps_if (pt_cmpR op_ne (pe_callB (call_repr (K := K) rfl hG hr.units) (by rfl) T.rpr (by decide +kernel) (pa_cons (pe_callG (E := fun _ _ _ _ => False) hG GA hr2 (by rfl) T.mA T.FA.kp T.bA .nil (fun _ => passAt0) (pa_cons (pv 5) pa_nil)) pa_nil))
          (pe_callB (call_repr (K := K) rfl hG hr.units) (by rfl) T.rpr (by decide +kernel) (pa_cons (pe_cmpR (op_eqD hr.units)
            (pe_lc (own := [("_law_one", 9)]) (g := gName 9) (by rfl) scJudged.nd (pi_tup (pv 5))
              (blkOk_by (N := nJ) (sc := defScope sJudged) (own := [("_law_one", 9)]) (by decide +kernel)) (fun _ _ _ _ _ => pg_name (i := 9) scJudged.nd rfl (Or.inl rfl))
              (fun _ _ _ _ _ => pts_one (pt_not (pt_val (pe_callG (E := fun _ _ _ _ => False) hG GL hr1 (by rfl) T.mL T.FL.kp T.bL .nil (fun _ => passAt0) (pa_cons (pv 9) pa_nil))))) (fun _ _ _ _ _ => pv 9)) (pe_lst pa_nil) (nomark _)) pa_nil)) (nomark _)) (pss_one (ps_ret pe_bl)) pss_nil)
      (pss_cons (ps_set (i := 6) scJudged.nd rfl (Or.inl rfl) (pe_lst (pa_cons pe_non (pa_cons pe_bl (pa_cons pe_bl (pa_cons (pe_lst (pa_cons pe_int pa_nil)) (pa_cons (pe_lst pa_nil) (pa_cons pe_dnewK (pa_cons (pe_tup (pa_cons pe_non pa_nil)) (pa_cons (pe_tup (pa_cons pe_str pa_nil))
          (pa_cons (pe_tup (pa_cons pe_str (pa_cons pe_int pa_nil))) (pa_cons (pe_lst (pa_cons pe_str pa_nil)) (pa_cons pe_str (pa_cons pe_str (pa_cons (pe_tup (pa_cons pe_int (pa_cons pe_str pa_nil))) (pa_cons (pe_tup (pa_cons pe_bl pa_nil)) pa_nil))))))))))))))))
      (pss_cons (ps_set (i := 7) scJudged.nd rfl (Or.inl rfl) (pe_callG (E := fun _ _ _ _ => False) hG GP hr2 (by rfl) T.P.mP T.P.FP.kp T.P.bP .nil (fun _ => passAt0) (pa_cons (pv 0) (pa_cons (pv 6) pa_nil))))
      (pss_cons (ps_set (i := 4) scJudged.nd rfl (Or.inl rfl) (pe_lst (pa_cons (pe_callG (E := fun _ _ _ _ => False) hG GI hr2 (by rfl) T.mI T.FI.kp T.bI .nil (fun _ => passAt0) (pa_cons (pv 7) pa_nil))
          (pa_cons (pe_callG (E := fun _ _ _ _ => False) hG GC hr (by rfl) T.mC T.FC.kp T.bC .nil (fun _ => passAt0) (pa_cons (pv 7) pa_nil)) (pa_cons (pe_callG (E := fun _ _ _ _ => False) hG GN hr1 (by rfl) T.mN T.FN.kp T.bN .nil (fun _ => passAt0) (pa_cons (pv 7) pa_nil))
          (pa_cons (pe_callG (E := fun _ _ _ _ => False) hG GA hr2 (by rfl) T.mA T.FA.kp T.bA .nil (fun _ => passAt0) (pa_cons (pv 7) pa_nil)) (pa_cons (pe_callG (E := fun _ _ _ _ => False) hG GF hr2 (by rfl) T.mF T.FF.kp T.bF .nil (fun _ => passAt0) (pa_cons (pv 7) pa_nil)) pa_nil)))))))
      (pss_one (ps_ret (pe_cmpR (op_eqD hr.units) (pv 4) (pe_op op_rep (pe_lst (pa_cons pe_bl pa_nil)) pe_int) (nomark _)))))))))))), ?_⟩
    refine ⟨_, rfl, p, rfl, hd, fun n H1 hn b1 d1 => ⟨_, rfl, p, rfl, d1, fun x H2 hx px b2 d2 => ⟨_, _, rfl, ?_⟩⟩⟩
    have eabs : (if n < 0 then -n else n) = ((n.natAbs : Nat) : Int) := by split <;> omega
    refine ⟨_, rfl, n, rfl, ?_⟩
    rw [eabs]
    have few : n.natAbs < 2 ^ 270 := by
      have : TOP.natAbs + 5 < 2 ^ 270 := by decide
      omega
    refine ⟨_, rfl, ?_, _, rfl, ?_, _, _, rfl, rfl, ?_⟩
    · rw [Int.natAbs_natCast]
      exact Nat.lt_of_lt_of_le (PySem.Flt.log2_lt_of (k := 270) (by decide) few) (by decide)
    · exact Nat.le_trans ((figures n.natAbs 270 (by decide)).mpr (Nat.lt_of_lt_of_le few (by decide))) (by decide)
    have short : decide (((PySem.Str.ofString (toString ((n.natAbs : Nat) : Int))).length : Int) ≤ 60) = intV (.int n) := by
      show _ = (decide (-BB < n) && decide (n < BB))
      rw [Bool.eq_iff_iff, Bool.and_eq_true, decide_eq_true_eq, decide_eq_true_eq, decide_eq_true_eq]
      have f := figures n.natAbs 60 (by decide)
      have b : (10 ^ 60 : Nat) = BB.natAbs := by decide
      rw [b] at f
      have b0 : 0 < BB := by decide
      constructor
      · intro z
        have := f.mp (by omega)
        omega
      · intro z
        have := f.mpr (by omega)
        omega
    dsimp only
    rw [short]
    have vn : ∀ Hc, Vok Hc (.int n) := fun Hc => ⟨⟨_, .int n⟩, fun _ z => by cases z⟩
    have vx : ∀ Hc, Vok Hc (.str x) := fun Hc => ⟨⟨_, .str x⟩, fun y z => by injection z with z; rw [← z]; omega⟩
    refine ⟨_, rfl, .int n, rfl, vn _, _, rfl, .int n, rfl, vn _, _, rfl, .str x, rfl, vx _, (by show 3 ≤ sizeLine; decide), fun l1 n1 s1 => ?_⟩
    have z := same_upd (o := .lst [.bl (intV (.int n)), .bl (countV (.int n)), .bl (nameV (.str x))]) n1
    have at1 : (upd H2 l1 (.lst [.bl (intV (.int n)), .bl (countV (.int n)), .bl (nameV (.str x))])) l1 = some (.lst [.bl (intV (.int n)), .bl (countV (.int n)), .bl (nameV (.str x))]) := upd_same
    have d3 := d2.same z
    have b3 : But p H _ := (b1.trans b2).trans (But.same z)
    generalize upd H2 l1 (.lst [.bl (intV (.int n)), .bl (countV (.int n)), .bl (nameV (.str x))]) = H3 at at1 d3 b3 ⊢
    clear z n1 d2 b1 b2 d1
    have r1 : Rp K H3 (.ref l1) (.list [.bool (intV (.int n)), .bool (countV (.int n)), .bool (nameV (.str x))]) := Rp.lst s1 (SqL.of at1) (.cons (.bl _) (.cons (.bl _) (.cons (.bl _) .nil)))
    obtain ⟨w1, w2, w3⟩ := three (intV (.int n)) (countV (.int n)) (nameV (.str x))
    refine ⟨_, rfl, _, _, rfl, r1, w1, w2, w3, _, rfl, n, rfl, rfl, ?_⟩
    case _ =>
      refine ⟨_, rfl, x, rfl, by omega, px, fun H4 s4 => ⟨(by show 3 ≤ sizeLine; decide), fun l2 n2 s2 => ?_⟩⟩
      refine ⟨.ref l2, .list [.bool (intV (.int n)), .bool (countV (.int n)), .bool (nameV (.str x))], rfl, Rp.lst s2 (SqL.of upd_same) (.cons (.bl _) (.cons (.bl _) (.cons (.bl _) .nil))), w1, w2, w3, rfl, _, rfl, ?_⟩
      refine ite_no (by simp) ?_
      have z := same_upd (o := .lst [.bl (intV (.int n)), .bl (countV (.int n)), .bl (nameS x)]) n2
      have b4 := (b3.trans (But.same s4)).trans (But.same z)
      have d4 := (d3.same s4).same z
      generalize upd H4 l2 (.lst [.bl (intV (.int n)), .bl (countV (.int n)), .bl (nameS x)]) = H5 at b4 d4 ⊢
      clear z n2 s2 s4 d3 b3 at1 r1
      refine ⟨_, rfl, p, 4, rfl, d4, by decide, by decide, fun m H6 m0 m1 b6 d6 => ⟨m, rfl, by omega, by omega, fun D nD => ?_⟩⟩
      have nDp : D ≠ p := fun z => by
        obtain ⟨_, _, _, e⟩ := d6
        rw [← z, nD] at e
        cases e
      refine lc_range (lo := 0) (n := m.toNat) (fun i Hc => But p H6 Hc ∧ DiceAt Hc p ∧ ∃ ys : List Str, ys.length = i ∧ (∀ y ∈ ys, y.length ≤ 10 ∧ plainS y = true) ∧ Hc D = some (.lst (ys.map V.str))) ⟨But.same (same_upd nD), d6.same (same_upd nD), [], rfl, (fun _ m => by cases m), upd_same⟩ ?_ ?_
      · rintro i Hc lt ⟨bc, dc, ys, len, good, hD⟩
        refine ⟨rfl, _, rfl, p, rfl, dc, fun y Hr hy py br dr => ⟨_, br D _ nDp hD, ?_, fun b o nb e => ?_, ?_, ys ++ [y], ?_, ?_, ?_⟩⟩
        · rw [List.length_map, len, sizeLine_eq]
          omega
        · have e2 := br b o nb (bc b o nb e)
          rw [upd_ne (ne_of_none e nD)]
          exact e2
        · obtain ⟨a1, a2, a3, e⟩ := dr
          exact ⟨a1, a2, a3, by rw [upd_ne nDp.symm]; exact e⟩
        · rw [List.length_append, len]
          rfl
        · exact fun z mz => (List.mem_append.mp mz).elim (good z) fun q => by rw [List.mem_singleton.mp q]; exact ⟨hy, py⟩
        · rw [upd_same]
          simp
      · rintro Hc ⟨bc, dc, ys, len, good, hD⟩
        refine .inl ⟨D, ys.map V.str, rfl, SqL.of hD, fun t nt => ?_⟩
        have z := same_upd (o := .tup (ys.map V.str)) nt
        have att : (upd Hc t (.tup (ys.map V.str))) t = some (.tup (ys.map V.str)) := upd_same
        have d7 := dc.same z
        have b7 : But p H _ := (b4.trans (b6.trans bc)).trans (But.same z)
        generalize upd Hc t (.tup (ys.map V.str)) = H7 at att d7 b7 ⊢
        clear z nt hD bc dc b4 b6 d4 d6 nD nDp
        have fewY : ys.length ≤ 4 := by omega
        have okY : ∀ v ∈ ys.map V.str, Vok H7 v := fun v mv => by
          obtain ⟨y, my, rfl⟩ := List.mem_map.mp mv
          exact ⟨⟨_, .str y⟩, fun u e => by injection e with e; rw [← e]; exact Nat.le_trans (good y my).1 (by decide)⟩
        refine ⟨_, rfl, .ref t, _, rfl, .tup att okY (by rw [List.length_map]; omega), fun H8 s8 => ?_⟩
        refine ⟨_, .bool ((ys.map V.str).all nameV), rfl, .bl _, one_ok _, one_dp _, one_len _, ?_⟩
        have at8 := s8 _ _ att
        refine ⟨_, rfl, t, rfl, ⟨_, SqT.of at8⟩, fun D nD => ?_⟩
        refine lc_tup (K := K) (a := t) (xs := ys.map V.str) (fun i Hc => Same H8 Hc ∧ Hc D = some (.lst ((oddT ys i).map V.str))) ⟨same_upd nD, upd_same⟩ (fun i Hc _ z => SqT.of (z.1 _ _ at8)) ?_ ?_
        · rintro i v Hc hv ⟨sm, hD⟩
          obtain ⟨y, ey, rfl⟩ : ∃ y, ys[i]? = some y ∧ v = .str y := by
            rw [List.getElem?_map] at hv
            cases z : ys[i]? with
            | none => rw [z] at hv; cases hv
            | some y => rw [z] at hv; exact ⟨y, rfl, (Option.some.inj hv).symm⟩
          obtain ⟨gy1, gy2⟩ := good y (List.mem_of_getElem? ey)
          refine ⟨rfl, _, rfl, y, rfl, by omega, gy2, fun Hd sd => ⟨_, rfl, ?_⟩⟩
          cases l : nameS y with
          | true =>
            refine ⟨same_trans sm sd, ?_⟩
            rw [sd _ _ hD, oddT_yes ey l]
          | false =>
            refine ⟨_, rfl, _, sd _ _ hD, ?_, fun b o e => ?_, ?_⟩
            · rw [List.length_map]
              exact Nat.lt_of_le_of_lt (oddT_len ys i) (Nat.lt_of_le_of_lt fewY (by decide))
            · have ne : b ≠ D := ne_of_none e nD
              rw [upd_ne ne]
              exact sd _ _ (sm _ _ e)
            · rw [upd_same, oddT_no ey l]
              simp
        · rintro Hc ⟨sm, hD⟩
          rw [List.length_map] at hD
          refine ⟨Nat.zero_le _, fun u nu => ⟨_, _, .lst (SqL.of ((same_upd nu) _ _ hD)) (dpT _), .lst (SqL.of upd_same) .nil, shapedT (oddT_ok good _), by decide +kernel, ?_⟩⟩
          rw [eqv_nilT, oddT_end]
          refine ⟨_, .bool ((ys.map V.str).all nameV), rfl, .bl _, one_ok _, one_dp _, one_len _, rfl, _, rfl, ?_⟩
          refine ite_no (by simp) ?_
          have b9 := (b7.trans (But.same s8)).trans (But.same (same_trans sm (same_upd (o := .lst []) nu)))
          have d9 := (d7.same s8).same (same_trans sm (same_upd (o := .lst []) nu))
          generalize upd Hc u (.lst []) = H9 at b9 d9 ⊢
          clear nu hD sm at8 nD s8 okY att d7 b7
          refine ⟨(by show _ ≤ sizeLine; decide), fun o1 n1 => ?_⟩
          have e1 := off_dice d9 n1
          have z := same_upd (o := .lst [.int 0]) n1
          have f1 : upd H9 o1 (.lst [.int 0]) o1 = some (.lst [.int 0]) := upd_same
          replace b9 := b9.trans (But.same z)
          replace d9 := d9.same z
          generalize upd H9 o1 (.lst [.int 0]) = G1 at b9 d9 f1 ⊢
          clear z n1
          refine ⟨Nat.zero_le _, fun o2 n2 => ?_⟩
          have e2 := off_dice d9 n2
          have z := same_upd (o := .lst []) n2
          have f2 : upd G1 o2 (.lst []) o2 = some (.lst []) := upd_same
          replace f1 := z _ _ f1
          replace b9 := b9.trans (But.same z)
          replace d9 := d9.same z
          generalize upd G1 o2 (.lst []) = G2 at b9 d9 f1 f2 ⊢
          clear z n2
          refine fun o3 n3 => ?_
          have e3 := off_dice d9 n3
          have z := same_upd (o := .dK []) n3
          have f3 : upd G2 o3 (.dK []) o3 = some (.dK []) := upd_same
          replace f1 := z _ _ f1
          replace f2 := z _ _ f2
          replace b9 := b9.trans (But.same z)
          replace d9 := d9.same z
          generalize upd G2 o3 (.dK []) = G3 at b9 d9 f1 f2 f3 ⊢
          clear z n3
          refine ⟨(by show _ ≤ sizeLine; decide), fun o4 n4 => ?_⟩
          have e4 := off_dice d9 n4
          have z := same_upd (o := .tup [.non]) n4
          have f4 : upd G3 o4 (.tup [.non]) o4 = some (.tup [.non]) := upd_same
          replace f1 := z _ _ f1
          replace f2 := z _ _ f2
          replace f3 := z _ _ f3
          replace b9 := b9.trans (But.same z)
          replace d9 := d9.same z
          generalize upd G3 o4 (.tup [.non]) = G4 at b9 d9 f1 f2 f3 f4 ⊢
          clear z n4
          refine ⟨(by show _ ≤ sizeLine; decide), fun o5 n5 => ?_⟩
          have e5 := off_dice d9 n5
          have z := same_upd (o := .tup [.str ("" : Str)]) n5
          have f5 : upd G4 o5 (.tup [.str ("" : Str)]) o5 = some (.tup [.str ("" : Str)]) := upd_same
          replace f1 := z _ _ f1
          replace f2 := z _ _ f2
          replace f3 := z _ _ f3
          replace f4 := z _ _ f4
          replace b9 := b9.trans (But.same z)
          replace d9 := d9.same z
          generalize upd G4 o5 (.tup [.str ("" : Str)]) = G5 at b9 d9 f1 f2 f3 f4 f5 ⊢
          clear z n5
          refine ⟨(by show _ ≤ sizeLine; decide), fun o6 n6 => ?_⟩
          have e6 := off_dice d9 n6
          have z := same_upd (o := .tup [.str ("a" : Str), .int 1]) n6
          have f6 : upd G5 o6 (.tup [.str ("a" : Str), .int 1]) o6 = some (.tup [.str ("a" : Str), .int 1]) := upd_same
          replace f1 := z _ _ f1
          replace f2 := z _ _ f2
          replace f3 := z _ _ f3
          replace f4 := z _ _ f4
          replace f5 := z _ _ f5
          replace b9 := b9.trans (But.same z)
          replace d9 := d9.same z
          generalize upd G5 o6 (.tup [.str ("a" : Str), .int 1]) = G6 at b9 d9 f1 f2 f3 f4 f5 f6 ⊢
          clear z n6
          refine ⟨(by show _ ≤ sizeLine; decide), fun o7 n7 => ?_⟩
          have e7 := off_dice d9 n7
          have z := same_upd (o := .lst [.str ("a" : Str)]) n7
          have f7 : upd G6 o7 (.lst [.str ("a" : Str)]) o7 = some (.lst [.str ("a" : Str)]) := upd_same
          replace f1 := z _ _ f1
          replace f2 := z _ _ f2
          replace f3 := z _ _ f3
          replace f4 := z _ _ f4
          replace f5 := z _ _ f5
          replace f6 := z _ _ f6
          replace b9 := b9.trans (But.same z)
          replace d9 := d9.same z
          generalize upd G6 o7 (.lst [.str ("a" : Str)]) = G7 at b9 d9 f1 f2 f3 f4 f5 f6 f7 ⊢
          clear z n7
          refine ⟨(by show _ ≤ sizeLine; decide), fun o8 n8 => ?_⟩
          have e8 := off_dice d9 n8
          have z := same_upd (o := .tup [.int 0, .str ("1" : Str)]) n8
          have f8 : upd G7 o8 (.tup [.int 0, .str ("1" : Str)]) o8 = some (.tup [.int 0, .str ("1" : Str)]) := upd_same
          replace f1 := z _ _ f1
          replace f2 := z _ _ f2
          replace f3 := z _ _ f3
          replace f4 := z _ _ f4
          replace f5 := z _ _ f5
          replace f6 := z _ _ f6
          replace f7 := z _ _ f7
          replace b9 := b9.trans (But.same z)
          replace d9 := d9.same z
          generalize upd G7 o8 (.tup [.int 0, .str ("1" : Str)]) = G8 at b9 d9 f1 f2 f3 f4 f5 f6 f7 f8 ⊢
          clear z n8
          refine ⟨(by show _ ≤ sizeLine; decide), fun o9 n9 => ?_⟩
          have e9 := off_dice d9 n9
          have z := same_upd (o := .tup [.bl false]) n9
          have f9 : upd G8 o9 (.tup [.bl false]) o9 = some (.tup [.bl false]) := upd_same
          replace f1 := z _ _ f1
          replace f2 := z _ _ f2
          replace f3 := z _ _ f3
          replace f4 := z _ _ f4
          replace f5 := z _ _ f5
          replace f6 := z _ _ f6
          replace f7 := z _ _ f7
          replace f8 := z _ _ f8
          replace b9 := b9.trans (But.same z)
          replace d9 := d9.same z
          generalize upd G8 o9 (.tup [.bl false]) = G9 at b9 d9 f1 f2 f3 f4 f5 f6 f7 f8 f9 ⊢
          clear z n9
          refine ⟨(by show 14 ≤ sizeLine; decide), fun ol nl => ?_⟩
          have el := off_dice d9 nl
          have z := same_upd (o := .lst ([.non, .bl true, .bl false, .ref o1, .ref o2, .ref o3, .ref o4, .ref o5, .ref o6, .ref o7, .str ("" : Str), .str ("a b" : Str), .ref o8, .ref o9])) nl
          have fl : upd G9 ol (.lst ([.non, .bl true, .bl false, .ref o1, .ref o2, .ref o3, .ref o4, .ref o5, .ref o6, .ref o7, .str ("" : Str), .str ("a b" : Str), .ref o8, .ref o9])) ol = some (.lst ([.non, .bl true, .bl false, .ref o1, .ref o2, .ref o3, .ref o4, .ref o5, .ref o6, .ref o7, .str ("" : Str), .str ("a b" : Str), .ref o8, .ref o9])) := upd_same
          have odd9 : ∀ v ∈ ([.non, .bl true, .bl false, .ref o1, .ref o2, .ref o3, .ref o4, .ref o5, .ref o6, .ref o7, .str ("" : Str), .str ("a b" : Str), .ref o8, .ref o9] : List V), Odd p G9 v := odds_ok e1 f1 e2 f2 e3 f3 e4 f4 e5 f5 e6 f6 e7 f7 e8 f8 e9 f9
          replace odd9 : ∀ v ∈ ([.non, .bl true, .bl false, .ref o1, .ref o2, .ref o3, .ref o4, .ref o5, .ref o6, .ref o7, .str ("" : Str), .str ("a b" : Str), .ref o8, .ref o9] : List V), Odd p (upd G9 ol (.lst ([.non, .bl true, .bl false, .ref o1, .ref o2, .ref o3, .ref o4, .ref o5, .ref o6, .ref o7, .str ("" : Str), .str ("a b" : Str), .ref o8, .ref o9]))) v := fun v m => (odd9 v m).but (But.same z)
          replace b9 := b9.trans (But.same z)
          replace d9 := d9.same z
          generalize upd G9 ol (.lst ([.non, .bl true, .bl false, .ref o1, .ref o2, .ref o3, .ref o4, .ref o5, .ref o6, .ref o7, .str ("" : Str), .str ("a b" : Str), .ref o8, .ref o9])) = G at fl odd9 b9 d9 ⊢
          clear z nl f1 f2 f3 f4 f5 f6 f7 f8 f9 e1 e2 e3 e4 e5 e6 e7 e8 e9
          refine ⟨_, rfl, _, rfl, p, ol, [.non, .bl true, .bl false, .ref o1, .ref o2, .ref o3, .ref o4, .ref o5, .ref o6, .ref o7, .str ("" : Str), .str ("a b" : Str), .ref o8, .ref o9], rfl, d9, SqL.of fl, el.symm, by show 0 < 14; decide, by show 14 < 1000000; decide, fun r v Hv hv bv dv => ?_⟩
          have ov : Odd p Hv v := (odd9 v (List.mem_of_getElem? hv)).but bv
          have bb := b9.trans bv
          clear odd9 fl b9 d9 bv
          obtain ⟨i1, i2, i3⟩ := ov.int
          refine ⟨_, rfl, v, rfl, ov.vok, _, rfl, v, rfl, ov.vok, _, rfl, v, rfl, ov.vok, _, rfl, v, false, rfl, ov.names, fun Hn sn => ⟨_, rfl, v, false, rfl, (ov.but (But.same sn)).frac, (by show 5 ≤ sizeLine; decide), fun ln nn => ?_⟩⟩
          rw [i1, i2, i3]
          have z := same_upd (o := .lst [.bl false, .bl false, .bl false, .bl false, .bl false]) nn
          have fn : upd Hn ln (.lst [.bl false, .bl false, .bl false, .bl false, .bl false]) ln = some (.lst [.bl false, .bl false, .bl false, .bl false, .bl false]) := upd_same
          replace bb := (bb.trans (But.same sn)).trans (But.same z)
          replace dv := (dv.same sn).same z
          generalize upd Hn ln (.lst [.bl false, .bl false, .bl false, .bl false, .bl false]) = Hm at fn bb dv ⊢
          clear z nn sn
          refine ⟨_, rfl, (by show 1 ≤ sizeLine; decide), fun lo no => ?_⟩
          have z := same_upd (o := .lst [.bl false]) no
          refine ⟨lo, 5, [.bl false], rfl, rfl, upd_same, by decide, by decide, by decide, fun lp np => ?_⟩
          have z2 := same_upd (o := .lst (List.replicate 5 [V.bl false]).flatten) np
          refine ⟨.list [.bool false, .bool false, .bool false, .bool false, .bool false], .list [.bool false, .bool false, .bool false, .bool false, .bool false], .lst (SqL.of (z2 _ _ (z _ _ fn))) (.cons (.bl _) (.cons (.bl _) (.cons (.bl _) (.cons (.bl _) (.cons (.bl _) .nil))))), .lst (SqL.of upd_same) (.cons (.bl _) (.cons (.bl _) (.cons (.bl _) (.cons (.bl _) (.cons (.bl _) .nil))))), by decide +kernel, by decide +kernel, ?_⟩
          exact q _ ((bb.trans (But.same z)).trans (But.same z2)) ((dv.same z).same z2)
end
end Lx

/-! The law: the word for the error of a call. -/
namespace Lx
open PySem PySem.Spec PyProof.Rows L2 Fw LamX
theorem takes_len {X : Cx} {W : WX} (t : Takes X W) : Takes X (fun c d σ H => σ.length = X.N.length → W c d σ H) := fun u s' ⟨a, B, sI, pins, σ, H, cls, d, e, I, nb, up, sky, na, os, ag, w⟩ =>
  t u s' ⟨a, B, sI, pins, σ, H, cls, d, e, I, nb, up, sky, na, os, ag, w I.len⟩
/-- what the caller of _law_met wants of an error of the call -/
def EMet (K : PySem.W.Frag) (CN CP : Addr) (Q : VK) : XK := fun cls d H' => ∃ b, PySem.W.exmOne K cls (.ref CN) = some b ∧
  (b = true → cls = .ref CN ∧ ∃ (dd : Addr) (v : V) (dt : PyData), d = some dd ∧ H' dd = some (.xd [("value", v)]) ∧ Rp K H' v dt ∧ dt.showable = true ∧ dt.depth ≤ 40 ∧ dt.shown.length ≤ 1000 ∧ Q (.str (("number " : Str) ++ dt.shown)) H') ∧
  (b = false → ∃ b2, PySem.W.exmOne K cls (.ref CP) = some b2 ∧ (b2 = true → Q (.str "place") H') ∧ (b2 = false → False))
def TMet (K : PySem.W.Frag) (CN CP : Addr) : (XK → Hp → VK → Prop) → Hp → VK → Prop := fun tl H Q => tl (EMet K CN CP Q) H fun _ H' => Q (.str Str.empty) H'
theorem scMet : FnScope ["_law_call", "e"] ["_law_call"] (defScope sMet) := ⟨rfl, rfl, rfl, by decide +kernel, rfl, by decide +kernel, by decide +kernel⟩
theorem set_one {α : Type} {xs : List (Option α)} {x : Option α} (h : xs.length = 2) : (xs.set 1 x)[1]? = some x := by
  rw [List.getElem?_set_self (by omega)]
theorem met_gives {X : Cx} {g CN CP : Addr} {cdg : Value} {q : Str} {k : Nat} (hG : X.A.guards = some []) (hr : Room (k + 1) X.A) (gN : X.mg "InvalidNumber" = some (.ref CN)) (gP : X.mg "InvalidPlace" = some (.ref CP)) (rpr : X.mg "repr" = none)
    (xf : XfC X.K CN) (noF : PySem.W.findIn X.K (.ref CN) "value" = some none) : GivesTo X ["_law_call", "e"] "_law_met" (defScope sMet) g cdg (defBody sMet) "_law_call" q (TMet X.K CN CP) := by
  intro f c' s H Q tl act hc h
  have hr' := hr.deeper (envOfC "_law_met" (defScope sMet) s.heap.objs.size g cdg)
  have hu := hr'.units
  refine ⟨_, pss_cons (ps_try_cls (X := (cxOf C8.CX0 X.prog X.w X.K X.mg X.base ["_law_call", "e"] "_law_met" (defScope sMet) g cdg X.A X.stack s H C8.E0).nox) (out := fun _ _ _ _ => False)
      (tb := fun W D σ H => ∃ Ech : XK, (∀ cls d σ' H', Ech cls d H' → σ'.length = 2 → W cls d σ' H') ∧ σ[0]? = some (some (.ref f)) ∧ H c' = some (CodeO c' q) ∧ tl Ech H (fun _ H' => D.nx σ H'))
      rfl rfl scMet.nd L2.takes0 (fun W pn xe tk _ => ?_)
      (.named (i := 1) (c := .ref CN) ⟨by rfl, by decide, .inl gN⟩ rfl rfl
        (fun a oe cls d pn hz hf => pss_one (ps_ret (pe_op op_add_str pe_str (pe_callB (call_repr (K := X.K) rfl hG hu) (by rfl) rpr (by decide +kernel) (pa_cons (pe_xf xf noF hz hf (pv 1)) pa_nil)))))
        (.bare (c := .ref CP) ⟨by rfl, by decide, .inl gP⟩ (fun a oe cls d pn hz hf => pss_one (ps_ret pe_str)) .nil))) (pss_one (ps_ret pe_str)), ?_⟩
  · refine ⟨fun pins s' σ H' D I h' => ?_⟩
    obtain ⟨Ech, hW, h1, h2, h3⟩ := h'
    exact (pss_one (ps_expr (act _ pn xe Ech _ _ (takes_len tk) (fun cls d σ' H' e l => hW cls d σ' H' e l)))).run pins s' σ H' D I ⟨h1, h2, h3⟩
  · refine ⟨EMet X.K CN CP Q, fun cls d σ' H' hE len => ?_, rfl, hc, h⟩
    obtain ⟨b, e1, yes, no⟩ := hE
    refine ⟨b, e1, fun hb a na => ?_, fun hb => ?_⟩
    · obtain ⟨ec, dd, v, dt, ed, at_, hR, hs, hd, hl, q⟩ := yes hb
      refine ⟨.ref a, set_one len, rfl, ec, dd, _, v, ed, at_, by simp [List.lookup], v, dt, rfl, hR, hs, hd, Nat.le_trans hl (by decide), _, _, rfl, rfl, ?_, q⟩
      have z : (2000 : Nat) ≤ sizeLine := by decide
      have z7 : ("number " : Str).length = 7 := by decide
      omega
    · obtain ⟨b2, e2, yes2, no2⟩ := no hb
      exact ⟨b2, e2, fun hb2 a na => yes2 hb2, fun hb2 => no2 hb2⟩
end Lx

/-! The law: namings, what holds of the dicts. -/
namespace Lx
open PySem PySem.Spec PyProof.Rows L2 Fw LamX
abbrev Kvs := List (L2.Key × V)
theorem valV_off {kvs : Kvs} {k : L2.Key} (h : k ∉ kvs.map (·.1)) : valV kvs k = none := by
  unfold valV
  rw [Option.map_eq_none_iff, List.find?_eq_none]
  intro x m z
  exact h (of_decide_eq_true z ▸ List.mem_map_of_mem m)
theorem valV_on {kvs : Kvs} {k : L2.Key} (h : k ∈ kvs.map (·.1)) : (valV kvs k).isSome = true := by
  unfold valV
  rw [Option.isSome_map, List.find?_isSome]
  obtain ⟨x, m, e⟩ := List.mem_map.mp h
  exact ⟨x, m, decide_eq_true e⟩
theorem putK_keys {kvs : Kvs} {k j : L2.Key} {v : V} : j ∈ (putK kvs k v).map (·.1) ↔ j ∈ kvs.map (·.1) ∨ j = k := by
  unfold putK
  split
  · rename_i h
    obtain ⟨x, m, e⟩ := List.any_eq_true.mp h
    have e := of_decide_eq_true e
    have same : ((kvs.map fun kv => if kv.1 = k then (kv.1, v) else kv)).map (·.1) = kvs.map (·.1) := by
      rw [List.map_map]
      refine List.map_congr_left fun y _ => ?_
      show (if y.1 = k then (y.1, v) else y).1 = y.1
      split <;> rfl
    rw [same]
    exact ⟨.inl, fun z => z.elim id fun z => by rw [z, ← e]; exact List.mem_map_of_mem m⟩
  · rw [List.map_append, List.mem_append]
    show _ ∨ j ∈ [k] ↔ _
    rw [List.mem_singleton]
theorem mergeK_keys {j : L2.Key} : ∀ {more kvs : Kvs}, j ∈ (mergeK kvs more).map (·.1) ↔ j ∈ kvs.map (·.1) ∨ j ∈ more.map (·.1)
  | [], kvs => by
    show j ∈ kvs.map (·.1) ↔ _
    simp
  | x :: more, kvs => by
    show j ∈ (mergeK (putK kvs x.1 x.2) more).map (·.1) ↔ _
    rw [mergeK_keys, putK_keys, List.map_cons, List.mem_cons, or_assoc]
theorem keysV_extra {kvs : Kvs} {ns : List Str} {k : Str} (m : (Sum.inr k : L2.Key) ∈ kvs.map (·.1)) (n : k ∉ ns) : keysV kvs ns = false := by
  unfold keysV
  obtain ⟨x, mx, e⟩ := List.mem_map.mp m
  have z : ((kvs.map fun kv => inV (kV kv.1) (ns.map V.str)).all id) = false := by
    rw [List.all_eq_false]
    refine ⟨inV (kV x.1) (ns.map V.str), List.mem_map_of_mem mx, ?_⟩
    rw [e]
    show ¬ (inV (.str k) (ns.map V.str)) = true
    intro h
    obtain ⟨y, my, ey⟩ := List.any_eq_true.mp h
    obtain ⟨c, mc, rfl⟩ := List.mem_map.mp my
    have : c = k := by simpa [eqV] using ey
    exact n (this ▸ mc)
  rw [z, Bool.false_and]
theorem keysV_less {kvs : Kvs} {ns : List Str} {k : Str} (m : k ∈ ns) (n : (Sum.inr k : L2.Key) ∉ kvs.map (·.1)) : keysV kvs ns = false := by
  unfold keysV
  have z : ((ns.map fun n => (valV kvs (Sum.inr n)).isSome).all id) = false := by
    rw [List.all_eq_false]
    refine ⟨(valV kvs (Sum.inr k)).isSome, List.mem_map_of_mem m, ?_⟩
    rw [valV_off n]
    decide
  rw [z, Bool.and_false]
theorem keysV_all {kvs : Kvs} {ns : List Str} (a : ∀ k ∈ kvs.map (·.1), ∃ x ∈ ns, k = Sum.inr x) (b : ∀ x ∈ ns, (Sum.inr x : L2.Key) ∈ kvs.map (·.1)) : keysV kvs ns = true := by
  unfold keysV
  rw [Bool.and_eq_true, List.all_eq_true, List.all_eq_true]
  constructor
  · intro c mc
    obtain ⟨x, mx, rfl⟩ := List.mem_map.mp mc
    obtain ⟨n, mn, e⟩ := a _ (List.mem_map_of_mem mx)
    show inV (kV x.1) (ns.map V.str) = true
    rw [e]
    exact List.any_eq_true.mpr ⟨.str n, List.mem_map_of_mem mn, by simp [eqV, kV]⟩
  · intro c mc
    obtain ⟨n, mn, rfl⟩ := List.mem_map.mp mc
    exact valV_on (b n mn)
theorem perm_strs {ys : List V} {l : List Str} (p : ys.Perm (l.map V.str)) : ∃ mx : List Str, ys = mx.map V.str ∧ mx.Perm l := by
  refine ⟨ys.map strV, ?_, ?_⟩
  · have each : ∀ y ∈ ys, V.str (strV y) = y := fun y m => by
      obtain ⟨c, _, rfl⟩ := List.mem_map.mp (p.mem_iff.mp m)
      rfl
    rw [List.map_map]
    clear p
    induction ys with
    | nil => rfl
    | cons y r ih =>
      rw [List.map_cons, ← ih fun z m => each z (List.mem_cons_of_mem _ m)]
      show y :: r = V.str (strV y) :: r
      rw [each y List.mem_cons_self]
  · have z := p.map strV
    rw [List.map_map] at z
    have e : (strV ∘ V.str) = id := rfl
    rw [e, List.map_id] at z
    exact z
/-- what the drawn dict holds: one name for each of the given keys, in this order -/
structure Some_ (kvs : Kvs) (ks : List Str) : Prop where
  keys : kvs.map (·.1) = ks.map Sum.inr
  vals : (kvs.map (·.2)).all nameV = true
theorem Some_.nil : Some_ [] [] := ⟨rfl, rfl⟩
theorem Some_.len {kvs : Kvs} {ks : List Str} (s : Some_ kvs ks) : kvs.length = ks.length := by
  have e := congrArg List.length s.keys
  rwa [List.length_map, List.length_map] at e
theorem Some_.put {kvs : Kvs} {ks : List Str} {k y : Str} (s : Some_ kvs ks) (n : k ∉ ks) (g : nameS y = true) : Some_ (putK kvs (Sum.inr k) (.str y)) (ks ++ [k]) := by
  have off : (Sum.inr k : L2.Key) ∉ kvs.map (·.1) := by
    rw [s.keys]
    intro m
    obtain ⟨c, mc, e⟩ := List.mem_map.mp m
    cases e
    exact n mc
  rw [putK_new _ (valV_off off)]
  refine ⟨?_, ?_⟩
  · rw [List.map_append, s.keys, List.map_append]
    rfl
  · rw [List.map_append, List.all_append, s.vals]
    show (true && (nameV (.str y) && true)) = true
    show (true && (nameS y && true)) = true
    rw [g]
    rfl
theorem Some_.keysV {kvs : Kvs} {ks ns : List Str} (s : Some_ kvs ks) (same : ∀ x, x ∈ ks ↔ x ∈ ns) : keysV kvs ns = true := by
  refine keysV_all (fun k m => ?_) (fun x m => ?_)
  · rw [s.keys] at m
    obtain ⟨c, mc, e⟩ := List.mem_map.mp m
    exact ⟨c, (same c).mp mc, e.symm⟩
  · rw [s.keys]
    exact List.mem_map_of_mem ((same x).mpr m)
/-- the values, as texts -/
def txV (kvs : Kvs) : List Str := (kvs.map (·.2)).map strV
theorem Some_.tx {kvs : Kvs} {ks : List Str} (s : Some_ kvs ks) : kvs.map (·.2) = (txV kvs).map V.str := names_strs _ s.vals
theorem Some_.diff {kvs : Kvs} {ks : List Str} (s : Some_ kvs ks) : diffV (kvs.map (·.2)) 0 = decide (V.int ((dedT (txV kvs)).length : Int) = V.int (kvs.length : Int)) := by
  unfold diffV
  rw [s.vals, Bool.true_and, decide_eq_true (show (0 : Int) ≤ _ by omega), Bool.true_and]
  show decide (txV kvs).Nodup = _
  have len : (txV kvs).length = kvs.length := by
    unfold txV
    rw [List.length_map, List.length_map]
  by_cases nd : (txV kvs).Nodup
  · rw [decide_eq_true nd, dedT_same nd, len]
    simp
  · rw [decide_eq_false nd]
    refine (decide_eq_false fun l => nd (dedT_full ?_)).symm
    have l' : ((dedT (txV kvs)).length : Int) = (kvs.length : Int) := by injection l
    omega
end Lx

/-! The law: more of dicts; what a def promises that makes lambdas. -/
namespace Lx
open PySem PySem.Spec PyProof.Rows L2 Fw LamX
theorem putK_vals {p : V → Prop} {kvs : Kvs} {k : L2.Key} {v : V} (h : ∀ x ∈ kvs.map (·.2), p x) (hv : p v) : ∀ x ∈ (putK kvs k v).map (·.2), p x := by
  intro x m
  unfold putK at m
  split at m
  · rw [List.map_map] at m
    obtain ⟨y, my, rfl⟩ := List.mem_map.mp m
    show p (if y.1 = k then (y.1, v) else y).2
    split
    · exact hv
    · exact h _ (List.mem_map_of_mem my)
  · rw [List.map_append, List.mem_append] at m
    rcases m with m | m
    · exact h x m
    · have e : x = v := by simpa using m
      rw [e]
      exact hv
theorem mergeK_vals {p : V → Prop} : ∀ {more kvs : Kvs}, (∀ x ∈ kvs.map (·.2), p x) → (∀ x ∈ more.map (·.2), p x) → ∀ x ∈ (mergeK kvs more).map (·.2), p x
  | [], kvs, h, _ => h
  | y :: more, kvs, h, g => mergeK_vals (more := more) (putK_vals h (g y.2 (by simp))) fun x m => g x (by rw [List.map_cons]; exact List.mem_cons_of_mem _ m)
def StrV (v : V) : Prop := ∃ y : Str, v = .str y ∧ y.length ≤ 1000
theorem StrV.vok {v : V} {H : Hp} (h : StrV v) : Vok H v := by
  obtain ⟨y, rfl, l⟩ := h
  exact okS l
theorem name_len {y : Str} (h : nameS y = true) : y.length ≤ 8 := by
  unfold nameS at h
  simp only [Bool.and_eq_true, decide_eq_true_eq] at h
  exact h.2.1
theorem Some_.str {kvs : Kvs} {ks : List Str} (s : Some_ kvs ks) : ∀ x ∈ kvs.map (·.2), StrV x := fun x m => by
  have z := List.all_eq_true.mp s.vals x m
  cases x with
  | str y => exact ⟨y, rfl, Nat.le_trans (name_len z) (by decide)⟩
  | _ => cases z
/-- a dict with other keys than asked for -/
theorem naming_no {H : Hp} {ns : List Str} {d : Addr} {kvs : Kvs} (at_ : H d = some (.dK kvs)) (few : kvs.length ≤ 1000) (ok : ∀ x ∈ kvs.map (·.2), StrV x) (n : keysV kvs ns = false) : NamingOf H ns (.ref d) false := by
  have z := NamingOf.dict (ns := ns) at_ few fun x m => (ok x m).vok
  rwa [n, Bool.false_and] at z
theorem cut_tail (ts : List Addr) : cutV (ts.map V.ref) (some 1) none = ts.tail.map V.ref := by
  unfold cutV
  rw [HT.sIx_none, show (some (1 : Int)) = some ((1 : Nat) : Int) from rfl, HT.sIx_nat]
  cases ts with
  | nil => rfl
  | cons t r =>
    have e : min 1 ((t :: r).map V.ref).length = 1 := by
      rw [List.length_map, List.length_cons]
      omega
    rw [e]
    show (r.map V.ref).take (((t :: r).map V.ref).length - 1) = r.map V.ref
    refine List.take_of_length_le ?_
    rw [List.length_map, List.length_map, List.length_cons]
    omega
theorem pair_tail {α β : Type} {F : α → β → Prop} {ts : List α} {ks : List β} (h : Paired F ts ks) : Paired F ts.tail ks.tail := by
  cases h with
  | nil => exact .nil
  | cons _ r => exact r
theorem pair_mono {α β : Type} {F G : α → β → Prop} (m : ∀ a b, F a b → G a b) : ∀ {ts : List α} {ks : List β}, Paired F ts ks → Paired G ts ks
  | _, _, .nil => .nil
  | _, _, .cons h r => .cons (m _ _ h) (pair_mono m r)
theorem pair_len {α β : Type} {F : α → β → Prop} : ∀ {ts : List α} {ks : List β}, Paired F ts ks → ts.length = ks.length
  | _, _, .nil => rfl
  | _, _, .cons _ r => by rw [List.length_cons, List.length_cons, pair_len r]
/-- the dict with one entry more under a key that is no name asked for -/
theorem more_no {kvs : Kvs} {ns : List Str} {k : Str} {v : V} (n : k ∉ ns) : keysV (mergeK [] (kvs ++ [(Sum.inr k, v)])) ns = false :=
  keysV_extra (k := k) (mergeK_keys.mpr (.inr (by rw [List.map_append]; simp))) n
theorem Some_.less {kvs : Kvs} {ks ns : List Str} (s : Some_ kvs ks) (nd : ks.Nodup) (same : ∀ x, x ∈ ks ↔ x ∈ ns) (pos : 0 < kvs.length) : Lx.keysV (mergeK [] kvs.tail) ns = false := by
  obtain ⟨e, _⟩ := s
  cases kvs with
  | nil => cases pos
  | cons p r =>
    cases ks with
    | nil => cases e
    | cons k ks =>
      rw [List.map_cons, List.map_cons] at e
      obtain ⟨e1, e2⟩ := List.cons.inj e
      refine keysV_less (k := k) ((same k).mp List.mem_cons_self) fun m => ?_
      rcases mergeK_keys.mp m with m | m
      · cases m
      · have m2 : (Sum.inr k : L2.Key) ∈ r.map (·.1) := m
        rw [e2] at m2
        obtain ⟨c, mc, ec⟩ := List.mem_map.mp m2
        cases ec
        exact (List.nodup_cons.mp nd).1 mc
/-! ### tables -/
/-- all but the dice and the tables stand as they stood -/
def ButT (p : Addr) (H H' : Hp) : Prop := ∀ b o, b ≠ p → (∀ ps, o ≠ .tbl ps) → H b = some o → H' b = some o
theorem ButT.of {p : Addr} {H H' : Hp} (b : But p H H') : ButT p H H' := fun c o n _ e => b c o n e
theorem ButT.trans {p : Addr} {H H1 H2 : Hp} (a : ButT p H H1) (b : ButT p H1 H2) : ButT p H H2 := fun c o n t e => b c o n t (a c o n t e)
theorem ButT.ext {p : Addr} {H H' : Hp} (b : ExtN H H') : ButT p H H' := fun c o _ t e => b c o e t
theorem tabs_but {T : List (Addr × Str)} {p : Addr} {H H' : Hp} (t : Tabs T H) (d : DiceAt H p) (b : But p H H') : Tabs T H' := by
  obtain ⟨_, _, _, ep⟩ := d
  intro x mx
  obtain ⟨ps, h1, h2, h3⟩ := t x mx
  refine ⟨ps, b _ _ (fun z => ?_) h1, h2, fun pos cv hc => ?_⟩
  · rw [z, ep] at h1
    cases h1
  · obtain ⟨c, e1, e2⟩ := h3 pos cv hc
    refine ⟨c, e1, b _ _ (fun z => ?_) e2⟩
    rw [z, ep] at e2
    unfold CodeO at e2
    cases e2
theorem dice_ext {p : Addr} {H H' : Hp} (d : DiceAt H p) (e : ExtN H H') : DiceAt H' p := by
  obtain ⟨a, b, c, at_⟩ := d
  exact ⟨a, b, c, e _ _ at_ fun ps z => by cases z⟩
/-- asked of the dice: true; lambdas may be made -/
def spTrueT (T : List (Addr × Str)) : Sp := fun vs H Q _ => ∃ p : Addr, vs = [.ref p] ∧ DiceAt H p ∧ Tabs T H ∧ ∀ H', ButT p H H' → DiceAt H' p → Tabs T H' → Q (.bl true) H'
/-- the def that calls what it is given -/
structure TxM (K : PySem.W.Frag) (mg : Str → Option Value) (CN CP gM : Addr) (dM : FuncData) (cM : Value) : Prop where
  m : mg "_law_met" = some (.ref gM)
  F : FunC K "_law_met" "_law_met" sMet gM dM cM
  kp : PySem.W.keepIn K (.ref gM) = true
  b : Binds K dM ["_law_call"] []
  gN : mg "InvalidNumber" = some (.ref CN)
  gP : mg "InvalidPlace" = some (.ref CP)
  rpr : mg "repr" = none
  xf : XfC K CN
  noF : PySem.W.findIn K (.ref CN) "value" = some none
  nn : PySem.W.exmOne K (.ref CN) (.ref CN) = some true
  pn : PySem.W.exmOne K (.ref CP) (.ref CN) = some false
  pp : PySem.W.exmOne K (.ref CP) (.ref CP) = some true
end Lx

/-! The law: namings, walked. -/
namespace Lx
open PySem PySem.Spec PyProof.Rows L2 Fw LamX
abbrev nG : List Str := ["_law_dice_here", "_law_names", "_law_some", "_law_name", "_law_due", "_law_more", "_law_less", "_law_odd", "_law_bad", "_law_turn", "_law_value"]
def qNam : Str := (("_law_namings_right" : Str) ++ (".<locals>." : Str)) ++ ("<lambda>" : Str)
def namesL : List Str := ["a", "b", "c", "tie"]
def valuesL : List Str := ["a", "b", "zz", "q", "w"]
theorem namesL_ok : ∀ y ∈ namesL, nameS y = true ∧ y ≠ "other" ∧ y ≠ "x" := by decide +kernel
theorem valuesL_ok : ∀ y ∈ valuesL, nameS y = true := by decide +kernel
theorem str_len_app (x y : Str) : (x ++ y).length = x.length + y.length := by
  show (x.cps ++ y.cps).size = _
  rw [Array.size_append]
  rfl
theorem ite_yes {c : Bool} {A B : Prop} (h : c = true) (a : A) : if c = true then A else B := by
  rw [h]
  exact a
def bang (n : Str) : L2.Key × V := (Sum.inr n, .str (n ++ ("!" : Str)))
theorem pt_weak {X : Cx} {e : Expr} {t t' : TT} (h : PT X e t) (m : ∀ σ H Q, t' σ H Q → t σ H Q) : PT X e t' := ⟨fun pins s σ H Q I q => h.run pins s σ H Q I (m _ _ _ q)⟩
/-- not both: the dict has something, and the one without the first is a naming -/
def tLess : TT := fun σ H Q => ∃ (d : Addr) (kvs : Kvs) (dl t : Addr) (ns : List Str), σ[1]? = some (some (.ref t)) ∧ σ[2]? = some (some (.ref d)) ∧ σ[6]? = some (some (.ref dl)) ∧ H d = some (.dK kvs) ∧ H t = some (.tup (ns.map V.str)) ∧ ns.length ≤ 1000 ∧
  NamesOf H (.ref t) true ∧ (0 < kvs.length → NamingOf H ns (.ref dl) false) ∧ ∀ H', Same H H' → Q false H'
section
variable {P : Program} {w : World} {K : PySem.W.Frag} {mg : Str → Option Value} {base : Heap}
structure TxS (K : PySem.W.Frag) (mg : Str → Option Value) (CN CP fR fP fQ fX fA fN fK fD gM : Addr) (dR dP dQ dX dA dN dK dD dM : FuncData) (cM : Value) : Prop where
  W : TxW K mg
  P : TxP K mg fR fP dR dP
  N : TxN K mg fA fN fK fD dA dN dK dD
  M : TxM K mg CN CP gM dM cM
  XP : ExP K mg "InvalidPlace" CP
  rng : mg "range" = none
  rpr : mg "repr" = none
  srt : mg "sorted" = none
  lst : mg "list" = none
  mQ : mg "_law_mixed" = some (.ref fQ)
  FQ : Fun K "_law_mixed" "_law_mixed" sMixed fQ dQ
  bQ : Binds K dQ ["_law_dice_here", "_law_items"] []
  mX : mg "is_naming" = some (.ref fX)
  FX : Fun K "is_naming" "is_naming" sNaming fX dX
  bX : Binds K dX ["names", "value"] []
theorem scNamings : FnScope nG ["_law_dice_here"] (defScope sNamings) := ⟨rfl, rfl, rfl, by decide +kernel, rfl, by decide +kernel, by decide +kernel⟩
theorem ok_namings {f c Pt CN CP fR fP fQ fX fA fN fK fD gM : Addr} {fd dR dP dQ dX dA dN dK dD dM : FuncData} {cM : Value} {Ts : List (Addr × Str)} (F : FunC K "_law_namings_right" "_law_namings_right" sNamings f fd (.ref c))
    (T : TxS K mg CN CP fR fP fQ fX fA fN fK fD gM dR dP dQ dX dA dN dK dD dM cM) (TB : TabB base mg c Pt) (hmT : (Pt, qNam) ∈ Ts) (huT : ∀ p ∈ Ts, p.1 = Pt → p.2 = qNam) :
    FnG P w K mg base CX0 7 f fd ["_law_dice_here"] (spTrueT Ts) := by
  have GR : FnG P w K mg base CX0 1 fR dR ["_law_dice_here", "_law_total"] spRoll := ok_roll T.P.FR T.P.D
  have GP : FnG P w K mg base CX0 2 fP dP ["_law_dice_here", "_law_items"] (spPick K) := ok_pick T.P.FP T.P.D T.P.mR T.P.FR T.P.bR
  have GQ : FnG P w K mg base CX0 2 fQ dQ ["_law_dice_here", "_law_items"] (spMixed K) := ok_mixed T.FQ T.P.D T.rng T.lst T.P.mR T.P.FR T.P.bR
  have GX0 : FnV false P w K mg base (L2.CX P w) 4 fX dX ["names", "value"] (spNaming CP) := ok_naming T.FX T.XP T.N
  have GX : FnV true P w K mg base (L2.CX P w) 4 fX dX ["names", "value"] (spNaming CP) := GX0.any
  obtain ⟨ocM, odM, kVM, docM, pmM, anM, ctM, oslM, rfl, lkM, cdM⟩ := T.M.F.ex
  have bM := T.M.b
  refine fnC F scNamings (fun vs H Q E h => ?_) (fun A fr s H vs Q E hGt hr h => ?_)
  · obtain ⟨p, rfl, _⟩ := h
    rfl
  · obtain ⟨p, rfl, hd, tabs, q⟩ := h
    have hG : A.guards = some [] := hGt rfl
    have hr1 := hr.mono (show 1 ≤ 6 by decide)
    have hr2 := hr.mono (show 2 ≤ 6 by decide)
    have hr4 := hr.mono (show 4 ≤ 6 by decide)
    have hu1 : (A.deeper (envOfC "_law_namings_right" (defScope sNamings) s.heap.objs.size f (.ref c))).units + 1 < cLine := Nat.lt_of_le_of_lt (Nat.add_le_add_left (by decide) _) hr.units
    refine ⟨_, (pss_cons (ps_set (i := 1) scNamings.nd rfl (Or.inr rfl) (pe_tupleOf (by rfl) T.W.tuple (pe_lc (own := [("_law_turn", 9)]) (g := gName 9) (by rfl) scNamings.nd (pi_range1 (by rfl) T.rng (pa_cons (pe_callG (E := fun _ _ _ _ => False) hG GR hr1 (by rfl) T.P.mR T.P.FR.kp T.P.bR .nil (fun _ => passAt0) (pa_cons (pv 0) (pa_cons pe_int pa_nil))) pa_nil)) (blkOk_by (N := nG) (sc := defScope sNamings) (own := [("_law_turn", 9)]) (by decide +kernel)) (fun _ _ _ _ _ => pg_name (i := 9) scNamings.nd rfl (Or.inl rfl)) (fun _ _ _ _ _ => pts_nil) (fun _ _ _ _ _ => (pe_callG (E := fun _ _ _ _ => False) hG GP hr2 (by rfl) T.P.mP T.P.FP.kp T.P.bP .nil (fun _ => passAt0) (pa_cons (pv 0) (pa_cons (pe_lst (pa_cons pe_str (pa_cons pe_str (pa_cons pe_str (pa_cons pe_str pa_nil))))) pa_nil)))))))
      (pss_cons (ps_set (i := 2) scNamings.nd rfl (Or.inl rfl) pe_dnewK)
      (pss_cons (ps_for (passes_of rfl) rfl (pi_list (pe_callG (E := fun _ _ _ _ => False) hG GQ hr2 (by rfl) T.mQ T.FQ.kp T.bQ .nil (fun _ => passAt0) (pa_cons (pv 0) (pa_cons (pe_callB (cr_sortedW rfl) (by rfl) T.srt (by decide +kernel) (pa_cons (pe_callTy (cr_setW rfl) (by rfl) T.N.set (by decide +kernel) (pa_cons (pv 1) pa_nil)) pa_nil)) pa_nil)))) (pg_name (i := 3) scNamings.nd rfl (Or.inl rfl)) (pss_one (ps_dput hu1 (pv 2) (pv 3) (pe_callG (E := fun _ _ _ _ => False) hG GP hr2 (by rfl) T.P.mP T.P.FP.kp T.P.bP .nil (fun _ => passAt0) (pa_cons (pv 0) (pa_cons (pe_lst (pa_cons pe_str (pa_cons pe_str (pa_cons pe_str (pa_cons pe_str (pa_cons pe_str pa_nil)))))) pa_nil))) rfl)))
      (pss_cons (ps_set (i := 4) scNamings.nd rfl (Or.inl rfl) (pe_cmpR op_eq (pe_callB cr_lenW (by rfl) T.W.len PySem.boot_len (pa_cons (pe_callTy (cr_setW rfl) (by rfl) T.N.set (by decide +kernel) (pa_cons (pe_listVals rfl (pv 2) (by rfl) T.lst (by decide +kernel)) pa_nil)) pa_nil)) (pe_callB call_lenD (by rfl) T.W.len PySem.boot_len (pa_cons (pv 2) pa_nil)) (nomark _)))
      (pss_cons (ps_if (pt_cmpR op_ne (pe_callB (call_repr (K := K) rfl hG hr.units) (by rfl) T.rpr (by decide +kernel) (pa_cons (pe_callV (gg := true) (E := WE fun _ _ _ _ => False) (fun _ => hG) GX hr4 (by rfl) T.mX T.FX.kp T.bX .nil (fun σ => passAt L2.takes0 σ) (pa_cons (pv 1) (pa_cons (pv 2) pa_nil))) pa_nil)) (pe_callB (call_repr (K := K) rfl hG hr.units) (by rfl) T.rpr (by decide +kernel) (pa_cons (pv 4) pa_nil)) (nomark _)) (pss_one (ps_ret pe_bl)) pss_nil)
      (pss_cons (ps_set (i := 5) scNamings.nd rfl (Or.inl rfl) (pe_callTy (call_dictP rfl) (by rfl) T.W.dict (by decide +kernel) (pa_cons (pe_op op_cat (LiI.pe_listItems rfl (pv 2) (by rfl) T.lst (by decide +kernel)) (pe_lst (pa_cons (pe_tup (pa_cons pe_str (pa_cons pe_str pa_nil))) pa_nil))) pa_nil)))
      (pss_cons (ps_set (i := 6) scNamings.nd rfl (Or.inl rfl) (pe_callTy (call_dictP rfl) (by rfl) T.W.dict (by decide +kernel) (pa_cons (pe_slice sl_list (LiI.pe_listItems rfl (pv 2) (by rfl) T.lst (by decide +kernel)) (po_some pe_int) po_none) pa_nil)))
      (pss_cons (ps_if (PW.pt (pw_or (pt_cmpR op_notBl (pe_callV (gg := true) (E := WE fun _ _ _ _ => False) (fun _ => hG) GX hr4 (by rfl) T.mX T.FX.kp T.bX .nil (fun σ => passAt L2.takes0 σ) (pa_cons (pv 1) (pa_cons (pv 5) pa_nil))) pe_bl (nomark _)) (pw_or1 (pt_weak (t' := tLess) (PW.pt (pw_and (pt_cmpR op_gt (pe_callB call_lenD (by rfl) T.W.len PySem.boot_len (pa_cons (pv 2) pa_nil)) pe_int (nomark _)) (pw_and1 (pt_cmpR op_notBl (pe_callV (gg := true) (E := WE fun _ _ _ _ => False) (fun _ => hG) GX hr4 (by rfl) T.mX T.FX.kp T.bX .nil (fun σ => passAt L2.takes0 σ) (pa_cons (pv 1) (pa_cons (pv 6) pa_nil))) pe_bl (nomark _))))) (by
        rintro σ H Q ⟨d, kvs, dl, t, ns, e1, e2, e6, hd, ht, few, nt, no, q⟩
        refine ⟨_, e2, d, kvs, rfl, hd, _, _, rfl, rfl, _, rfl, ?_⟩
        refine ite2 (fun c => ?_) (fun c => q H fun _ _ e => e)
        have pos : 0 < kvs.length := by
          have := of_decide_eq_true c
          omega
        exact ⟨_, e1, _, e6, .ref t, .ref dl, true, rfl, nt, (fun z => nomatch z), fun _ => ⟨t, ns, false, rfl, ht, few, no pos, fun H1 s1 => ⟨_, _, rfl, rfl, _, rfl, q H1 s1⟩⟩⟩))))) (pss_one (ps_ret pe_bl)) pss_nil)
      (pss_cons (ps_set (i := 7) scNamings.nd rfl (Or.inl rfl) (pe_lst (pa_cons pe_non (pa_cons pe_int (pa_cons pe_str (pa_cons (pe_lst (pa_cons (pe_tup (pa_cons pe_str (pa_cons pe_str pa_nil))) pa_nil)) (pa_cons (pe_tup (pa_cons (pe_tup (pa_cons pe_str (pa_cons pe_str pa_nil))) pa_nil)) (pa_cons (pe_callTy (call_dictP rfl) (by rfl) T.W.dict (by decide +kernel) (pa_cons (pe_op op_cat (pe_lc (own := [("_law_name", 3)]) (g := gName 3) (by rfl) scNamings.nd (pi_tup (pv 1)) (blkOk_by (N := nG) (sc := defScope sNamings) (own := [("_law_name", 3)]) (by decide +kernel)) (fun _ _ _ _ _ => pg_name (i := 3) scNamings.nd rfl (Or.inl rfl)) (fun _ _ _ _ _ => pts_nil) (fun _ _ _ _ _ => (pe_tup (pa_cons (pv 3) (pa_cons (pe_op op_add_str (pv 3) pe_str) pa_nil))))) (pe_lst (pa_cons (pe_tup (pa_cons pe_str (pa_cons pe_str pa_nil))) pa_nil))) pa_nil)) pa_nil))))))))
      (pss_cons (ps_if (pt_cmpR (op_neD hr.units) (pe_lc (own := [("_law_value", 10)]) (g := gName 10) (by rfl) scNamings.nd (pi_list (pv 7)) (blkOk_by (N := nG) (sc := defScope sNamings) (own := [("_law_value", 10)]) (by decide +kernel)) (fun _ _ _ _ _ => pg_name (i := 10) scNamings.nd rfl (Or.inl rfl)) (fun _ _ _ _ _ => pts_one (pt_cmpR op_notBl (pe_callV (gg := true) (E := WE fun _ _ _ _ => False) (fun _ => hG) GX hr4 (by rfl) T.mX T.FX.kp T.bX .nil (fun σ => passAt L2.takes0 σ) (pa_cons (pv 1) (pa_cons (pv 10) pa_nil))) pe_bl (nomark _))) (fun _ _ _ _ _ => (pv 10))) (pe_lst pa_nil) (nomark _)) (pss_one (ps_ret pe_bl)) pss_nil)
      (pss_cons (ps_set (i := 8) scNamings.nd rfl (Or.inr rfl) (pe_callG (E := fun _ _ _ _ => False) hG GP hr2 (by rfl) T.P.mP T.P.FP.kp T.P.bP .nil (fun _ => passAt0) (pa_cons (pv 0) (pa_cons (pe_lst (pa_cons pe_non (pa_cons pe_int (pa_cons pe_str (pa_cons (pe_lst (pa_cons pe_str pa_nil)) (pa_cons (pe_tup (pa_cons pe_str (pa_cons pe_int pa_nil))) (pa_cons (pe_tup (pa_cons pe_str pa_nil)) (pa_cons (pe_tup (pa_cons pe_str pa_nil)) (pa_cons pe_dnewK pa_nil))))))))) pa_nil))))
      (pss_one (ps_ret (pe_and (pe_cmpR op_eq (pe_lamcall (by rfl) T.M.m T.M.kp lkM cdM bM scMet rfl (Or.inl rfl) (met_gives (k := 5) hG hr T.M.gN T.M.gP T.M.rpr T.M.xf T.M.noF) TB rfl hmT huT (k := 4) hr (lamS_by (by show lamSB (defScope sNamings) _ = true; decide +kernel)) (by rfl) (by intros; rfl)
        (fun A outer s H E f c' hr2 => pe_callV (gg := false) (E := WE (fun cls d _ H => E cls d H)) (fun z => nomatch z) GX0 hr2 (by rfl) T.mX T.FX.kp T.bX .nil (fun σ => passAt (takes_of rfl rfl rfl rfl) σ) (pa_cons (pv 8) (pa_cons pe_dnewK pa_nil)))) pe_str (nomark _)) (pe_one (pe_cmpR op_isBl (pe_callV (gg := true) (E := WE fun _ _ _ _ => False) (fun _ => hG) GX hr4 (by rfl) T.mX T.FX.kp T.bX .nil (fun σ => passAt L2.takes0 σ) (pa_cons (pe_tup (pa_cons pe_str pa_nil)) (pa_cons (pe_disp (pps_cons pe_str pe_str pps_nil) (by rfl) (by rfl) (fun z => by cases z) (by decide)) pa_nil))) pe_bl (nomark _))))))))))))))))), ?_⟩
    refine ⟨_, rfl, p, 5, rfl, hd, by decide, by decide, fun m H1 m0 m1 b1 d1 => ⟨m, rfl, by omega, by omega, fun D nD => ?_⟩⟩
    have nDp : D ≠ p := off_dice d1 nD
    refine lc_range (lo := 0) (n := m.toNat) (fun i Hc => But p H1 Hc ∧ DiceAt Hc p ∧ ∃ ys : List Str, ys.length = i ∧ (∀ y ∈ ys, y ∈ namesL) ∧ Hc D = some (.lst (ys.map V.str))) ⟨But.same (same_upd nD), d1.same (same_upd nD), [], rfl, (fun _ m => by cases m), upd_same⟩ ?_ ?_
    · rintro i Hc lt ⟨bc, dc, ys, len, good, hD⟩
      refine ⟨rfl, _, rfl, (by show 4 ≤ sizeLine; decide), fun b nb => ?_⟩
      have z := same_upd (o := .lst (namesL.map V.str)) nb
      have nbD : b ≠ D := fun e => by
        rw [e, hD] at nb
        cases nb
      refine ⟨p, b, namesL.map V.str, rfl, dc.same z, SqL.of upd_same, (off_dice dc nb).symm, by decide, by decide, fun r x Hr hx br dr => ?_⟩
      obtain ⟨y, my, rfl⟩ := List.mem_map.mp (List.mem_of_getElem? hx)
      have hDr := br D _ nDp (z _ _ hD)
      refine ⟨_, hDr, ?_, fun b o nb e => ?_, ?_, ys ++ [y], ?_, ?_, ?_⟩
      · rw [List.length_map, len, sizeLine_eq]
        omega
      · rw [upd_ne (ne_of_none e nD)]
        exact br b o nb (z _ _ (bc b o nb e))
      · obtain ⟨a1, a2, a3, e⟩ := dr
        exact ⟨a1, a2, a3, by rw [upd_ne nDp.symm]; exact e⟩
      · rw [List.length_append, len]
        rfl
      · exact fun z mz => (List.mem_append.mp mz).elim (good z) fun q => by rw [List.mem_singleton.mp q]; exact my
      · rw [upd_same]
        simp
    · rintro Hc ⟨bc, dc, ns, len, good, hD⟩
      refine .inl ⟨D, ns.map V.str, rfl, SqL.of hD, fun t nt => ?_⟩
      have z := same_upd (o := .tup (ns.map V.str)) nt
      have att : (upd Hc t (.tup (ns.map V.str))) t = some (.tup (ns.map V.str)) := upd_same
      have d2 := dc.same z
      have b2 : But p H _ := (b1.trans bc).trans (But.same z)
      generalize upd Hc t (.tup (ns.map V.str)) = H2 at att d2 b2 ⊢
      clear z nt hD bc dc b1 d1 nD nDp
      have fewN : ns.length ≤ 4 := by omega
      have tp : t ≠ p := fun e => by
        obtain ⟨_, _, _, x⟩ := d2
        rw [← e, att] at x
        cases x
      intro d nd
      have z := same_upd (o := .dK []) nd
      have atd : (upd H2 d (.dK [])) d = some (.dK []) := upd_same
      have dp := off_dice d2 nd
      have ndH : H d = none := by
        cases e : H d with
        | none => rfl
        | some o =>
          rw [b2 d o dp e] at nd
          cases nd
      replace att := z _ _ att
      replace d2 := d2.same z
      replace b2 : But p H _ := b2.trans (But.same z)
      generalize upd H2 d (.dK []) = H3 at att d2 b2 atd ⊢
      clear z nd
      refine ⟨_, rfl, _, rfl, t, ns, rfl, .inr (SqT.of att), by omega, fun q1 nq1 => ?_⟩
      rw [show (cxOf CX0 P w K mg base nG "_law_namings_right" (defScope sNamings) f (Value.ref c) A fr s H E).w = w from rfl]
      have z := same_upd (o := SetWO w q1 (dedT ns)) nq1
      have atq1 : (upd H3 q1 (SetWO w q1 (dedT ns))) q1 = some (SetWO w q1 (dedT ns)) := upd_same
      replace att := z _ _ att
      replace atd := z _ _ atd
      replace d2 := d2.same z
      replace b2 : But p H _ := b2.trans (But.same z)
      generalize upd H3 q1 (SetWO w q1 (dedT ns)) = H4 at att d2 b2 atd atq1 ⊢
      clear z nq1
      refine ⟨q1, dedT ns, rfl, atq1, Nat.lt_of_le_of_lt (dedT_len ns) (by omega), fun srt q2 pm so nq2 => ?_⟩
      have z := same_upd (o := .lst (srt.map V.str)) nq2
      have atq2 : (upd H4 q2 (.lst (srt.map V.str))) q2 = some (.lst (srt.map V.str)) := upd_same
      have q2p := off_dice d2 nq2
      replace att := z _ _ att
      replace atd := z _ _ atd
      replace d2 := d2.same z
      replace b2 : But p H _ := b2.trans (But.same z)
      generalize upd H4 q2 (.lst (srt.map V.str)) = H5 at att d2 b2 atd atq2 ⊢
      clear z nq2 atq1
      have fewS : srt.length ≤ 4 := by
        have e1 := pm.length_eq
        have e2 := dedT_len ns
        omega
      refine ⟨p, q2, srt.map V.str, rfl, d2, SqL.of atq2, by rw [List.length_map]; omega, fun ys q3 H6 perm b6 d6 nq3 atq3 => ?_⟩
      obtain ⟨mx, rfl, pmx⟩ := perm_strs perm
      have q3p := off_dice d2 nq3
      have q3d : q3 ≠ d := fun e => by
        rw [e, atd] at nq3
        cases nq3
      have same : ∀ x, x ∈ mx ↔ x ∈ ns := fun x => by rw [pmx.mem_iff, pm.mem_iff, dedT_mem]
      have nodup : mx.Nodup := pmx.nodup_iff.mpr (pm.nodup_iff.mpr (dedT_nodup ns))
      have fewM : mx.length ≤ 4 := by
        have e1 := pmx.length_eq
        omega
      replace att := b6 _ _ tp att
      replace atd := b6 _ _ dp atd
      replace b2 : But p H _ := b2.trans b6
      clear b6 d2 nq3 atq2 perm
      refine ⟨q3, rfl, ⟨_, SqL.of atq3⟩, ?_⟩
      refine for_list (K := K) (a := q3) (xs := mx.map V.str) (fun i σ Hc => ∃ (v3 : Option V) (kvs : Kvs), σ = [some (.ref p), some (.ref t), some (.ref d), v3, none, none, none, none, none, none, none] ∧ But p H Hc ∧ DiceAt Hc p ∧ Hc t = some (.tup (ns.map V.str)) ∧ Hc d = some (.dK kvs) ∧ Hc q3 = some (.lst (mx.map V.str)) ∧ Some_ kvs (mx.take i))
        ⟨none, [], rfl, b2, d6, att, atd, atq3, .nil⟩ (fun i σ Hc _ ⟨_, _, _, _, _, _, _, e, _⟩ => SqL.of e) ?_ ?_
      · rintro i x σ Hc hx ⟨v3, kvs, rfl, bc, dc, atc, adc, aqc, S⟩
        obtain ⟨k, ek, rfl⟩ : ∃ k, mx[i]? = some k ∧ x = .str k := by
          rw [List.getElem?_map] at hx
          cases e : mx[i]? with
          | none => rw [e] at hx; cases hx
          | some k => rw [e] at hx; exact ⟨k, rfl, (Option.some.inj hx).symm⟩
        refine ⟨_, rfl, (by show 5 ≤ sizeLine; decide), fun b nb => ?_⟩
        have z := same_upd (o := .lst (valuesL.map V.str)) nb
        refine ⟨p, b, valuesL.map V.str, rfl, dc.same z, SqL.of upd_same, (off_dice dc nb).symm, by decide, by decide, fun r x Hr hx br dr => ?_⟩
        obtain ⟨y, my, rfl⟩ := List.mem_map.mp (List.mem_of_getElem? hx)
        have adr := br d _ dp (z _ _ adc)
        have lk : kvs.length < sizeLine := by
          have e := S.len
          rw [List.length_take] at e
          have : (1000 : Nat) ≤ sizeLine := by decide
          omega
        refine ⟨_, rfl, _, rfl, d, _, rfl, DPut.k (k := Sum.inr k) adr lk, ?_⟩
        refine ⟨some (.str k), putK kvs (Sum.inr k) (.str y), rfl, fun b o nb e => ?_, ?_, ?_, upd_same, ?_, ?_⟩
        · have nbd : b ≠ d := ne_of_none e ndH
          rw [upd_ne nbd]
          exact br b o nb (z _ _ (bc b o nb e))
        · obtain ⟨a1, a2, a3, e⟩ := dr
          exact ⟨a1, a2, a3, by rw [upd_ne dp.symm]; exact e⟩
        · have td : t ≠ d := fun e => by
            rw [e, adc] at atc
            cases atc
          rw [upd_ne td]
          exact br t _ tp (z _ _ atc)
        · rw [upd_ne q3d]
          exact br q3 _ q3p (z _ _ aqc)
        · have e : mx.take (i + 1) = mx.take i ++ [k] := by
            rw [List.take_add_one, ek]
            rfl
          rw [e]
          refine S.put (fun m => ?_) (valuesL_ok y my)
          have nd' := nodup
          rw [← List.take_append_drop (i + 1) mx, e] at nd'
          have nd2 := (List.nodup_append.mp nd').1
          exact (List.nodup_append.mp nd2).2.2 k m k (by simp) rfl
      · rintro σ Hc ⟨v3, kvs, rfl, bc, dc, atc, adc, -, S⟩
        rw [List.length_map, List.take_length] at S
        generalize hHc : Hc = H7 at bc dc atc adc ⊢
        clear hHc
        have nsok : ∀ y ∈ ns, nameS y = true := fun y m => (namesL_ok y (good y m)).1
        have allN : (ns.map V.str).all nameV = true := by
          rw [List.all_map]
          exact List.all_eq_true.mpr nsok
        have okN : ∀ Hc, ∀ x ∈ ns.map V.str, Vok Hc x := fun Hc x m => by
          obtain ⟨y, my, rfl⟩ := List.mem_map.mp m
          exact okS (Nat.le_trans (name_len (nsok y my)) (by decide))
        have namesT : ∀ Hc : Hp, Hc t = some (.tup (ns.map V.str)) → NamesOf Hc (.ref t) true := fun Hc e => by
          have z := NamesOf.tup e (okN Hc) (by rw [List.length_map]; omega)
          rwa [allN] at z
        have fewK : kvs.length ≤ 4 := by
          have e := S.len
          omega
        have fewT : (txV kvs).length = kvs.length := by
          unfold txV
          rw [List.length_map, List.length_map]
        refine ⟨_, rfl, d, kvs, rfl, adc, fun l1 nl1 => ?_⟩
        have z := same_upd (o := .lst (kvs.map (·.2))) nl1
        have at1 : (upd H7 l1 (.lst (kvs.map (·.2)))) l1 = some (.lst ((txV kvs).map V.str)) := by rw [← S.tx]; exact upd_same
        replace atc := z _ _ atc
        replace adc := z _ _ adc
        replace dc := dc.same z
        replace bc : But p H _ := bc.trans (But.same z)
        generalize upd H7 l1 (.lst (kvs.map (·.2))) = H8 at at1 atc adc dc bc ⊢
        clear z nl1
        refine ⟨l1, txV kvs, rfl, .inl (SqL.of at1), by omega, fun s1 ns1 => ?_⟩
        have z := same_upd (o := SetWO w s1 (dedT (txV kvs))) ns1
        have at2 : (upd H8 s1 (SetWO w s1 (dedT (txV kvs)))) s1 = some (SetWO w s1 (dedT (txV kvs))) := upd_same
        replace atc := z _ _ atc
        replace adc := z _ _ adc
        replace dc := dc.same z
        replace bc : But p H _ := bc.trans (But.same z)
        generalize upd H8 s1 (SetWO w s1 (dedT (txV kvs))) = H9 at at2 atc adc dc bc ⊢
        clear z ns1 at1
        refine ⟨s1, _, rfl, at2, _, rfl, d, kvs, rfl, adc, rfl, ?_⟩
        have due := S.diff
        have er : (Lx.keysV kvs ns && diffV (kvs.map (·.2)) 0) = decide (V.int ((dedT (txV kvs)).length : Int) = V.int (kvs.length : Int)) := by rw [S.keysV same, Bool.true_and, due]
        have nm : NamingOf H9 ns (.ref d) (decide (V.int ((dedT (txV kvs)).length : Int) = V.int (kvs.length : Int))) := by
          rw [← er]
          exact .dict adc (by omega) fun x m => (S.str x m).vok
        generalize decide (V.int ((dedT (txV kvs)).length : Int) = V.int (kvs.length : Int)) = r at nm ⊢
        clear er due at2
        refine ⟨_, rfl, _, rfl, .ref t, .ref d, true, rfl, namesT _ atc, (fun z => nomatch z), fun _ => ⟨t, ns, r, rfl, atc, by omega, nm, fun H10 s10 => ?_⟩⟩
        refine ⟨_, .bool r, rfl, .bl _, one_ok _, one_dp _, one_len _, _, rfl, _, .bool r, rfl, .bl _, one_ok _, one_dp _, one_len _, rfl, _, rfl, ?_⟩
        refine ite_no (by simp) ?_
        clear nm
        replace atc := s10 _ _ atc
        replace adc := s10 _ _ adc
        replace dc := dc.same s10
        replace bc : But p H _ := bc.trans (But.same s10)
        clear s10
        -- with one entry more
        refine ⟨_, rfl, d, kvs, rfl, adc, fun H11 l2 ts k11 nl2 nts off al2 pr => ?_⟩
        replace atc := k11 _ _ atc
        replace adc := k11 _ _ adc
        replace dc := dc.same k11
        replace bc : But p H _ := bc.trans (But.same k11)
        clear k11 nl2 nts off
        refine ⟨(by show 2 ≤ sizeLine; decide), fun tt ntt => ?_⟩
        have z := same_upd (o := .tup [.str ("other" : Str), .str ("v" : Str)]) ntt
        have att' : (upd H11 tt (.tup [.str ("other" : Str), .str ("v" : Str)])) tt = some (.tup [.str ("other" : Str), .str ("v" : Str)]) := upd_same
        replace al2 := z _ _ al2
        replace pr := pair_mono (fun a b e => z _ _ e) pr
        replace atc := z _ _ atc
        replace adc := z _ _ adc
        replace dc := dc.same z
        replace bc : But p H _ := bc.trans (But.same z)
        generalize upd H11 tt (.tup [.str ("other" : Str), .str ("v" : Str)]) = H12 at al2 pr att' atc adc dc bc ⊢
        clear z ntt
        refine ⟨(by show 1 ≤ sizeLine; decide), fun l3 nl3 => ?_⟩
        have z := same_upd (o := .lst [.ref tt]) nl3
        have al3 : (upd H12 l3 (.lst [.ref tt])) l3 = some (.lst [.ref tt]) := upd_same
        replace al2 := z _ _ al2
        replace pr := pair_mono (fun a b e => z _ _ e) pr
        replace att' := z _ _ att'
        replace atc := z _ _ atc
        replace adc := z _ _ adc
        replace dc := dc.same z
        replace bc : But p H _ := bc.trans (But.same z)
        generalize upd H12 l3 (.lst [.ref tt]) = H13 at al2 al3 pr att' atc adc dc bc ⊢
        clear z nl3
        have lenT : ts.length = kvs.length := pair_len pr
        refine ⟨l2, l3, _, _, rfl, rfl, al2, al3, ?_, fun l4 nl4 => ?_⟩
        · rw [List.length_map, lenT, sizeLine_eq]
          show _ + 1 ≤ _
          omega
        have z := same_upd (o := .lst (ts.map V.ref ++ [.ref tt])) nl4
        have al4 : (upd H13 l4 (.lst (ts.map V.ref ++ [.ref tt]))) l4 = some (.lst ((ts ++ [tt]).map V.ref)) := by
          rw [List.map_append]
          exact upd_same
        replace pr := pair_mono (fun a b e => z _ _ e) pr
        replace att' := z _ _ att'
        replace atc := z _ _ atc
        replace adc := z _ _ adc
        replace dc := dc.same z
        replace bc : But p H _ := bc.trans (But.same z)
        generalize upd H13 l4 (.lst (ts.map V.ref ++ [.ref tt])) = H14 at al4 pr att' atc adc dc bc ⊢
        clear z nl4 al2 al3
        refine ⟨l4, ts ++ [tt], kvs ++ [(Sum.inr ("other" : Str), .str ("v" : Str))], rfl, SqL.of al4, Paired.snoc (b := ((Sum.inr ("other" : Str), .str ("v" : Str)) : L2.Key × V)) (pair_mono (fun a b e => SqT.of e) pr) (SqT.of att'), fun dm ndm => ?_⟩
        have z := same_upd (o := .dK (mergeK [] (kvs ++ [(Sum.inr ("other" : Str), .str ("v" : Str))]))) ndm
        have adm : (upd H14 dm (.dK (mergeK [] (kvs ++ [(Sum.inr ("other" : Str), .str ("v" : Str))])))) dm = some (.dK (mergeK [] (kvs ++ [(Sum.inr ("other" : Str), .str ("v" : Str))]))) := upd_same
        replace atc := z _ _ atc
        replace adc := z _ _ adc
        replace dc := dc.same z
        replace bc : But p H _ := bc.trans (But.same z)
        generalize upd H14 dm (.dK (mergeK [] (kvs ++ [(Sum.inr ("other" : Str), .str ("v" : Str))]))) = H15 at adm atc adc dc bc ⊢
        clear z ndm al4 pr att' lenT
        -- without the first one
        refine ⟨_, rfl, d, kvs, rfl, adc, fun H16 l5 ts5 k16 nl5 nts off al5 pr => ?_⟩
        replace atc := k16 _ _ atc
        replace adc := k16 _ _ adc
        replace adm := k16 _ _ adm
        replace dc := dc.same k16
        replace bc : But p H _ := bc.trans (But.same k16)
        clear k16 nl5 nts off
        refine ⟨_, rfl, l5, _, rfl, SqL.of al5, fun l6 nl6 => ?_⟩
        rw [cut_tail]
        have z := same_upd (o := .lst (ts5.tail.map V.ref)) nl6
        have al6 : (upd H16 l6 (.lst (ts5.tail.map V.ref))) l6 = some (.lst (ts5.tail.map V.ref)) := upd_same
        replace pr := pair_mono (fun a b e => z _ _ e) pr
        replace atc := z _ _ atc
        replace adc := z _ _ adc
        replace adm := z _ _ adm
        replace dc := dc.same z
        replace bc : But p H _ := bc.trans (But.same z)
        generalize upd H16 l6 (.lst (ts5.tail.map V.ref)) = H17 at al6 adm pr atc adc dc bc ⊢
        clear z nl6 al5
        refine ⟨l6, ts5.tail, kvs.tail, rfl, SqL.of al6, pair_mono (fun a b e => SqT.of e) (pair_tail pr), fun dl ndl => ?_⟩
        have z := same_upd (o := .dK (mergeK [] kvs.tail)) ndl
        have adl : (upd H17 dl (.dK (mergeK [] kvs.tail))) dl = some (.dK (mergeK [] kvs.tail)) := upd_same
        replace atc := z _ _ atc
        replace adc := z _ _ adc
        replace adm := z _ _ adm
        replace dc := dc.same z
        replace bc : But p H _ := bc.trans (But.same z)
        generalize upd H17 dl (.dK (mergeK [] kvs.tail)) = H18 at adl adm atc adc dc bc ⊢
        clear z ndl al6 pr
        have okM : ∀ x ∈ (mergeK [] (kvs ++ [(Sum.inr ("other" : Str), .str ("v" : Str))])).map (·.2), StrV x := mergeK_vals (fun _ m => by cases m) fun x m => by
          rw [List.map_append, List.mem_append] at m
          rcases m with m | m
          · exact S.str x m
          · have e : x = V.str ("v" : Str) := by simpa using m
            exact ⟨_, e, by decide⟩
        have okL : ∀ x ∈ (mergeK [] kvs.tail).map (·.2), StrV x := mergeK_vals (fun _ m => by cases m) fun x m => S.str x (by
          obtain ⟨y, my, e⟩ := List.mem_map.mp m
          exact List.mem_map.mpr ⟨y, List.mem_of_mem_tail my, e⟩)
        have fewM : (mergeK [] (kvs ++ [(Sum.inr ("other" : Str), .str ("v" : Str))])).length ≤ 1000 := by
          have e := length_mergeK (kvs ++ [(Sum.inr ("other" : Str), V.str ("v" : Str))]) []
          rw [List.length_append] at e
          have e2 : ([] : Kvs).length = 0 := rfl
          have e3 : [((Sum.inr ("other" : Str), .str ("v" : Str)) : L2.Key × V)].length = 1 := rfl
          omega
        have fewL : (mergeK [] kvs.tail).length ≤ 1000 := by
          have e := length_mergeK kvs.tail []
          rw [List.length_tail] at e
          have e2 : ([] : Kvs).length = 0 := rfl
          omega
        have noM : Lx.keysV (mergeK [] (kvs ++ [(Sum.inr ("other" : Str), .str ("v" : Str))])) ns = false := more_no fun m => (namesL_ok _ (good _ m)).2.1 rfl
        have nmM : NamingOf H18 ns (.ref dm) false := naming_no adm fewM okM noM
        refine ⟨_, rfl, _, rfl, .ref t, .ref dm, true, rfl, namesT _ atc, (fun z => nomatch z), fun _ => ⟨t, ns, false, rfl, atc, by omega, nmM, fun H19 s19 => ?_⟩⟩
        replace atc := s19 _ _ atc
        replace adc := s19 _ _ adc
        replace adl := s19 _ _ adl
        replace dc := dc.same s19
        replace bc : But p H _ := bc.trans (But.same s19)
        clear s19 nmM adm okM fewM noM
        refine ⟨_, _, rfl, rfl, _, rfl, ?_⟩
        refine ite_no rfl ?_
        refine ⟨d, kvs, dl, t, ns, rfl, rfl, rfl, adc, atc, by omega, namesT _ atc, fun pos => naming_no adl fewL okL (S.less nodup same pos), fun H20 s20 => ?_⟩
        replace atc := s20 _ _ atc
        replace dc := dc.same s20
        replace bc : But p H _ := bc.trans (But.same s20)
        clear s20 adl adc okL fewL S nodup same
        refine ⟨(by show 2 ≤ sizeLine; decide), fun o1 n1 => ?_⟩
        have z := same_upd (o := .tup [.str ("a" : Str), .str ("b" : Str)]) n1
        replace atc := z _ _ atc
        replace dc := dc.same z
        replace bc : But p H _ := bc.trans (But.same z)
        generalize upd H20 o1 (.tup [.str ("a" : Str), .str ("b" : Str)]) = H21 at atc dc bc ⊢
        clear z n1
        refine ⟨(by show 1 ≤ sizeLine; decide), fun o2 n2 => ?_⟩
        have z := same_upd (o := .lst [.ref o1]) n2
        have f2 : (upd H21 o2 (.lst [.ref o1])) o2 = some (.lst [.ref o1]) := upd_same
        replace atc := z _ _ atc
        replace dc := dc.same z
        replace bc : But p H _ := bc.trans (But.same z)
        generalize upd H21 o2 (.lst [.ref o1]) = H22 at f2 atc dc bc ⊢
        clear z n2
        refine ⟨(by show 2 ≤ sizeLine; decide), fun o3 n3 => ?_⟩
        have z := same_upd (o := .tup [.str ("a" : Str), .str ("b" : Str)]) n3
        replace f2 := z _ _ f2
        replace atc := z _ _ atc
        replace dc := dc.same z
        replace bc : But p H _ := bc.trans (But.same z)
        generalize upd H22 o3 (.tup [.str ("a" : Str), .str ("b" : Str)]) = H23 at f2 atc dc bc ⊢
        clear z n3
        refine ⟨(by show 1 ≤ sizeLine; decide), fun o4 n4 => ?_⟩
        have z := same_upd (o := .tup [.ref o3]) n4
        have f4 : (upd H23 o4 (.tup [.ref o3])) o4 = some (.tup [.ref o3]) := upd_same
        replace f2 := z _ _ f2
        replace atc := z _ _ atc
        replace dc := dc.same z
        replace bc : But p H _ := bc.trans (But.same z)
        generalize upd H23 o4 (.tup [.ref o3]) = H24 at f2 f4 atc dc bc ⊢
        clear z n4
        refine ⟨_, rfl, t, rfl, ⟨_, SqT.of atc⟩, fun D nD => ?_⟩
        refine lc_tup (K := K) (a := t) (xs := ns.map V.str) (fun i Hc => Same H24 Hc ∧ ∃ ts : List Addr, Hc D = some (.lst (ts.map V.ref)) ∧ Paired (fun a (kv : L2.Key × V) => Hc a = some (.tup [kV kv.1, kv.2])) ts ((ns.take i).map bang)) ⟨same_upd nD, [], upd_same, .nil⟩ (fun i Hc _ z => SqT.of (z.1 _ _ atc)) ?_ ?_
        · rintro i x Hc hx ⟨sm, ts, hD, pr⟩
          obtain ⟨y, ey, rfl⟩ : ∃ y, ns[i]? = some y ∧ x = .str y := by
            rw [List.getElem?_map] at hx
            cases e : ns[i]? with
            | none => rw [e] at hx; cases hx
            | some y => rw [e] at hx; exact ⟨y, rfl, (Option.some.inj hx).symm⟩
          have ly := name_len (nsok y (List.mem_of_getElem? ey))
          have lt := pair_len pr
          rw [List.length_map, List.length_take] at lt
          refine ⟨rfl, _, rfl, _, rfl, _, _, rfl, rfl, ?_, (by show 2 ≤ sizeLine; decide), fun tt ntt => ?_⟩
          · have e : ("!" : Str).length = 1 := by decide
            have e2 : (100 : Nat) ≤ sizeLine := by decide
            omega
          have z := same_upd (o := .tup [.str y, .str (y ++ ("!" : Str))]) ntt
          have ttD : tt ≠ D := fun e => by
            rw [e, hD] at ntt
            cases ntt
          refine ⟨_, z _ _ hD, ?_, fun b o e => ?_, ts ++ [tt], ?_, ?_⟩
          · rw [List.length_map]
            have e2 : (100 : Nat) ≤ sizeLine := by decide
            omega
          · rw [upd_ne (ne_of_none e nD)]
            exact z _ _ (sm _ _ e)
          · rw [upd_same, List.map_append]
            rfl
          · rw [List.take_add_one, ey, List.map_append]
            refine Paired.snoc (pair_mono (fun a b e => ?_) pr) ?_
            · have ne : a ≠ D := fun q => by
                rw [q, hD] at e
                cases e
              rw [upd_ne ne]
              exact z _ _ e
            · rw [upd_ne ttD, upd_same]
              rfl
        · rintro Hc ⟨sm, ts, hD, pr⟩
          rw [List.length_map, List.take_length] at pr
          replace f2 := sm _ _ f2
          replace f4 := sm _ _ f4
          replace atc := sm _ _ atc
          replace dc := dc.same sm
          replace bc : But p H _ := bc.trans (But.same sm)
          clear sm nD
          refine ⟨(by show 2 ≤ sizeLine; decide), fun tt ntt => ?_⟩
          have z := same_upd (o := .tup [.str ("x" : Str), .str ("y" : Str)]) ntt
          have att' : (upd Hc tt (.tup [.str ("x" : Str), .str ("y" : Str)])) tt = some (.tup [.str ("x" : Str), .str ("y" : Str)]) := upd_same
          replace hD := z _ _ hD
          replace pr := pair_mono (fun a b e => z _ _ e) pr
          replace f2 := z _ _ f2
          replace f4 := z _ _ f4
          replace atc := z _ _ atc
          replace dc := dc.same z
          replace bc : But p H _ := bc.trans (But.same z)
          generalize upd Hc tt (.tup [.str ("x" : Str), .str ("y" : Str)]) = H25 at f2 f4 hD pr att' atc dc bc ⊢
          clear z ntt
          refine ⟨(by show 1 ≤ sizeLine; decide), fun l7 n7 => ?_⟩
          have z := same_upd (o := .lst [.ref tt]) n7
          have al7 : (upd H25 l7 (.lst [.ref tt])) l7 = some (.lst [.ref tt]) := upd_same
          replace hD := z _ _ hD
          replace pr := pair_mono (fun a b e => z _ _ e) pr
          replace att' := z _ _ att'
          replace f2 := z _ _ f2
          replace f4 := z _ _ f4
          replace atc := z _ _ atc
          replace dc := dc.same z
          replace bc : But p H _ := bc.trans (But.same z)
          generalize upd H25 l7 (.lst [.ref tt]) = H26 at f2 f4 hD al7 pr att' atc dc bc ⊢
          clear z n7
          have lenT : ts.length = ns.length := by
            have e := pair_len pr
            rwa [List.length_map] at e
          refine ⟨D, l7, _, _, rfl, rfl, hD, al7, ?_, fun l8 n8 => ?_⟩
          · rw [List.length_map, lenT, sizeLine_eq]
            show _ + 1 ≤ _
            omega
          have z := same_upd (o := .lst (ts.map V.ref ++ [.ref tt])) n8
          have al8 : (upd H26 l8 (.lst (ts.map V.ref ++ [.ref tt]))) l8 = some (.lst ((ts ++ [tt]).map V.ref)) := by
            rw [List.map_append]
            exact upd_same
          replace pr := pair_mono (fun a b e => z _ _ e) pr
          replace att' := z _ _ att'
          replace f2 := z _ _ f2
          replace f4 := z _ _ f4
          replace atc := z _ _ atc
          replace dc := dc.same z
          replace bc : But p H _ := bc.trans (But.same z)
          generalize upd H26 l8 (.lst (ts.map V.ref ++ [.ref tt])) = H27 at f2 f4 al8 pr att' atc dc bc ⊢
          clear z n8 al7 hD
          refine ⟨l8, ts ++ [tt], ns.map bang ++ [(Sum.inr ("x" : Str), .str ("y" : Str))], rfl, SqL.of al8, Paired.snoc (b := ((Sum.inr ("x" : Str), .str ("y" : Str)) : L2.Key × V)) (pair_mono (fun a b e => SqT.of e) pr) (SqT.of att'), fun dx ndx => ?_⟩
          have z := same_upd (o := .dK (mergeK [] (ns.map bang ++ [(Sum.inr ("x" : Str), .str ("y" : Str))]))) ndx
          have adx : (upd H27 dx (.dK (mergeK [] (ns.map bang ++ [(Sum.inr ("x" : Str), .str ("y" : Str))])))) dx = some (.dK (mergeK [] (ns.map bang ++ [(Sum.inr ("x" : Str), .str ("y" : Str))]))) := upd_same
          replace f2 := z _ _ f2
          replace f4 := z _ _ f4
          replace atc := z _ _ atc
          replace dc := dc.same z
          replace bc : But p H _ := bc.trans (But.same z)
          generalize upd H27 dx (.dK (mergeK [] (ns.map bang ++ [(Sum.inr ("x" : Str), .str ("y" : Str))]))) = H28 at f2 f4 adx atc dc bc ⊢
          clear z ndx al8 pr att' lenT
          refine ⟨(by show 6 ≤ sizeLine; decide), fun lo nlo => ?_⟩
          have z := same_upd (o := .lst [.non, .int 0, .str ("a" : Str), .ref o2, .ref o4, .ref dx]) nlo
          have alo : (upd H28 lo (.lst [.non, .int 0, .str ("a" : Str), .ref o2, .ref o4, .ref dx])) lo = some (.lst [.non, .int 0, .str ("a" : Str), .ref o2, .ref o4, .ref dx]) := upd_same
          replace adx := z _ _ adx
          replace f2 := z _ _ f2
          replace f4 := z _ _ f4
          replace atc := z _ _ atc
          replace dc := dc.same z
          replace bc : But p H _ := bc.trans (But.same z)
          generalize upd H28 lo (.lst [.non, .int 0, .str ("a" : Str), .ref o2, .ref o4, .ref dx]) = H29 at f2 f4 adx alo atc dc bc ⊢
          clear z nlo
          have okX : ∀ x ∈ (mergeK [] (ns.map bang ++ [(Sum.inr ("x" : Str), .str ("y" : Str))])).map (·.2), StrV x := mergeK_vals (fun _ m => by cases m) fun x m => by
            rw [List.map_append, List.mem_append] at m
            rcases m with m | m
            · obtain ⟨kv, mk, rfl⟩ := List.mem_map.mp m
              obtain ⟨y, my, rfl⟩ := List.mem_map.mp mk
              have ly := name_len (nsok y my)
              have le : ("!" : Str).length = 1 := by decide
              exact ⟨_, rfl, by rw [str_len_app]; omega⟩
            · have e : x = V.str ("y" : Str) := by simpa using m
              exact ⟨_, e, by decide⟩
          have fewX : (mergeK [] (ns.map bang ++ [(Sum.inr ("x" : Str), .str ("y" : Str))])).length ≤ 1000 := by
            have e := length_mergeK (ns.map bang ++ [(Sum.inr ("x" : Str), V.str ("y" : Str))]) []
            rw [List.length_append, List.length_map] at e
            have e2 : ([] : Kvs).length = 0 := rfl
            have e3 : [((Sum.inr ("x" : Str), .str ("y" : Str)) : L2.Key × V)].length = 1 := rfl
            omega
          have noX : Lx.keysV (mergeK [] (ns.map bang ++ [(Sum.inr ("x" : Str), .str ("y" : Str))])) ns = false := more_no fun m => (namesL_ok _ (good _ m)).2.2 rfl
          have each : ∀ Hc, Same H29 Hc → ∀ x ∈ [V.non, .int 0, .str ("a" : Str), .ref o2, .ref o4, .ref dx], NamingOf Hc ns x false := fun Hc sm x m => by
            simp only [List.mem_cons, List.not_mem_nil, or_false] at m
            rcases m with rfl | rfl | rfl | rfl | rfl | rfl
            · exact .no .non (by decide)
            · exact .no (.int 0) (by decide)
            · exact .no (.str _) (by decide)
            · exact .no (.lst (sm _ _ f2)) (by decide)
            · exact .no (.tup (sm _ _ f4)) (by decide)
            · exact naming_no (sm _ _ adx) fewX okX noX
          refine ⟨_, rfl, lo, rfl, ⟨_, SqL.of alo⟩, fun D2 nD2 => ?_⟩
          refine lc_list (K := K) (a := lo) (xs := [V.non, .int 0, .str ("a" : Str), .ref o2, .ref o4, .ref dx]) (fun i Hc => Same H29 Hc ∧ Hc D2 = some (.lst [])) ⟨same_upd nD2, upd_same⟩ (fun i Hc _ z => SqL.of (z.1 _ _ alo)) ?_ ?_
          · rintro i x Hc hx ⟨sm, hD⟩
            refine ⟨rfl, _, rfl, _, rfl, .ref t, x, true, rfl, namesT _ (sm _ _ atc), (fun z => nomatch z), fun _ => ⟨t, ns, false, rfl, sm _ _ atc, by omega, each Hc sm x (List.mem_of_getElem? hx), fun Hd sd => ?_⟩⟩
            refine ⟨_, _, rfl, rfl, _, rfl, ?_⟩
            refine ite_no rfl ?_
            exact ⟨same_trans sm sd, sd _ _ hD⟩
          · rintro Hc ⟨sm, hD⟩
            refine ⟨Nat.zero_le _, fun u nu => ⟨_, _, .lst (SqL.of ((same_upd nu) _ _ hD)) .nil, .lst (SqL.of upd_same) .nil, by decide +kernel, by decide +kernel, ?_⟩⟩
            refine ⟨_, rfl, ?_⟩
            refine ite_no (by decide +kernel) ?_
            have z := same_trans sm (same_upd (o := .lst []) nu)
            replace dc := dc.same z
            replace bc : But p H _ := bc.trans (But.same z)
            generalize upd Hc u (.lst []) = H30 at dc bc ⊢
            clear z nu hD sm nD2 each okX fewX noX alo adx f2 f4 atc
            refine ⟨_, rfl, (by show 1 ≤ sizeLine; decide), fun a1 m1 => ?_⟩
            have p1 := off_dice dc m1
            have z := same_upd (o := .lst [.str ("a" : Str)]) m1
            have g1 : (upd H30 a1 (.lst [.str ("a" : Str)])) a1 = some (.lst [.str ("a" : Str)]) := upd_same
            replace dc := dc.same z
            replace bc : But p H _ := bc.trans (But.same z)
            generalize upd H30 a1 (.lst [.str ("a" : Str)]) = H31 at g1 dc bc ⊢
            clear z m1
            refine ⟨(by show 2 ≤ sizeLine; decide), fun a2 m2 => ?_⟩
            have p2 := off_dice dc m2
            have z := same_upd (o := .tup [.str ("a" : Str), .int 1]) m2
            have g2 : (upd H31 a2 (.tup [.str ("a" : Str), .int 1])) a2 = some (.tup [.str ("a" : Str), .int 1]) := upd_same
            replace g1 := z _ _ g1
            replace dc := dc.same z
            replace bc : But p H _ := bc.trans (But.same z)
            generalize upd H31 a2 (.tup [.str ("a" : Str), .int 1]) = H32 at g1 g2 dc bc ⊢
            clear z m2
            refine ⟨(by show 1 ≤ sizeLine; decide), fun a3 m3 => ?_⟩
            have p3 := off_dice dc m3
            have z := same_upd (o := .tup [.str ("A" : Str)]) m3
            have g3 : (upd H32 a3 (.tup [.str ("A" : Str)])) a3 = some (.tup [.str ("A" : Str)]) := upd_same
            replace g1 := z _ _ g1
            replace g2 := z _ _ g2
            replace dc := dc.same z
            replace bc : But p H _ := bc.trans (But.same z)
            generalize upd H32 a3 (.tup [.str ("A" : Str)]) = H33 at g1 g2 g3 dc bc ⊢
            clear z m3
            refine ⟨(by show 1 ≤ sizeLine; decide), fun a4 m4 => ?_⟩
            have p4 := off_dice dc m4
            have z := same_upd (o := .tup [.str ("" : Str)]) m4
            have g4 : (upd H33 a4 (.tup [.str ("" : Str)])) a4 = some (.tup [.str ("" : Str)]) := upd_same
            replace g1 := z _ _ g1
            replace g2 := z _ _ g2
            replace g3 := z _ _ g3
            replace dc := dc.same z
            replace bc : But p H _ := bc.trans (But.same z)
            generalize upd H33 a4 (.tup [.str ("" : Str)]) = H34 at g1 g2 g3 g4 dc bc ⊢
            clear z m4
            refine fun a5 m5 => ?_
            have p5 := off_dice dc m5
            have z := same_upd (o := .dK []) m5
            have g5 : (upd H34 a5 (.dK [])) a5 = some (.dK []) := upd_same
            replace g1 := z _ _ g1
            replace g2 := z _ _ g2
            replace g3 := z _ _ g3
            replace g4 := z _ _ g4
            replace dc := dc.same z
            replace bc : But p H _ := bc.trans (But.same z)
            generalize upd H34 a5 (.dK []) = H35 at g1 g2 g3 g4 g5 dc bc ⊢
            clear z m5
            refine ⟨(by show 8 ≤ sizeLine; decide), fun lb nlb => ?_⟩
            have pb := off_dice dc nlb
            have z := same_upd (o := .lst [.non, .int 0, .str ("a" : Str), .ref a1, .ref a2, .ref a3, .ref a4, .ref a5]) nlb
            have glb : (upd H35 lb (.lst [.non, .int 0, .str ("a" : Str), .ref a1, .ref a2, .ref a3, .ref a4, .ref a5])) lb = some (.lst [.non, .int 0, .str ("a" : Str), .ref a1, .ref a2, .ref a3, .ref a4, .ref a5]) := upd_same
            replace g1 := z _ _ g1
            replace g2 := z _ _ g2
            replace g3 := z _ _ g3
            replace g4 := z _ _ g4
            replace g5 := z _ _ g5
            replace dc := dc.same z
            replace bc : But p H _ := bc.trans (But.same z)
            generalize upd H35 lb (.lst [.non, .int 0, .str ("a" : Str), .ref a1, .ref a2, .ref a3, .ref a4, .ref a5]) = H36 at g1 g2 g3 g4 g5 glb dc bc ⊢
            clear z nlb
            refine ⟨p, lb, [.non, .int 0, .str ("a" : Str), .ref a1, .ref a2, .ref a3, .ref a4, .ref a5], rfl, dc, SqL.of glb, pb.symm, (by show 0 < 8; decide), (by show 8 < 1000000; decide), fun r x H37 hx br dr => ?_⟩
            have bad : ∀ Hc, ButT p H36 Hc → NamesOf Hc x false := fun Hc sm => by
              have m := List.mem_of_getElem? hx
              simp only [List.mem_cons, List.not_mem_nil, or_false] at m
              have one : ∀ a y, a ≠ p → H36 a = some (.tup [V.str y]) → y.length ≤ 1000 → nameS y = false → NamesOf Hc (.ref a) false := fun a y na ha ly hy => by
                have e := NamesOf.tup (sm _ _ na (fun ps z => by cases z) ha) (all1 (okS ly)) (by show 1 ≤ 1000; decide)
                have f : [V.str y].all nameV = false := by
                  show (nameS y && true) = false
                  rw [hy]
                  rfl
                rwa [f] at e
              rcases m with rfl | rfl | rfl | rfl | rfl | rfl | rfl | rfl
              · exact .no .non (by decide)
              · exact .no (.int 0) (by decide)
              · exact .no (.str _) (by decide)
              · exact .no (.lst (sm _ _ p1 (fun ps z => by cases z) g1)) (by decide)
              · have e := NamesOf.tup (sm _ _ p2 (fun ps z => by cases z) g2) (all2 (okS (by decide)) (okI 1)) (by show 2 ≤ 1000; decide)
                have f : [V.str ("a" : Str), .int 1].all nameV = false := by decide +kernel
                rwa [f] at e
              · exact one a3 _ p3 g3 (by decide) (by decide +kernel)
              · exact one a4 _ p4 g4 (by decide) (by decide +kernel)
              · exact .no (.dK (sm _ _ p5 (fun ps z => by cases z) g5)) (by decide)
            have tb := tabs_but tabs hd (bc.trans br)
            have dd := dr
            refine ⟨tb, fun H38 ext tb2 => ?_⟩
            have d38 := dice_ext dr ext
            have b38 : ButT p H H38 := (ButT.of (bc.trans br)).trans (ButT.ext ext)
            have s38 : ButT p H36 H38 := (ButT.of br).trans (ButT.ext ext)
            refine ⟨_, rfl, fun dn ndn => ⟨x, .ref dn, false, rfl, bad _ (s38.trans (ButT.of (But.same (same_upd ndn)))), fun _ H39 s39 => ⟨false, T.M.pn, (fun z => nomatch z), fun _ => ⟨true, T.M.pp, fun _ => ?_, fun z => nomatch z⟩⟩, fun z => nomatch z⟩⟩
            have s40 := same_trans (same_upd (o := .dK []) ndn) s39
            have d40 := d38.same s40
            have b40 := b38.trans (ButT.of (But.same s40))
            have t40 := tabs_but tb2 d38 (But.same s40)
            clear bad g1 g2 g3 g4 g5 glb
            refine ⟨rfl, _, rfl, ?_⟩
            refine ite_yes (by decide) ?_
            refine ⟨(by show 1 ≤ sizeLine; decide), fun ta nta => ?_⟩
            have z := same_upd (o := .tup [.str ("a" : Str)]) nta
            have ata : (upd H39 ta (.tup [.str ("a" : Str)])) ta = some (.tup [.str ("a" : Str)]) := upd_same
            replace d40 := d40.same z
            replace b40 := b40.trans (ButT.of (But.same z))
            replace t40 := tabs_but t40 (d38.same s40) (But.same z)
            generalize upd H39 ta (.tup [.str ("a" : Str)]) = H41 at ata d40 b40 t40 ⊢
            clear z nta
            refine fun dk ndk => ⟨upd_same, [(Sum.inr ("a" : Str), .str ("B" : Str))], rfl, by decide, ?_⟩
            have e0 : upd (upd H41 dk (.dK [])) dk (.dK (mergeK [] [((Sum.inr ("a" : Str), .str ("B" : Str)) : L2.Key × V)])) = upd H41 dk (.dK [(Sum.inr ("a" : Str), .str ("B" : Str))]) := by
              funext b
              by_cases e : b = dk
              · rw [e, upd_same, upd_same]
                rfl
              · rw [upd_ne e, upd_ne e, upd_ne e]
            rw [e0]
            have z := same_upd (o := .dK [(Sum.inr ("a" : Str), .str ("B" : Str))]) ndk
            have adk : (upd H41 dk (.dK [(Sum.inr ("a" : Str), .str ("B" : Str))])) dk = some (.dK [(Sum.inr ("a" : Str), .str ("B" : Str))]) := upd_same
            replace ata := z _ _ ata
            have d41 := d40.same z
            replace b40 := b40.trans (ButT.of (But.same z))
            replace t40 := tabs_but t40 d40 (But.same z)
            generalize upd H41 dk (.dK [(Sum.inr ("a" : Str), .str ("B" : Str))]) = H42 at ata adk d41 b40 t40 ⊢
            clear z ndk e0 d40
            have nA : NamesOf H42 (.ref ta) true := by
              have e := NamesOf.tup ata (all1 (okS (by decide))) (by show 1 ≤ 1000; decide)
              have f : [V.str ("a" : Str)].all nameV = true := by decide +kernel
              rwa [f] at e
            have nB : NamingOf H42 [("a" : Str)] (.ref dk) false := by
              have e := NamingOf.dict (ns := [("a" : Str)]) adk (by show 1 ≤ 1000; decide) (all1 (okS (by decide)))
              have f : (Lx.keysV [((Sum.inr ("a" : Str), .str ("B" : Str)) : L2.Key × V)] [("a" : Str)] && diffV [V.str ("B" : Str)] 0) = false := by decide +kernel
              exact f ▸ e
            refine ⟨.ref ta, .ref dk, true, rfl, nA, (fun z => nomatch z), fun _ => ⟨ta, [("a" : Str)], false, rfl, ata, by show 1 ≤ 1000; decide, nB, fun H43 s43 => ⟨_, _, rfl, rfl, ?_⟩⟩⟩
            exact q H43 (b40.trans (ButT.of (But.same s43))) (d41.same s43) (tabs_but t40 d41 (But.same s43))
end
end Lx

/-! The law: fractions, what holds of the numbers. -/
namespace Lx
open PySem PySem.Spec PyProof.Rows L2 Fw LamX
theorem frac_facts (i j : Int) (hj : j ≠ 0) : ∃ a b : Int, fracT i j = .int a ∧ fracB i j = .int b ∧ a * j = b * i ∧ 1 ≤ b ∧ Nat.gcd a.natAbs b.natAbs = 1 ∧ a.natAbs ≤ i.natAbs ∧ b.natAbs ≤ j.natAbs := by
  have g0 : 0 < Nat.gcd i.natAbs j.natAbs := Nat.gcd_pos_of_pos_right _ (by omega)
  obtain ⟨d, hd, gd, sg⟩ : ∃ d : Int, divV i j = d ∧ d.natAbs = Nat.gcd i.natAbs j.natAbs ∧ ((d < 0 ∧ j < 0) ∨ (0 < d ∧ 0 < j)) := by
    refine ⟨divV i j, rfl, ?_, ?_⟩
    · unfold divV
      split <;> simp
    · unfold divV
      split <;> omega
  have d0 : d ≠ 0 := by omega
  obtain ⟨a, ha⟩ : d ∣ i := Int.natAbs_dvd_natAbs.mp (by rw [gd]; exact Nat.gcd_dvd_left _ _)
  obtain ⟨b, hb⟩ : d ∣ j := Int.natAbs_dvd_natAbs.mp (by rw [gd]; exact Nat.gcd_dvd_right _ _)
  have ea : i.fdiv d = a := by rw [ha, Int.mul_fdiv_cancel_left a d0]
  have eb : j.fdiv d = b := by rw [hb, Int.mul_fdiv_cancel_left b d0]
  have na : i.natAbs = d.natAbs * a.natAbs := by rw [ha, Int.natAbs_mul]
  have nb : j.natAbs = d.natAbs * b.natAbs := by rw [hb, Int.natAbs_mul]
  have dp : 0 < d.natAbs := by omega
  refine ⟨a, b, ?_, ?_, ?_, ?_, ?_, ?_, ?_⟩
  · unfold fracT
    rw [hd, ea]
  · unfold fracB
    rw [hd, eb]
  · rw [hb]
    have e : b * i = b * (d * a) := by rw [ha]
    rw [e, Int.mul_left_comm a d b, Int.mul_left_comm b d a, Int.mul_comm a b]
  · have b0 : b ≠ 0 := fun z => by
      rw [z, Int.mul_zero] at hb
      exact hj hb
    by_cases neg : b < 0
    · rcases sg with ⟨s1, s2⟩ | ⟨s1, s2⟩
      · have := Int.mul_pos_of_neg_of_neg s1 neg
        omega
      · have := Int.mul_neg_of_pos_of_neg s1 neg
        omega
    · omega
  · rw [na, nb, Nat.gcd_mul_left] at gd
    have e : d.natAbs * Nat.gcd a.natAbs b.natAbs = d.natAbs * 1 := by rw [Nat.mul_one]; exact gd.symm
    exact Nat.eq_of_mul_eq_mul_left dp e
  · rw [na]
    exact Nat.le_mul_of_pos_left _ dp
  · rw [nb]
    exact Nat.le_mul_of_pos_left _ dp
/-- the greatest factor -/
def TIMES : Int := 10 ^ Int.toNat 20
def timesV : List V := [.int 1, .int 7, .int 12, .int (10 ^ Int.toNat 20)]
theorem timesV_ok : ∀ x ∈ timesV, ∃ m : Int, x = .int m ∧ 1 ≤ m ∧ m ≤ TIMES := by
  have k : ∀ m ∈ ([1, 7, 12, 10 ^ Int.toNat 20] : List Int), 1 ≤ m ∧ m ≤ TIMES := by decide +kernel
  intro x m
  have e : timesV = ([1, 7, 12, 10 ^ Int.toNat 20] : List Int).map V.int := rfl
  rw [e] at m
  obtain ⟨i, mi, rfl⟩ := List.mem_map.mp m
  exact ⟨i, rfl, k i mi⟩
theorem times_val : TIMES = 100000000000000000000 := by decide +kernel
theorem bnd_mul {a b A B : Int} (ha : -A ≤ a) (ha2 : a ≤ A) (hb0 : 0 ≤ b) (hb : b ≤ B) : -(A * B) ≤ a * b ∧ a * b ≤ A * B := by
  have A0 : 0 ≤ A := by omega
  have h1 : a * b ≤ A * b := Int.mul_le_mul_of_nonneg_right ha2 hb0
  have h2 : A * b ≤ A * B := Int.mul_le_mul_of_nonneg_left hb A0
  have h3 : (-A) * b ≤ a * b := Int.mul_le_mul_of_nonneg_right ha hb0
  have h4 : (-A) * b = -(A * b) := Int.neg_mul _ _
  omega
theorem int_ok {i : Int} (h : i.natAbs ≤ 100000000000000000000000) : intV (.int i) = true := by
  show (decide (-BB < i) && decide (i < BB)) = true
  have b : (100000000000000000000000 : Int) < BB := by decide
  rw [Bool.and_eq_true, decide_eq_true_eq, decide_eq_true_eq]
  omega
/-- judged as a fraction: the law's own look -/
def tPair : TE := fun σ H Q => ∃ (a : Addr) (x y : Int), σ[6]? = some (some (.ref a)) ∧ H a = some (.tup [.int x, .int y]) ∧ Q (.bl (pairV (.int x) (.int y))) H
/-- a value with the data that its repr tells, whatever else is done -/
structure Told (K : PySem.W.Frag) (p : Addr) (H : Hp) (v : V) (d : PyData) : Prop where
  rp : ∀ Hc, ButT p H Hc → Rp K Hc v d
  ok : ∀ Hc, ButT p H Hc → Vok Hc v
  sh : d.showable = true
  dp : d.depth ≤ 40
  ln : d.shown.length ≤ 100
  st : PyData.strOk (("number " : Str) ++ d.shown) = true
theorem Told.but {K : PySem.W.Frag} {p : Addr} {H H' : Hp} {v : V} {d : PyData} (t : Told K p H v d) (b : ButT p H H') : Told K p H' v d :=
  ⟨fun Hc c => t.rp Hc (b.trans c), fun Hc c => t.ok Hc (b.trans c), t.sh, t.dp, t.ln, t.st⟩
theorem ButT.refl {p : Addr} {H : Hp} : ButT p H H := fun _ _ _ _ e => e
section
variable {K : PySem.W.Frag} {p : Addr} {H : Hp}
theorem told_non : Told K p H .non .none := ⟨fun _ _ => .non, fun _ _ => okN, by decide +kernel, by decide +kernel, by decide +kernel, by decide +kernel⟩
theorem told_bl (b : Bool) : Told K p H (.bl b) (.bool b) := ⟨fun _ _ => .bl b, fun _ _ => okB b, by cases b <;> decide +kernel, by cases b <;> decide +kernel, by cases b <;> decide +kernel, by cases b <;> decide +kernel⟩
theorem told_int {i : Int} (s : (PyData.int i).showable = true) (d : (PyData.int i).depth ≤ 40) (l : (PyData.int i).shown.length ≤ 100) (st : PyData.strOk (("number " : Str) ++ (PyData.int i).shown) = true) : Told K p H (.int i) (.int i) := ⟨fun _ _ => .int i, fun _ _ => okI i, s, d, l, st⟩
theorem told_str {x : Str} (n : x.length ≤ 1000) (s : (PyData.str x).showable = true) (d : (PyData.str x).depth ≤ 40) (l : (PyData.str x).shown.length ≤ 100) (st : PyData.strOk (("number " : Str) ++ (PyData.str x).shown) = true) : Told K p H (.str x) (.str x) := ⟨fun _ _ => .str x, fun _ _ => okS n, s, d, l, st⟩
theorem told_tup1 {a : Addr} (n : a ≠ p) (e : H a = some (.tup [.int 1])) : Told K p H (.ref a) (.tuple [.int 1]) :=
  ⟨fun Hc b => Rp.tup (b _ _ n (fun ps z => by cases z) e) (.cons (.int 1) .nil), fun Hc b => ⟨⟨_, .tup (b _ _ n (fun ps z => by cases z) e)⟩, fun _ z => by cases z⟩, by decide +kernel, by decide +kernel, by decide +kernel, by decide +kernel⟩
theorem told_lst0 {a : Addr} (s : a ≠ sysModules) (n : a ≠ p) (e : H a = some (.lst [])) : Told K p H (.ref a) (.list []) :=
  ⟨fun Hc b => Rp.lst s (SqL.of (b _ _ n (fun ps z => by cases z) e)) .nil, fun Hc b => ⟨⟨_, .lst (b _ _ n (fun ps z => by cases z) e)⟩, fun _ z => by cases z⟩, by decide +kernel, by decide +kernel, by decide +kernel, by decide +kernel⟩
/-- the empty dict -/
theorem rp_dict0 {H : Hp} {a : Addr} (h : H a = some (.dK [])) : Rp K H (.ref a) (.dict []) := fun H' X pins σ s u sm e I r => by
  cases r
  have ok : ObjOk X.prog X.w H' s.heap a (.dK []) := I.hok a _ (sm _ _ h)
  obtain ⟨_, hs, vs, kv, o, es, ep, ho, hx, hd, _, hp, _⟩ := ok
  cases kv
  generalize hl : es.toList = l at hp
  cases hp
  have r1 : ReadsAll s.heap (es.toList.map (·.key)) (([] : List (PyData × PyData)).map (·.1)) [] := by
    rw [hl]
    exact ReadsAll.nil
  have r2 : ReadsAll s.heap (es.toList.map (·.val)) (([] : List (PyData × PyData)).map (·.2)) [] := by
    rw [hl]
    exact ReadsAll.nil
  refine ⟨_, Reads.dict ho hx.1 hd r1 r2, fun m => ?_⟩
  have ne : a ≠ sysModules := by simpa using hs
  rcases List.mem_cons.mp m with z | z
  · exact ne z.symm
  · simp at z
theorem told_dict0 {a : Addr} (n : a ≠ p) (e : H a = some (.dK [])) : Told K p H (.ref a) (.dict []) :=
  ⟨fun Hc b => rp_dict0 (b _ _ n (fun ps z => by cases z) e), fun Hc b => ⟨⟨_, .dK (b _ _ n (fun ps z => by cases z) e)⟩, fun _ z => by cases z⟩, by decide +kernel, by decide +kernel, by decide +kernel, by decide +kernel⟩
end
end Lx

/-! The law: fractions, walked. -/
namespace Lx
open PySem PySem.Spec PyProof.Rows L2 Fw LamX
abbrev nF : List Str := ["_law_dice_here", "_law_sign", "_law_times", "_law_top", "_law_bottom", "_law_found", "_law_pair", "_law_due", "_law_odd", "_law_bad", "_law_wrong", "_law_told", "_law_value"]
def qFra : Str := (("_law_fractions_right" : Str) ++ (".<locals>." : Str)) ++ ("<lambda>" : Str)
theorem abs_nat (x : Int) : (if x < 0 then -x else x) = ((x.natAbs : Nat) : Int) := by split <;> omega
theorem pair_pos {x : Int} {n : Nat} (h : (0 : Int) < (n : Int)) : pairV (.int x) (.int (n : Int)) = decide (V.int ((Nat.gcd x.natAbs n : Nat) : Int) = V.int 1) := by
  show (decide ((1 : Int) ≤ (n : Int)) && decide (Nat.gcd x.natAbs ((n : Int)).natAbs = 1)) = _
  rw [decide_eq_true (show (1 : Int) ≤ (n : Int) by omega), Bool.true_and, Int.natAbs_natCast, Bool.eq_iff_iff, decide_eq_true_eq, decide_eq_true_eq]
  constructor
  · intro e
    rw [e]
    rfl
  · intro e
    injection e with e
    omega
theorem pair_neg {x y : Int} (h : ¬ decide (0 < y) = true) : pairV (.int x) (.int y) = false := by
  show (decide (1 ≤ y) && decide (Nat.gcd x.natAbs y.natAbs = 1)) = false
  have z : ¬ 0 < y := fun l => h (decide_eq_true l)
  rw [decide_eq_false (show ¬ 1 ≤ y by omega), Bool.false_and]
theorem all3 {H : Hp} {x y z : V} (a : Vok H x) (b : Vok H y) (c : Vok H z) : ∀ v ∈ [x, y, z], Vok H v := fun v m => (List.mem_cons.mp m).elim (fun e => by rw [e]; exact a) (all2 b c v)
theorem eqv_two (a b : Str) : PyData.eqv (.list ([a, b].map PyData.str)) (.list ([a, b].map PyData.str)) = true := by
  show PyData.eqvAll [.str a, .str b] [.str a, .str b] = true
  simp [PyData.eqvAll, PyData.eqv]
theorem tabs_off {T : List (Addr × Str)} {H H' : Hp} {l : Addr} {xs : List V} (t : Tabs T H) (al : H l = some (.lst xs)) (off : ∀ b o, H b = some o → b ≠ l → H' b = some o) : Tabs T H' := by
  intro x mx
  obtain ⟨ps, h1, h2, h3⟩ := t x mx
  refine ⟨ps, off _ _ h1 (fun z => ?_), h2, fun pos cv hc => ?_⟩
  · rw [z, al] at h1
    cases h1
  · obtain ⟨c, e1, e2⟩ := h3 pos cv hc
    refine ⟨c, e1, off _ _ e2 (fun z => ?_)⟩
    rw [z, al] at e2
    unfold CodeO at e2
    cases e2
theorem iO_value : InitOk "value" := ⟨by intros; rfl, by intros; rfl, by intros; rfl, by intros; rfl, by intros; rfl, by intros; rfl, by decide +kernel⟩
section
variable {P : Program} {w : World} {K : PySem.W.Frag} {mg : Str → Option Value} {base : Heap}
structure TxF (K : PySem.W.Frag) (mg : Str → Option Value) (CN CP CI fR fP fI fW fF fG fC gM : Addr) (dR dP dI dW dF dG dC dM : FuncData) (cM : Value) : Prop where
  W : TxW K mg
  P : TxP K mg fR fP dR dP
  M : TxM K mg CN CP gM dM cM
  X : ExK K mg "InvalidNumber" CN CI
  rpr : mg "repr" = none
  abs : mg "abs" = none
  gcd : mg "gcd" = some (.builtin "math.gcd")
  mI : mg "is_integer" = some (.ref fI)
  FI : Fun K "is_integer" "is_integer" sInteger fI dI
  bI : Binds K dI ["value"] []
  mW : mg "_is_whole" = some (.ref fW)
  FW : Fun K "_is_whole" "_is_whole" sWhole fW dW
  bW : Binds K dW ["value"] []
  mF : mg "is_fraction" = some (.ref fF)
  FF : Fun K "is_fraction" "is_fraction" sIsFraction fF dF
  bF : Binds K dF ["value"] []
  mG : mg "fraction" = some (.ref fG)
  FG : Fun K "fraction" "fraction" sFraction fG dG
  bG : Binds K dG ["top", "bottom"] []
  mC : mg "_law_common" = some (.ref fC)
  FC : Fun K "_law_common" "_law_common" sCommon fC dC
  bC : Binds K dC ["_law_one", "_law_other"] []
theorem scFractions : FnScope nF ["_law_dice_here"] (defScope sFractions) := ⟨rfl, rfl, rfl, by decide +kernel, rfl, by decide +kernel, by decide +kernel⟩
theorem ok_fractions {f c Pt CN CP CI fR fP fI fW fF fG fC gM : Addr} {fd dR dP dI dW dF dG dC dM : FuncData} {cM : Value} {Ts : List (Addr × Str)} (F : FunC K "_law_fractions_right" "_law_fractions_right" sFractions f fd (.ref c))
    (T : TxF K mg CN CP CI fR fP fI fW fF fG fC gM dR dP dI dW dF dG dC dM cM) (TB : TabB base mg c Pt) (hmT : (Pt, qFra) ∈ Ts) (huT : ∀ p ∈ Ts, p.1 = Pt → p.2 = qFra) :
    FnG P w K mg base CX0 6 f fd ["_law_dice_here"] (spTrueT Ts) := by
  have GR : FnG P w K mg base CX0 1 fR dR ["_law_dice_here", "_law_total"] spRoll := ok_roll T.P.FR T.P.D
  have GP : FnG P w K mg base CX0 2 fP dP ["_law_dice_here", "_law_items"] (spPick K) := ok_pick T.P.FP T.P.D T.P.mR T.P.FR T.P.bR
  have GC : FnG P w K mg base CX0 1 fC dC ["_law_one", "_law_other"] spCommon := ok_common T.FC
  have GF : FnG P w K mg base CX0 2 fF dF ["value"] spFrac := ok_isFraction T.FF T.W T.gcd T.mW T.FW T.bW
  have GG0 : FnV false P w K mg base (L2.CX P w) 3 fG dG ["top", "bottom"] (spFraction CN) := ok_fraction T.FG T.W T.X iO_value T.gcd T.mI T.FI T.bI T.mW T.FW T.bW
  have GG : FnV true P w K mg base (L2.CX P w) 3 fG dG ["top", "bottom"] (spFraction CN) := GG0.any
  obtain ⟨ocM, odM, kVM, docM, pmM, anM, ctM, oslM, rfl, lkM, cdM⟩ := T.M.F.ex
  have bM := T.M.b
  refine fnC F scFractions (fun vs H Q E h => ?_) (fun A fr s H vs Q E hGt hr h => ?_)
  · obtain ⟨p, rfl, _⟩ := h
    rfl
  · obtain ⟨p, rfl, hd, tabs, q⟩ := h
    have hG : A.guards = some [] := hGt rfl
    have hr1 := hr.mono (show 1 ≤ 5 by decide)
    have hr2 := hr.mono (show 2 ≤ 5 by decide)
    have hr3 := hr.mono (show 3 ≤ 5 by decide)
    refine ⟨_, (pss_cons (ps_par (i := 1) (j := 2) (by rfl) scFractions.nd rfl rfl (by decide) rfl rfl (pa_cons (pe_callG (E := fun _ _ _ _ => False) hG GP hr2 (by rfl) T.P.mP T.P.FP.kp T.P.bP .nil (fun _ => passAt0) (pa_cons (pv 0) (pa_cons (pe_lst (pa_cons pe_int (pa_cons (pe_op op_sub pe_int pe_int) pa_nil))) pa_nil))) (pa_cons (pe_callG (E := fun _ _ _ _ => False) hG GP hr2 (by rfl) T.P.mP T.P.FP.kp T.P.bP .nil (fun _ => passAt0) (pa_cons (pv 0) (pa_cons (pe_lst (pa_cons pe_int (pa_cons pe_int (pa_cons pe_int (pa_cons (pe_op op_pow pe_int pe_int) pa_nil))))) pa_nil))) pa_nil)) (by rfl))
      (pss_cons (ps_par (i := 3) (j := 4) (by rfl) scFractions.nd rfl rfl (by decide) rfl rfl (pa_cons (pe_op op_mulW (pe_op op_sub (pe_callG (E := fun _ _ _ _ => False) hG GR hr1 (by rfl) T.P.mR T.P.FR.kp T.P.bR .nil (fun _ => passAt0) (pa_cons (pv 0) (pa_cons pe_int pa_nil))) pe_int) (pv 2)) (pa_cons (pe_op op_mulW (pe_op op_mulW (pv 1) (pe_op op_add pe_int (pe_callG (E := fun _ _ _ _ => False) hG GR hr1 (by rfl) T.P.mR T.P.FR.kp T.P.bR .nil (fun _ => passAt0) (pa_cons (pv 0) (pa_cons pe_int pa_nil))))) (pv 2)) pa_nil)) (by rfl))
      (pss_cons (ps_set (i := 5) scFractions.nd rfl (Or.inl rfl) (pe_callV (gg := true) (E := WE fun _ _ _ _ => False) (fun _ => hG) GG hr3 (by rfl) T.mG T.FG.kp T.bG .nil (fun σ => passAt L2.takes0 σ) (pa_cons (pv 3) (pa_cons (pv 4) pa_nil))))
      (pss_cons (ps_if (PW.pt (pw_or (pt_not (pt_val (pe_is (t := "tuple") (.inr (.inr (.inr (.inl rfl)))) (by rfl) T.W.isi (by rfl) T.W.tuple (by decide +kernel) (pv 5) mono_var))) (pw_or (pt_cmpR op_ne (pe_op op_mulW (pe_ix ix_tup (pv 5) pe_int (fun _ _ => rfl)) (pv 4)) (pe_op op_mulW (pe_ix ix_tup (pv 5) pe_int (fun _ _ => rfl)) (pv 3)) (nomark _)) (pw_or1 (pt_cmpR op_lt (pe_ix ix_tup (pv 5) pe_int (fun _ _ => rfl)) pe_int (nomark _)))))) (pss_one (ps_ret pe_bl)) pss_nil)
      (pss_cons (ps_if (PW.pt (pw_or (pt_cmpR op_ne (pe_callG (E := fun _ _ _ _ => False) hG GC hr1 (by rfl) T.mC T.FC.kp T.bC .nil (fun _ => passAt0) (pa_cons (pe_callB call_abs (by rfl) T.abs (by decide +kernel) (pa_cons (pe_ix ix_tup (pv 5) pe_int (fun _ _ => rfl)) pa_nil)) (pa_cons (pe_ix ix_tup (pv 5) pe_int (fun _ _ => rfl)) pa_nil))) pe_int (nomark _)) (pw_or1 (pt_cmpR op_notBl (pe_callG (E := fun _ _ _ _ => False) hG GF hr2 (by rfl) T.mF T.FF.kp T.bF .nil (fun _ => passAt0) (pa_cons (pv 5) pa_nil)) pe_bl (nomark _))))) (pss_one (ps_ret pe_bl)) pss_nil)
      (pss_cons (ps_set (i := 6) scFractions.nd rfl (Or.inl rfl) (pe_tup (pa_cons (pe_op op_sub (pe_callG (E := fun _ _ _ _ => False) hG GR hr1 (by rfl) T.P.mR T.P.FR.kp T.P.bR .nil (fun _ => passAt0) (pa_cons (pv 0) (pa_cons pe_int pa_nil))) pe_int) (pa_cons (pe_op op_sub (pe_callG (E := fun _ _ _ _ => False) hG GR hr1 (by rfl) T.P.mR T.P.FR.kp T.P.bR .nil (fun _ => passAt0) (pa_cons (pv 0) (pa_cons pe_int pa_nil))) pe_int) pa_nil))))
      (pss_cons (ps_set (i := 7) scFractions.nd rfl (Or.inl rfl) (pe_weak (t' := tPair) (pe_and (pe_cmpR op_gt (pe_ix ix_tup (pv 6) pe_int (fun _ _ => rfl)) pe_int (nomark _)) (pe_one (pe_cmpR op_eq (pe_callG (E := fun _ _ _ _ => False) hG GC hr1 (by rfl) T.mC T.FC.kp T.bC .nil (fun _ => passAt0) (pa_cons (pe_callB call_abs (by rfl) T.abs (by decide +kernel) (pa_cons (pe_ix ix_tup (pv 6) pe_int (fun _ _ => rfl)) pa_nil)) (pa_cons (pe_ix ix_tup (pv 6) pe_int (fun _ _ => rfl)) pa_nil))) pe_int (nomark _)))) (by
        rintro σ H Q ⟨a, x, y, e6, ha, q⟩
        refine ⟨_, e6, a, _, 1, _, rfl, rfl, SqT.of ha, rfl, _, _, rfl, rfl, _, rfl, ?_⟩
        refine ite2 (fun c => ?_) (fun c => ?_)
        · have pos : 0 < y := of_decide_eq_true c
          obtain ⟨n, rfl⟩ : ∃ n : Nat, y = (n : Int) := ⟨y.toNat, by omega⟩
          refine ⟨_, e6, a, _, 0, _, rfl, rfl, SqT.of ha, rfl, x, rfl, ?_⟩
          rw [abs_nat]
          refine ⟨_, e6, a, _, 1, _, rfl, rfl, SqT.of ha, rfl, x.natAbs, n, rfl, rfl, ?_⟩
          rw [pair_pos pos] at q
          exact q
        · rw [pair_neg c] at q
          exact q)))
      (pss_cons (ps_if (PW.pt (pw_or (pt_cmpR op_ne (pe_callB (call_repr (K := K) rfl hG hr.units) (by rfl) T.rpr (by decide +kernel) (pa_cons (pe_callG (E := fun _ _ _ _ => False) hG GF hr2 (by rfl) T.mF T.FF.kp T.bF .nil (fun _ => passAt0) (pa_cons (pv 6) pa_nil)) pa_nil)) (pe_callB (call_repr (K := K) rfl hG hr.units) (by rfl) T.rpr (by decide +kernel) (pa_cons (pv 7) pa_nil)) (nomark _)) (pw_or1 (pt_cmpR op_notBl (pe_callG (E := fun _ _ _ _ => False) hG GF hr2 (by rfl) T.mF T.FF.kp T.bF .nil (fun _ => passAt0) (pa_cons (pe_tup (pa_cons (pe_op op_mulW (pe_op op_pow pe_int pe_int) (pe_op op_pow pe_int pe_int)) (pa_cons (pe_op op_add (pe_op op_mulW (pe_op op_pow pe_int pe_int) (pe_op op_pow pe_int pe_int)) pe_int) pa_nil))) pa_nil)) pe_bl (nomark _))))) (pss_one (ps_ret pe_bl)) pss_nil)
      (pss_cons (ps_set (i := 8) scFractions.nd rfl (Or.inl rfl) (pe_lst (pa_cons (pe_tup (pa_cons pe_int (pa_cons pe_bl pa_nil))) (pa_cons (pe_tup (pa_cons pe_bl (pa_cons pe_int pa_nil))) (pa_cons (pe_tup (pa_cons pe_int pa_nil)) (pa_cons (pe_tup (pa_cons pe_int (pa_cons pe_int (pa_cons pe_int pa_nil)))) (pa_cons (pe_lst (pa_cons pe_int (pa_cons pe_int pa_nil))) (pa_cons (pe_tup (pa_cons pe_str (pa_cons pe_int pa_nil))) (pa_cons (pe_tup (pa_cons pe_int (pa_cons pe_non pa_nil))) (pa_cons (pe_tup (pa_cons pe_int (pa_cons pe_int pa_nil))) (pa_cons (pe_tup (pa_cons pe_int (pa_cons (pe_op op_sub pe_int pe_int) pa_nil))) (pa_cons (pe_tup (pa_cons pe_int (pa_cons pe_int pa_nil))) (pa_cons (pe_tup (pa_cons pe_int (pa_cons pe_int pa_nil))) pa_nil)))))))))))))
      (pss_cons (ps_if (pt_cmpR (op_neD hr.units) (pe_lc (own := [("_law_value", 12)]) (g := gName 12) (by rfl) scFractions.nd (pi_list (pv 8)) (blkOk_by (N := nF) (sc := defScope sFractions) (own := [("_law_value", 12)]) (by decide +kernel)) (fun _ _ _ _ _ => pg_name (i := 12) scFractions.nd rfl (Or.inl rfl)) (fun _ _ _ _ _ => pts_one (pt_cmpR op_notBl (pe_callG (E := fun _ _ _ _ => False) hG GF hr2 (by rfl) T.mF T.FF.kp T.bF .nil (fun _ => passAt0) (pa_cons (pv 12) pa_nil)) pe_bl (nomark _))) (fun _ _ _ _ _ => (pv 12))) (pe_lst pa_nil) (nomark _)) (pss_one (ps_ret pe_bl)) pss_nil)
      (pss_cons (ps_set (i := 9) scFractions.nd rfl (Or.inr rfl) (pe_callG (E := fun _ _ _ _ => False) hG GP hr2 (by rfl) T.P.mP T.P.FP.kp T.P.bP .nil (fun _ => passAt0) (pa_cons (pv 0) (pa_cons (pe_lst (pa_cons pe_non (pa_cons pe_bl (pa_cons pe_str (pa_cons (pe_tup (pa_cons pe_int pa_nil)) (pa_cons (pe_lstN pa_nil) (pa_cons pe_dnewK (pa_cons (pe_op op_pow pe_int pe_int) pa_nil)))))))) pa_nil))))
      (pss_cons (ps_set (i := 10) scFractions.nd rfl (Or.inr rfl) (pe_callG (E := fun _ _ _ _ => False) hG GP hr2 (by rfl) T.P.mP T.P.FP.kp T.P.bP .nil (fun _ => passAt0) (pa_cons (pv 0) (pa_cons (pe_lst (pa_cons pe_int (pa_cons pe_non (pa_cons pe_bl (pa_cons pe_str (pa_cons (pe_tup (pa_cons pe_int pa_nil)) (pa_cons (pe_lstN pa_nil) (pa_cons (pe_op op_sub pe_int (pe_op op_pow pe_int pe_int)) pa_nil)))))))) pa_nil))))
      (pss_cons (ps_set (i := 11) scFractions.nd rfl (Or.inl rfl) (pe_lst (pa_cons (pe_lamcall (by rfl) T.M.m T.M.kp lkM cdM bM scMet rfl (Or.inl rfl) (met_gives (k := 4) hG hr T.M.gN T.M.gP T.M.rpr T.M.xf T.M.noF) TB rfl hmT huT (k := 3) hr (lamS_by (by show lamSB (defScope sFractions) _ = true; decide +kernel)) (by rfl) (by intros; rfl)
        (fun A outer s H E f c' hr2 => pe_callV (gg := false) (E := WE (fun cls d _ H => E cls d H)) (fun z => nomatch z) GG0 hr2 (by rfl) T.mG T.FG.kp T.bG .nil (fun σ => passAt (takes_of rfl rfl rfl rfl) σ) (pa_cons (pv 9) (pa_cons (pv 10) pa_nil)))) pa_nil)))
      (pss_cons (ps_expr (pe_bm PySem.F.plainAttrs_list PySem.F.slot_list_append PySem.F.type_list_append mt_append (pv 11) (pa_cons (pe_lamcall (by rfl) T.M.m T.M.kp lkM cdM bM scMet rfl (Or.inl rfl) (met_gives (k := 4) hG hr T.M.gN T.M.gP T.M.rpr T.M.xf T.M.noF) TB rfl hmT huT (k := 3) hr (lamS_by (by show lamSB (defScope sFractions) _ = true; decide +kernel)) (by rfl) (by intros; rfl)
        (fun A outer s H E f c' hr2 => pe_callV (gg := false) (E := WE (fun cls d _ H => E cls d H)) (fun z => nomatch z) GG0 hr2 (by rfl) T.mG T.FG.kp T.bG .nil (fun σ => passAt (takes_of rfl rfl rfl rfl) σ) (pa_cons pe_int (pa_cons (pv 10) pa_nil)))) pa_nil)))
      (pss_one (ps_ret (pe_cmpR (op_eqD hr.units) (pv 11) (pe_lst (pa_cons (pe_op op_add_str pe_str (pe_callB (call_repr (K := K) rfl hG hr.units) (by rfl) T.rpr (by decide +kernel) (pa_cons (pv 9) pa_nil))) (pa_cons (pe_op op_add_str pe_str (pe_callB (call_repr (K := K) rfl hG hr.units) (by rfl) T.rpr (by decide +kernel) (pa_cons (pv 10) pa_nil))) pa_nil))) (nomark _)))))))))))))))))), ?_⟩
    have hd0 := hd
    have pw : ∀ k : Nat, k ≤ 100 → CPow 10 (k : Int) := fun k hk => ⟨by omega, by omega, by decide⟩
    refine ⟨_, rfl, _, _, rfl, rfl, (by show 2 ≤ sizeLine; decide), fun b nb => ?_⟩
    have z := same_upd (o := .lst [.int 1, .int (0 - 1)]) nb
    refine ⟨p, b, [.int 1, .int (0 - 1)], rfl, hd.same z, SqL.of upd_same, (off_dice hd nb).symm, by decide, by decide, fun r x H1 hx b1 d1 => ?_⟩
    obtain ⟨sg, rfl, sg1⟩ : ∃ sg : Int, x = .int sg ∧ sg.natAbs = 1 := by
      have m := List.mem_of_getElem? hx
      simp only [List.mem_cons, List.not_mem_nil, or_false] at m
      rcases m with rfl | rfl
      · exact ⟨1, rfl, rfl⟩
      · exact ⟨0 - 1, rfl, rfl⟩
    replace b1 : But p H H1 := (But.same z).trans b1
    clear z nb hx
    refine ⟨_, rfl, _, _, rfl, rfl, pw 20 (by decide), (by show 4 ≤ sizeLine; decide), fun b nb => ?_⟩
    have z := same_upd (o := .lst timesV) nb
    refine ⟨p, b, timesV, rfl, d1.same z, SqL.of upd_same, (off_dice d1 nb).symm, by decide, by decide, fun r x H2 hx b2 d2 => ?_⟩
    obtain ⟨ti, rfl, t1, t2⟩ := timesV_ok x (List.mem_of_getElem? hx)
    replace b2 : But p H H2 := b1.trans ((But.same z).trans b2)
    clear z nb hx b1 d1
    rw [times_val] at t2
    refine ⟨_, _, rfl, ?_⟩
    refine ⟨_, rfl, p, 90, rfl, d2, by decide, by decide, fun r1 H3 r10 r11 b3 d3 => ⟨_, _, rfl, rfl, _, rfl, _, _, rfl, rfl, ?_, ?_⟩⟩
    · exact wide_mul (a := 10) (b := 80) (by omega) (by omega) (by decide) (by decide) (by decide)
    obtain ⟨top, etop⟩ : ∃ top : Int, (r1 - 40) * ti = top := ⟨_, rfl⟩
    have btop : top.natAbs ≤ 100000000000000000000000 := by
      have z := bnd_mul (a := r1 - 40) (A := 100) (b := ti) (B := 100000000000000000000) (by omega) (by omega) (by omega) t2
      rw [etop] at z
      omega
    replace b3 : But p H H3 := b2.trans b3
    clear b2 d2
    refine ⟨_, rfl, _, rfl, p, 40, rfl, d3, by decide, by decide, fun r2 H4 r20 r21 b4 d4 => ⟨_, _, rfl, rfl, _, _, rfl, rfl, ?_, _, rfl, _, _, rfl, rfl, ?_, ?_⟩⟩
    · exact wide_mul (a := 10) (b := 10) (by omega) (by omega) (by decide) (by decide) (by decide)
    · refine wide_mul (a := 10) (b := 80) ?_ (by omega) (by decide) (by decide) (by decide)
      rw [Int.natAbs_mul, sg1]
      omega
    obtain ⟨bot, ebot⟩ : ∃ bot : Int, sg * (1 + r2) * ti = bot := ⟨_, rfl⟩
    have bbot : bot.natAbs ≤ 100000000000000000000000 ∧ bot ≠ 0 := by
      have e : bot.natAbs = (1 + r2).natAbs * ti.natAbs := by
        rw [← ebot, Int.natAbs_mul, Int.natAbs_mul, sg1, Nat.one_mul]
      have z : (1 + r2).natAbs * ti.natAbs ≤ 100 * 100000000000000000000 := Nat.mul_le_mul (by omega) (by omega)
      have z2 : 0 < (1 + r2).natAbs * ti.natAbs := Nat.mul_pos (by omega) (by omega)
      omega
    replace b4 : But p H H4 := b3.trans b4
    clear b3 d3
    refine ⟨_, _, rfl, ?_⟩
    dsimp only
    rw [etop, ebot]
    clear etop ebot r10 r11 r20 r21 t1 t2 sg1
    obtain ⟨fa, fb, ea, eb, cross, b1, cop, la, lb⟩ := frac_facts top bot bbot.2
    have inT : intV (.int top) = true := int_ok btop
    have inB : intV (.int bot) = true := int_ok bbot.1
    refine ⟨_, rfl, _, rfl, .int top, .int bot, rfl, okI top, okI bot, (fun z => by rw [inT] at z; cases z), (fun _ z => by
      rcases z with z | z
      · rw [inB] at z
        cases z
      · injection z with z
        exact (bbot.2 z).elim), fun i j ei ej _ _ _ pf npf => ?_⟩
    injection ei with ei
    injection ej with ej
    subst ei ej
    rw [ea, eb]
    have z := same_upd (o := .tup [.int fa, .int fb]) npf
    have atf : (upd H4 pf (.tup [.int fa, .int fb])) pf = some (.tup [.int fa, .int fb]) := upd_same
    have pfp := off_dice d4 npf
    replace d4 := d4.same z
    replace b4 : But p H _ := b4.trans (But.same z)
    generalize upd H4 pf (.tup [.int fa, .int fb]) = H5 at atf d4 b4 ⊢
    clear z npf ea eb inT inB
    have at0 : atI [V.int fa, .int fb] 0 = some (.int fa) := rfl
    have at1 : atI [V.int fa, .int fb] 1 = some (.int fb) := rfl
    refine ⟨_, rfl, _, .tup atf, _, rfl, ?_⟩
    refine ite_no (by decide) ?_
    refine ⟨_, rfl, pf, _, _, _, rfl, rfl, SqT.of atf, at0, _, rfl, _, _, rfl, rfl, ?_, _, rfl, pf, _, _, _, rfl, rfl, SqT.of atf, at1, _, rfl, _, _, rfl, rfl, ?_, ?_⟩
    · exact wide_mul (a := 80) (b := 80) (by omega) (by omega) (by decide) (by decide) (by decide)
    · exact wide_mul (a := 80) (b := 80) (by omega) (by omega) (by decide) (by decide) (by decide)
    refine ⟨rfl, _, rfl, ?_⟩
    refine ite_no (by show (!decide (V.int (fa * bot) = V.int (fb * top))) = false; rw [cross]; simp) ?_
    refine ⟨_, rfl, pf, _, _, _, rfl, rfl, SqT.of atf, at1, _, _, rfl, rfl, _, rfl, ?_⟩
    refine ite_no (decide_eq_false (by omega)) ?_
    obtain ⟨nb, rfl⟩ : ∃ nb : Nat, fb = (nb : Int) := ⟨fb.toNat, by omega⟩
    refine ⟨_, rfl, pf, _, _, _, rfl, rfl, SqT.of atf, at0, fa, rfl, ?_⟩
    rw [abs_nat]
    refine ⟨_, rfl, pf, _, _, _, rfl, rfl, SqT.of atf, at1, fa.natAbs, nb, rfl, rfl, ?_⟩
    rw [Int.natAbs_natCast] at cop
    rw [cop]
    refine ⟨_, rfl, ?_⟩
    refine ite_no (by simp) ?_
    have frF : FracOf H5 (.ref pf) true := by
      have e := FracOf.tup atf (all2 (okI fa) (okI (nb : Int))) (by show 2 ≤ 1000; decide)
      have f : fracV [.int fa, .int (nb : Int)] = true := by
        show (decide ((1 : Int) ≤ (nb : Int)) && decide (Nat.gcd fa.natAbs ((nb : Int)).natAbs = 1)) = true
        exact Bool.and_eq_true_iff.mpr ⟨decide_eq_true (by omega), decide_eq_true (by rw [Int.natAbs_natCast]; exact cop)⟩
      rwa [f] at e
    refine ⟨_, rfl, .ref pf, true, rfl, frF, _, _, rfl, rfl, _, rfl, ?_⟩
    refine ite_no (by decide) ?_
    clear frF cop b1 la lb cross btop bbot at0 at1
    refine ⟨_, rfl, p, 30, rfl, d4, by decide, by decide, fun x H6 x0 x1 b6 d6 => ⟨_, _, rfl, rfl, ?_⟩⟩
    refine ⟨_, rfl, p, 20, rfl, d6, by decide, by decide, fun y H7 y0 y1 b7 d7 => ⟨_, _, rfl, rfl, (by show 2 ≤ sizeLine; decide), fun pp npp => ?_⟩⟩
    obtain ⟨px, epx⟩ : ∃ px : Int, x - 15 = px := ⟨_, rfl⟩
    obtain ⟨py, epy⟩ : ∃ py : Int, y - 4 = py := ⟨_, rfl⟩
    dsimp only
    rw [epx, epy]
    clear epx epy x0 x1 y0 y1
    have z := same_upd (o := .tup [.int px, .int py]) npp
    have atp : (upd H7 pp (.tup [.int px, .int py])) pp = some (.tup [.int px, .int py]) := upd_same
    replace d7 := d7.same z
    replace b7 : But p H _ := b4.trans (b6.trans (b7.trans (But.same z)))
    generalize upd H7 pp (.tup [.int px, .int py]) = H8 at atp d7 b7 ⊢
    clear z npp b6 d6 b4 d4 atf
    refine ⟨pp, px, py, rfl, atp, ?_⟩
    have frP : ∀ Hc : Hp, Hc pp = some (.tup [.int px, .int py]) → FracOf Hc (.ref pp) (pairV (.int px) (.int py)) := fun Hc e => FracOf.tup e (all2 (okI px) (okI py)) (by show 2 ≤ 1000; decide)
    refine ⟨_, rfl, .ref pp, _, rfl, frP _ atp, _, .bool (pairV (.int px) (.int py)), rfl, .bl _, one_ok _, one_dp _, one_len _, ?_⟩
    refine ⟨_, rfl, _, .bool (pairV (.int px) (.int py)), rfl, .bl _, one_ok _, one_dp _, one_len _, rfl, _, rfl, ?_⟩
    refine ite_no (by simp) ?_
    have cm1 : CMulW (10 ^ Int.toNat 60) (10 ^ Int.toNat 10) := by
      unfold CMulW
      decide +kernel
    have cm2 : CMulW (10 ^ Int.toNat 60) (10 ^ Int.toNat 5) := by
      unfold CMulW
      decide +kernel
    refine ⟨_, _, rfl, rfl, pw 60 (by decide), _, _, rfl, rfl, pw 10 (by decide), _, _, rfl, rfl, cm1, _, _, rfl, rfl, pw 60 (by decide), _, _, rfl, rfl, pw 5 (by decide), _, _, rfl, rfl, cm2, _, _, rfl, rfl, (by show 2 ≤ sizeLine; decide), fun gp ngp => ?_⟩
    have z := same_upd (o := .tup [.int (10 ^ Int.toNat 60 * 10 ^ Int.toNat 10), .int (10 ^ Int.toNat 60 * 10 ^ Int.toNat 5 + 1)]) ngp
    have frG : FracOf (upd H8 gp (.tup [.int (10 ^ Int.toNat 60 * 10 ^ Int.toNat 10), .int (10 ^ Int.toNat 60 * 10 ^ Int.toNat 5 + 1)])) (.ref gp) true := by
      have e := FracOf.tup (H := upd H8 gp (.tup [.int (10 ^ Int.toNat 60 * 10 ^ Int.toNat 10), .int (10 ^ Int.toNat 60 * 10 ^ Int.toNat 5 + 1)])) upd_same (all2 (okI _) (okI _)) (by show 2 ≤ 1000; decide)
      have f : fracV [.int (10 ^ Int.toNat 60 * 10 ^ Int.toNat 10), .int (10 ^ Int.toNat 60 * 10 ^ Int.toNat 5 + 1)] = true := by decide +kernel
      rwa [f] at e
    replace d7 := d7.same z
    replace b7 : But p H _ := b7.trans (But.same z)
    generalize upd H8 gp (.tup [.int (10 ^ Int.toNat 60 * 10 ^ Int.toNat 10), .int (10 ^ Int.toNat 60 * 10 ^ Int.toNat 5 + 1)]) = G0 at frG d7 b7 ⊢
    clear z ngp atp frP
    refine ⟨.ref gp, true, rfl, frG, _, _, rfl, rfl, _, rfl, ?_⟩
    refine ite_no (by decide) ?_
    clear frG cm1 cm2
    refine ⟨(by show 2 ≤ sizeLine; decide), fun o1 n1 => ?_⟩
    have z := same_upd (o := .tup [.int 1, .bl true]) n1
    have f1 : (upd G0 o1 (.tup [.int 1, .bl true])) o1 = some (.tup [.int 1, .bl true]) := upd_same
    replace d7 := d7.same z
    replace b7 : But p H _ := b7.trans (But.same z)
    generalize upd G0 o1 (.tup [.int 1, .bl true]) = G1 at f1 d7 b7 ⊢
    clear z n1
    refine ⟨(by show 2 ≤ sizeLine; decide), fun o2 n2 => ?_⟩
    have z := same_upd (o := .tup [.bl true, .int 2]) n2
    have f2 : (upd G1 o2 (.tup [.bl true, .int 2])) o2 = some (.tup [.bl true, .int 2]) := upd_same
    replace f1 := z _ _ f1
    replace d7 := d7.same z
    replace b7 : But p H _ := b7.trans (But.same z)
    generalize upd G1 o2 (.tup [.bl true, .int 2]) = G2 at f1 f2 d7 b7 ⊢
    clear z n2
    refine ⟨(by show 1 ≤ sizeLine; decide), fun o3 n3 => ?_⟩
    have z := same_upd (o := .tup [.int 1]) n3
    have f3 : (upd G2 o3 (.tup [.int 1])) o3 = some (.tup [.int 1]) := upd_same
    replace f1 := z _ _ f1
    replace f2 := z _ _ f2
    replace d7 := d7.same z
    replace b7 : But p H _ := b7.trans (But.same z)
    generalize upd G2 o3 (.tup [.int 1]) = G3 at f1 f2 f3 d7 b7 ⊢
    clear z n3
    refine ⟨(by show 3 ≤ sizeLine; decide), fun o4 n4 => ?_⟩
    have z := same_upd (o := .tup [.int 1, .int 2, .int 3]) n4
    have f4 : (upd G3 o4 (.tup [.int 1, .int 2, .int 3])) o4 = some (.tup [.int 1, .int 2, .int 3]) := upd_same
    replace f1 := z _ _ f1
    replace f2 := z _ _ f2
    replace f3 := z _ _ f3
    replace d7 := d7.same z
    replace b7 : But p H _ := b7.trans (But.same z)
    generalize upd G3 o4 (.tup [.int 1, .int 2, .int 3]) = G4 at f1 f2 f3 f4 d7 b7 ⊢
    clear z n4
    refine ⟨(by show 2 ≤ sizeLine; decide), fun o5 n5 => ?_⟩
    have z := same_upd (o := .lst [.int 1, .int 2]) n5
    have f5 : (upd G4 o5 (.lst [.int 1, .int 2])) o5 = some (.lst [.int 1, .int 2]) := upd_same
    replace f1 := z _ _ f1
    replace f2 := z _ _ f2
    replace f3 := z _ _ f3
    replace f4 := z _ _ f4
    replace d7 := d7.same z
    replace b7 : But p H _ := b7.trans (But.same z)
    generalize upd G4 o5 (.lst [.int 1, .int 2]) = G5 at f1 f2 f3 f4 f5 d7 b7 ⊢
    clear z n5
    refine ⟨(by show 2 ≤ sizeLine; decide), fun o6 n6 => ?_⟩
    have z := same_upd (o := .tup [.str ("1" : Str), .int 2]) n6
    have f6 : (upd G5 o6 (.tup [.str ("1" : Str), .int 2])) o6 = some (.tup [.str ("1" : Str), .int 2]) := upd_same
    replace f1 := z _ _ f1
    replace f2 := z _ _ f2
    replace f3 := z _ _ f3
    replace f4 := z _ _ f4
    replace f5 := z _ _ f5
    replace d7 := d7.same z
    replace b7 : But p H _ := b7.trans (But.same z)
    generalize upd G5 o6 (.tup [.str ("1" : Str), .int 2]) = G6 at f1 f2 f3 f4 f5 f6 d7 b7 ⊢
    clear z n6
    refine ⟨(by show 2 ≤ sizeLine; decide), fun o7 n7 => ?_⟩
    have z := same_upd (o := .tup [.int 1, .non]) n7
    have f7 : (upd G6 o7 (.tup [.int 1, .non])) o7 = some (.tup [.int 1, .non]) := upd_same
    replace f1 := z _ _ f1
    replace f2 := z _ _ f2
    replace f3 := z _ _ f3
    replace f4 := z _ _ f4
    replace f5 := z _ _ f5
    replace f6 := z _ _ f6
    replace d7 := d7.same z
    replace b7 : But p H _ := b7.trans (But.same z)
    generalize upd G6 o7 (.tup [.int 1, .non]) = G7 at f1 f2 f3 f4 f5 f6 f7 d7 b7 ⊢
    clear z n7
    refine ⟨(by show 2 ≤ sizeLine; decide), fun o8 n8 => ?_⟩
    have z := same_upd (o := .tup [.int 0, .int 0]) n8
    have f8 : (upd G7 o8 (.tup [.int 0, .int 0])) o8 = some (.tup [.int 0, .int 0]) := upd_same
    replace f1 := z _ _ f1
    replace f2 := z _ _ f2
    replace f3 := z _ _ f3
    replace f4 := z _ _ f4
    replace f5 := z _ _ f5
    replace f6 := z _ _ f6
    replace f7 := z _ _ f7
    replace d7 := d7.same z
    replace b7 : But p H _ := b7.trans (But.same z)
    generalize upd G7 o8 (.tup [.int 0, .int 0]) = G8 at f1 f2 f3 f4 f5 f6 f7 f8 d7 b7 ⊢
    clear z n8
    refine ⟨_, _, rfl, rfl, (by show 2 ≤ sizeLine; decide), fun o9 n9 => ?_⟩
    have z := same_upd (o := .tup [.int 1, .int (0 - 1)]) n9
    have f9 : (upd G8 o9 (.tup [.int 1, .int (0 - 1)])) o9 = some (.tup [.int 1, .int (0 - 1)]) := upd_same
    replace f1 := z _ _ f1
    replace f2 := z _ _ f2
    replace f3 := z _ _ f3
    replace f4 := z _ _ f4
    replace f5 := z _ _ f5
    replace f6 := z _ _ f6
    replace f7 := z _ _ f7
    replace f8 := z _ _ f8
    replace d7 := d7.same z
    replace b7 : But p H _ := b7.trans (But.same z)
    generalize upd G8 o9 (.tup [.int 1, .int (0 - 1)]) = G9 at f1 f2 f3 f4 f5 f6 f7 f8 f9 d7 b7 ⊢
    clear z n9
    refine ⟨(by show 2 ≤ sizeLine; decide), fun o10 n10 => ?_⟩
    have z := same_upd (o := .tup [.int 2, .int 4]) n10
    have f10 : (upd G9 o10 (.tup [.int 2, .int 4])) o10 = some (.tup [.int 2, .int 4]) := upd_same
    replace f1 := z _ _ f1
    replace f2 := z _ _ f2
    replace f3 := z _ _ f3
    replace f4 := z _ _ f4
    replace f5 := z _ _ f5
    replace f6 := z _ _ f6
    replace f7 := z _ _ f7
    replace f8 := z _ _ f8
    replace f9 := z _ _ f9
    replace d7 := d7.same z
    replace b7 : But p H _ := b7.trans (But.same z)
    generalize upd G9 o10 (.tup [.int 2, .int 4]) = G10 at f1 f2 f3 f4 f5 f6 f7 f8 f9 f10 d7 b7 ⊢
    clear z n10
    refine ⟨(by show 2 ≤ sizeLine; decide), fun o11 n11 => ?_⟩
    have z := same_upd (o := .tup [.int 0, .int 2]) n11
    have f11 : (upd G10 o11 (.tup [.int 0, .int 2])) o11 = some (.tup [.int 0, .int 2]) := upd_same
    replace f1 := z _ _ f1
    replace f2 := z _ _ f2
    replace f3 := z _ _ f3
    replace f4 := z _ _ f4
    replace f5 := z _ _ f5
    replace f6 := z _ _ f6
    replace f7 := z _ _ f7
    replace f8 := z _ _ f8
    replace f9 := z _ _ f9
    replace f10 := z _ _ f10
    replace d7 := d7.same z
    replace b7 : But p H _ := b7.trans (But.same z)
    generalize upd G10 o11 (.tup [.int 0, .int 2]) = G11 at f1 f2 f3 f4 f5 f6 f7 f8 f9 f10 f11 d7 b7 ⊢
    clear z n11
    refine ⟨(by show 11 ≤ sizeLine; decide), fun lo nlo => ?_⟩
    have z := same_upd (o := .lst [.ref o1, .ref o2, .ref o3, .ref o4, .ref o5, .ref o6, .ref o7, .ref o8, .ref o9, .ref o10, .ref o11]) nlo
    have alo : (upd G11 lo (.lst [.ref o1, .ref o2, .ref o3, .ref o4, .ref o5, .ref o6, .ref o7, .ref o8, .ref o9, .ref o10, .ref o11])) lo = some (.lst [.ref o1, .ref o2, .ref o3, .ref o4, .ref o5, .ref o6, .ref o7, .ref o8, .ref o9, .ref o10, .ref o11]) := upd_same
    replace f1 := z _ _ f1
    replace f2 := z _ _ f2
    replace f3 := z _ _ f3
    replace f4 := z _ _ f4
    replace f5 := z _ _ f5
    replace f6 := z _ _ f6
    replace f7 := z _ _ f7
    replace f8 := z _ _ f8
    replace f9 := z _ _ f9
    replace f10 := z _ _ f10
    replace f11 := z _ _ f11
    replace d7 := d7.same z
    replace b7 : But p H _ := b7.trans (But.same z)
    generalize upd G11 lo (.lst [.ref o1, .ref o2, .ref o3, .ref o4, .ref o5, .ref o6, .ref o7, .ref o8, .ref o9, .ref o10, .ref o11]) = G12 at f1 f2 f3 f4 f5 f6 f7 f8 f9 f10 f11 alo d7 b7 ⊢
    clear z nlo
    have each : ∀ Hc, Same G12 Hc → ∀ x ∈ ([.ref o1, .ref o2, .ref o3, .ref o4, .ref o5, .ref o6, .ref o7, .ref o8, .ref o9, .ref o10, .ref o11] : List V), FracOf Hc x false := fun Hc sm x m => by
      have tp : ∀ (a : Addr) (xs : List V), G12 a = some (.tup xs) → (∀ x ∈ xs, Vok Hc x) → xs.length ≤ 1000 → fracV xs = false → FracOf Hc (.ref a) false := fun a xs e ok few no => by
        have z := FracOf.tup (sm _ _ e) ok few
        rwa [no] at z
      simp only [List.mem_cons, List.not_mem_nil, or_false] at m
      rcases m with rfl | rfl | rfl | rfl | rfl | rfl | rfl | rfl | rfl | rfl | rfl
      · exact tp o1 _ f1 (all2 (okI 1) (okB true)) (by show 2 ≤ 1000; decide) (by decide +kernel)
      · exact tp o2 _ f2 (all2 (okB true) (okI 2)) (by show 2 ≤ 1000; decide) (by decide +kernel)
      · exact tp o3 _ f3 (all1 (okI 1)) (by show 1 ≤ 1000; decide) (by decide +kernel)
      · exact tp o4 _ f4 (all3 (okI 1) (okI 2) (okI 3)) (by show 3 ≤ 1000; decide) (by decide +kernel)
      · exact .no (.lst (sm _ _ f5)) (by decide)
      · exact tp o6 _ f6 (all2 (okS (by decide)) (okI 2)) (by show 2 ≤ 1000; decide) (by decide +kernel)
      · exact tp o7 _ f7 (all2 (okI 1) okN) (by show 2 ≤ 1000; decide) (by decide +kernel)
      · exact tp o8 _ f8 (all2 (okI 0) (okI 0)) (by show 2 ≤ 1000; decide) (by decide +kernel)
      · exact tp o9 _ f9 (all2 (okI 1) (okI (0 - 1))) (by show 2 ≤ 1000; decide) (by decide +kernel)
      · exact tp o10 _ f10 (all2 (okI 2) (okI 4)) (by show 2 ≤ 1000; decide) (by decide +kernel)
      · exact tp o11 _ f11 (all2 (okI 0) (okI 2)) (by show 2 ≤ 1000; decide) (by decide +kernel)
    refine ⟨_, rfl, lo, rfl, ⟨_, SqL.of alo⟩, fun D2 nD2 => ?_⟩
    refine lc_list (K := K) (a := lo) (xs := [.ref o1, .ref o2, .ref o3, .ref o4, .ref o5, .ref o6, .ref o7, .ref o8, .ref o9, .ref o10, .ref o11]) (fun i Hc => Same G12 Hc ∧ Hc D2 = some (.lst [])) ⟨same_upd nD2, upd_same⟩ (fun i Hc _ z => SqL.of (z.1 _ _ alo)) ?_ ?_
    · rintro i x Hc hx ⟨sm, hD⟩
      refine ⟨rfl, _, rfl, x, false, rfl, each Hc sm x (List.mem_of_getElem? hx), ?_⟩
      refine ⟨_, _, rfl, rfl, _, rfl, ?_⟩
      refine ite_no rfl ?_
      exact ⟨sm, hD⟩
    · rintro Hc ⟨sm, hD⟩
      refine ⟨Nat.zero_le _, fun u nu => ⟨_, _, .lst (SqL.of ((same_upd nu) _ _ hD)) .nil, .lst (SqL.of upd_same) .nil, by decide +kernel, by decide +kernel, ?_⟩⟩
      refine ⟨_, rfl, ?_⟩
      refine ite_no (by decide +kernel) ?_
      have z := same_trans sm (same_upd (o := .lst []) nu)
      replace d7 := d7.same z
      replace b7 : But p H _ := b7.trans (But.same z)
      generalize upd Hc u (.lst []) = J0 at d7 b7 ⊢
      clear z nu hD sm nD2 each alo f1 f2 f3 f4 f5 f6 f7 f8 f9 f10 f11
      have dn := d7
      refine ⟨_, rfl, (by show 1 ≤ sizeLine; decide), fun a1 m1 => ?_⟩
      have p1 := off_dice d7 m1
      have z := same_upd (o := .tup [.int 1]) m1
      have g1 : (upd J0 a1 (.tup [.int 1])) a1 = some (.tup [.int 1]) := upd_same
      replace d7 := d7.same z
      replace b7 : But p H _ := b7.trans (But.same z)
      generalize upd J0 a1 (.tup [.int 1]) = J1 at g1 d7 b7 ⊢
      clear z m1 dn
      refine ⟨Nat.zero_le _, fun a2 m2 s2 => ?_⟩
      have p2 := off_dice d7 m2
      have z := same_upd (o := .lst []) m2
      have g2 : (upd J1 a2 (.lst [])) a2 = some (.lst []) := upd_same
      replace g1 := z _ _ g1
      replace d7 := d7.same z
      replace b7 : But p H _ := b7.trans (But.same z)
      generalize upd J1 a2 (.lst []) = J2 at g1 g2 d7 b7 ⊢
      clear z m2
      refine fun a3 m3 => ?_
      have p3 := off_dice d7 m3
      have z := same_upd (o := .dK []) m3
      have g3 : (upd J2 a3 (.dK [])) a3 = some (.dK []) := upd_same
      replace g1 := z _ _ g1
      replace g2 := z _ _ g2
      replace d7 := d7.same z
      replace b7 : But p H _ := b7.trans (But.same z)
      generalize upd J2 a3 (.dK []) = J3 at g1 g2 g3 d7 b7 ⊢
      clear z m3
      refine ⟨_, _, rfl, rfl, pw 60 (by decide), (by show 7 ≤ sizeLine; decide), fun lb nlb => ?_⟩
      have pb := off_dice d7 nlb
      have z := same_upd (o := .lst [.non, .bl true, .str ("1" : Str), .ref a1, .ref a2, .ref a3, .int (10 ^ Int.toNat 60)]) nlb
      have glb : (upd J3 lb (.lst [.non, .bl true, .str ("1" : Str), .ref a1, .ref a2, .ref a3, .int (10 ^ Int.toNat 60)])) lb = some (.lst [.non, .bl true, .str ("1" : Str), .ref a1, .ref a2, .ref a3, .int (10 ^ Int.toNat 60)]) := upd_same
      replace g1 := z _ _ g1
      replace g2 := z _ _ g2
      replace g3 := z _ _ g3
      replace d7 := d7.same z
      replace b7 : But p H _ := b7.trans (But.same z)
      generalize upd J3 lb (.lst [.non, .bl true, .str ("1" : Str), .ref a1, .ref a2, .ref a3, .int (10 ^ Int.toNat 60)]) = J4 at g1 g2 g3 glb d7 b7 ⊢
      clear z nlb
      refine ⟨p, lb, [.non, .bl true, .str ("1" : Str), .ref a1, .ref a2, .ref a3, .int (10 ^ Int.toNat 60)], rfl, d7, SqL.of glb, pb.symm, (by show 0 < 7; decide), (by show 7 < 1000000; decide), fun r bad J5 hx br dr => ?_⟩
      obtain ⟨dt, tb, nb⟩ : ∃ dt, Told K p J4 bad dt ∧ intV bad = false := by
        have m := List.mem_of_getElem? hx
        simp only [List.mem_cons, List.not_mem_nil, or_false] at m
        rcases m with rfl | rfl | rfl | rfl | rfl | rfl | rfl
        · exact ⟨_, told_non, rfl⟩
        · exact ⟨_, told_bl true, rfl⟩
        · exact ⟨_, told_str (by decide) (by decide +kernel) (by decide +kernel) (by decide +kernel) (by decide +kernel), rfl⟩
        · exact ⟨_, told_tup1 p1 g1, rfl⟩
        · exact ⟨_, told_lst0 s2 p2 g2, rfl⟩
        · exact ⟨_, told_dict0 p3 g3, rfl⟩
        · exact ⟨_, told_int (by decide +kernel) (by decide +kernel) (by decide +kernel) (by decide +kernel), by decide +kernel⟩
      replace tb := tb.but (ButT.of br)
      replace b7 : But p H _ := b7.trans br
      clear hx br g1 g2 g3 glb p1 p2 p3 pb s2 d7
      refine ⟨_, rfl, (by show 1 ≤ sizeLine; decide), fun a1 m1 => ?_⟩
      have p1 := off_dice dr m1
      have z := same_upd (o := .tup [.int 1]) m1
      have g1 : (upd J5 a1 (.tup [.int 1])) a1 = some (.tup [.int 1]) := upd_same
      replace tb := tb.but (ButT.of (But.same z))
      replace dr := dr.same z
      replace b7 : But p H _ := b7.trans (But.same z)
      generalize upd J5 a1 (.tup [.int 1]) = J6 at g1 tb dr b7 ⊢
      clear z m1
      refine ⟨Nat.zero_le _, fun a2 m2 s2 => ?_⟩
      have p2 := off_dice dr m2
      have z := same_upd (o := .lst []) m2
      have g2 : (upd J6 a2 (.lst [])) a2 = some (.lst []) := upd_same
      replace g1 := z _ _ g1
      replace tb := tb.but (ButT.of (But.same z))
      replace dr := dr.same z
      replace b7 : But p H _ := b7.trans (But.same z)
      generalize upd J6 a2 (.lst []) = J7 at g1 g2 tb dr b7 ⊢
      clear z m2
      refine ⟨_, _, rfl, rfl, pw 60 (by decide), _, _, rfl, rfl, (by show 7 ≤ sizeLine; decide), fun lb nlb => ?_⟩
      have pb := off_dice dr nlb
      have z := same_upd (o := .lst [.int 0, .non, .bl false, .str ("1" : Str), .ref a1, .ref a2, .int (0 - 10 ^ Int.toNat 60)]) nlb
      have glb : (upd J7 lb (.lst [.int 0, .non, .bl false, .str ("1" : Str), .ref a1, .ref a2, .int (0 - 10 ^ Int.toNat 60)])) lb = some (.lst [.int 0, .non, .bl false, .str ("1" : Str), .ref a1, .ref a2, .int (0 - 10 ^ Int.toNat 60)]) := upd_same
      replace g1 := z _ _ g1
      replace g2 := z _ _ g2
      replace tb := tb.but (ButT.of (But.same z))
      replace dr := dr.same z
      replace b7 : But p H _ := b7.trans (But.same z)
      generalize upd J7 lb (.lst [.int 0, .non, .bl false, .str ("1" : Str), .ref a1, .ref a2, .int (0 - 10 ^ Int.toNat 60)]) = J8 at g1 g2 glb tb dr b7 ⊢
      clear z nlb
      refine ⟨p, lb, [.int 0, .non, .bl false, .str ("1" : Str), .ref a1, .ref a2, .int (0 - 10 ^ Int.toNat 60)], rfl, dr, SqL.of glb, pb.symm, (by show 0 < 7; decide), (by show 7 < 1000000; decide), fun r wrong J9 hx br dw => ?_⟩
      obtain ⟨dw', tw, nw⟩ : ∃ dw', Told K p J8 wrong dw' ∧ (intV wrong = false ∨ wrong = .int 0) := by
        have m := List.mem_of_getElem? hx
        simp only [List.mem_cons, List.not_mem_nil, or_false] at m
        rcases m with rfl | rfl | rfl | rfl | rfl | rfl | rfl
        · exact ⟨_, told_int (by decide +kernel) (by decide +kernel) (by decide +kernel) (by decide +kernel), .inr rfl⟩
        · exact ⟨_, told_non, .inl rfl⟩
        · exact ⟨_, told_bl false, .inl rfl⟩
        · exact ⟨_, told_str (by decide) (by decide +kernel) (by decide +kernel) (by decide +kernel) (by decide +kernel), .inl rfl⟩
        · exact ⟨_, told_tup1 p1 g1, .inl rfl⟩
        · exact ⟨_, told_lst0 s2 p2 g2, .inl rfl⟩
        · exact ⟨_, told_int (by decide +kernel) (by decide +kernel) (by decide +kernel) (by decide +kernel), .inl (by decide +kernel)⟩
      replace tw := tw.but (ButT.of br)
      replace tb := tb.but (ButT.of br)
      replace b7 : But p H _ := b7.trans br
      clear hx br g1 g2 glb p1 p2 pb s2 dr
      have one : intV (.int 1) = true := by decide
      have tabs9 := tabs_but tabs hd0 b7
      have b9 : ButT p H J9 := ButT.of b7
      refine ⟨tabs9, fun J10 ext tabs10 => ?_⟩
      have d10 := dice_ext dw ext
      have e10 : ButT p J9 J10 := ButT.ext ext
      replace b9 := b9.trans e10
      replace tb := tb.but e10
      replace tw := tw.but e10
      refine ⟨_, rfl, _, rfl, bad, wrong, rfl, tb.ok _ ButT.refl, tw.ok _ ButT.refl, fun _ d J11 sm at_ => ⟨true, T.M.nn, fun _ => ⟨rfl, d, bad, dt, rfl, at_, tb.rp _ (ButT.of (But.same sm)), tb.sh, tb.dp, Nat.le_trans tb.ln (by decide), ?_⟩, fun z => nomatch z⟩, (fun z => by rw [nb] at z; cases z), fun i j ei _ z => by rw [nb] at z; cases z⟩
      have d11 := d10.same sm
      have t11 := tabs_but tabs10 d10 (But.same sm)
      replace b9 := b9.trans (ButT.of (But.same sm))
      replace tb := tb.but (ButT.of (But.same sm))
      replace tw := tw.but (ButT.of (But.same sm))
      clear at_ sm tabs10 d10 ext tabs9
      refine ⟨(by show 1 ≤ sizeLine; decide), fun l nl => ?_⟩
      have z := same_upd (o := .lst [.str (("number " : Str) ++ dt.shown)]) nl
      have al : (upd J11 l (.lst [.str (("number " : Str) ++ dt.shown)])) l = some (.lst [.str (("number " : Str) ++ dt.shown)]) := upd_same
      have lp := off_dice d11 nl
      have nlH : ∀ o, H l = some o → (∀ ps, o ≠ .tbl ps) → False := fun o e n => by
        have e2 := b9 _ _ lp n e
        rw [e2] at nl
        cases nl
      have d12 := d11.same z
      have t12 := tabs_but t11 d11 (But.same z)
      replace b9 := b9.trans (ButT.of (But.same z))
      have q9 : ButT p J11 (upd J11 l (.lst [.str (("number " : Str) ++ dt.shown)])) := ButT.of (But.same z)
      generalize upd J11 l (.lst [.str (("number " : Str) ++ dt.shown)]) = J12 at al d12 t12 b9 q9 ⊢
      clear z d11 t11
      refine ⟨_, rfl, .inl ⟨rfl, _, SqL.of al⟩, t12, fun J13 ext tabs13 => ?_⟩
      have d13 := dice_ext d12 ext
      have e13 : ButT p J12 J13 := ButT.ext ext
      replace b9 := b9.trans e13
      replace q9 := q9.trans e13
      replace al := ext _ _ al (fun ps z => by cases z)
      refine ⟨_, rfl, .int 1, wrong, rfl, okI 1, tw.ok _ q9, (fun z => by rw [one] at z; cases z), fun _ _ d J14 sm at_ => ⟨true, T.M.nn, fun _ => ⟨rfl, d, wrong, dw', rfl, at_, tw.rp _ (q9.trans (ButT.of (But.same sm))), tw.sh, tw.dp, Nat.le_trans tw.ln (by decide), ?_⟩, fun z => nomatch z⟩, fun i j _ ej _ iw nz => ?_⟩
      case _ =>
        have d14 := d13.same sm
        have t14 := tabs_but tabs13 d13 (But.same sm)
        replace b9 := b9.trans (ButT.of (But.same sm))
        replace q9 := q9.trans (ButT.of (But.same sm))
        replace al := sm _ _ al
        refine ⟨l, _, .str (("number " : Str) ++ dw'.shown), rfl, rfl, al, by show 1 < sizeLine; decide, ?_⟩
        have al2 : (upd J14 l (.lst ([V.str (("number " : Str) ++ dt.shown)] ++ [.str (("number " : Str) ++ dw'.shown)]))) l = some (.lst ([("number " : Str) ++ dt.shown, ("number " : Str) ++ dw'.shown].map V.str)) := upd_same
        have off : ∀ b o, J14 b = some o → b ≠ l → (upd J14 l (.lst ([V.str (("number " : Str) ++ dt.shown)] ++ [.str (("number " : Str) ++ dw'.shown)]))) b = some o := fun b o e n => by
          rw [upd_ne n]
          exact e
        replace b9 : ButT p H _ := fun b o n nt e => off b o (b9 b o n nt e) fun z => nlH o (by rw [← z]; exact e) nt
        replace q9 : ButT p J11 _ := fun b o n nt e => off b o (q9 b o n nt e) (ne_of_none e nl)
        have d15 : DiceAt (upd J14 l (.lst ([V.str (("number " : Str) ++ dt.shown)] ++ [.str (("number " : Str) ++ dw'.shown)]))) p := by
          obtain ⟨x1, x2, x3, e⟩ := d14
          exact ⟨x1, x2, x3, off _ _ e lp.symm⟩
        have t15 : Tabs Ts (upd J14 l (.lst ([V.str (("number " : Str) ++ dt.shown)] ++ [.str (("number " : Str) ++ dw'.shown)]))) := tabs_off t14 al off
        generalize upd J14 l (.lst ([V.str (("number " : Str) ++ dt.shown)] ++ [.str (("number " : Str) ++ dw'.shown)])) = J15 at al2 b9 q9 d15 t15 ⊢
        clear off al d14 t14 d13 tabs13 at_ sm ext t12 d12 e13
        have num : ("number " : Str).length = 7 := by decide
        have big : (2000 : Nat) ≤ sizeLine := by decide
        have l1 := tb.ln
        have l2 := tw.ln
        refine ⟨_, rfl, _, rfl, bad, dt, rfl, tb.rp _ q9, tb.sh, tb.dp, by omega, _, _, rfl, rfl, by omega, ?_⟩
        refine ⟨_, rfl, wrong, dw', rfl, tw.rp _ q9, tw.sh, tw.dp, by omega, _, _, rfl, rfl, by omega, (by show 2 ≤ sizeLine; decide), fun u nu => ?_⟩
        have z := same_upd (o := .lst [.str (("number " : Str) ++ dt.shown), .str (("number " : Str) ++ dw'.shown)]) nu
        have oks : ∀ y ∈ [("number " : Str) ++ dt.shown, ("number " : Str) ++ dw'.shown], PyData.strOk y = true := fun y m => by
          rcases List.mem_cons.mp m with e | m
          · rw [e]
            exact tb.st
          · rw [List.mem_singleton.mp m]
            exact tw.st
        refine ⟨_, _, .lst (SqL.of (z _ _ al2)) (dpT _), .lst (SqL.of upd_same) (dpT [("number " : Str) ++ dt.shown, ("number " : Str) ++ dw'.shown]), shapedT oks, shapedT oks, ?_⟩
        rw [eqv_two]
        exact q _ (b9.trans (ButT.of (But.same z))) (d15.same z) (tabs_but t15 d15 (But.same z))
      case _ =>
        rcases nw with z | z
        · rw [z] at iw
          cases iw
        · rw [z] at ej
          injection ej with ej
          exact (nz ej.symm).elim
end
end Lx

/-! The law's own def, walked. -/
namespace Lx
open PySem PySem.Spec PyProof.Rows L2 Fw LamX
def spLaw (K : PySem.W.Frag) (Ts : List (Addr × Str)) : Sp := fun vs H Q _ => ∃ (a : Addr) (ns : List Int), vs = [.ref a] ∧ SqL K H a (ns.map V.int) ∧ ns.length ≤ 63 ∧ Tabs Ts H ∧ ∀ H', Q (.bl true) H'
theorem butT_seq {K : PySem.W.Frag} {p a : Addr} {H H' : Hp} {xs : List V} (b : ButT p H H') (n : a ≠ p) (h : SqL K H a xs) : SqL K H' a xs := by
  rcases h with (h | ⟨o, h⟩) | h
  · exact .inl (.inl (b _ _ n (fun ps z => by cases z) h))
  · exact .inl (.inr ⟨o, b _ _ n (fun ps z => by cases z) h⟩)
  · exact .inr h
section
variable {P : Program} {w : World} {K : PySem.W.Frag} {mg : Str → Option Value} {base : Heap}
structure TxLaw (K : PySem.W.Frag) (mg : Str → Option Value) (CN CP CI fR fP fI fC fN fW fA fF fU fD fL fQ fX fK fDf fG fCo gM gD gJ gN gF : Addr) (dR dP dI dC dN dW dA dF dU dD dL dQ dX dK dDf dG dCo dM eD eJ eN eF : FuncData) (cM : Value) : Prop where
  J : TxJ K mg fR fP fI fC fN fW fA fF fU fD fL dR dP dI dC dN dW dA dF dU dD dL
  S : TxS K mg CN CP fR fP fQ fX fA fN fK fDf gM dR dP dQ dX dA dN dK dDf dM cM
  Fr : TxF K mg CN CP CI fR fP fI fW fF fG fCo gM dR dP dI dW dF dG dCo dM cM
  min : mg "min" = none
  letters : ∃ t, mg "MAX_LETTERS" = some (.int 8 t)
  figures : ∃ t, mg "MAX_FIGURES" = some (.int 60 t)
  mD : mg "_law_dice" = some (.ref gD)
  FD : Fun K "_law_dice" "_law_dice" sDice gD eD
  bD : Binds K eD ["_law_script", "_law_spot"] []
  mJ : mg "_law_judged_right" = some (.ref gJ)
  FJ : Fun K "_law_judged_right" "_law_judged_right" sJudged gJ eJ
  bJ : Binds K eJ ["_law_dice_here"] []
  mN : mg "_law_namings_right" = some (.ref gN)
  kN : PySem.W.keepIn K (.ref gN) = true
  bN : Binds K eN ["_law_dice_here"] []
  mF : mg "_law_fractions_right" = some (.ref gF)
  kF : PySem.W.keepIn K (.ref gF) = true
  bF : Binds K eF ["_law_dice_here"] []
theorem scLaw : FnScope ["_law_script", "_law_spot", "_law_dice_here", "_law_turn", "_law_told"] ["_law_script"] (defScope sLaw) := ⟨rfl, rfl, rfl, by decide +kernel, rfl, by decide +kernel, by decide +kernel⟩
theorem ok_law {f cN cF PN PF CN CP CI fR fP fI fC fN fW fA fF fU fD fL fQ fX fK fDf fG fCo gM gD gJ gN gF : Addr} {fd dR dP dI dC dN dW dA dF dU dD dL dQ dX dK dDf dG dCo dM eD eJ eN eF : FuncData} {cM : Value} (F : Fun K "law" "law" sLaw f fd)
    (T : TxLaw K mg CN CP CI fR fP fI fC fN fW fA fF fU fD fL fQ fX fK fDf fG fCo gM gD gJ gN gF dR dP dI dC dN dW dA dF dU dD dL dQ dX dK dDf dG dCo dM eD eJ eN eF cM)
    (FN : FunC K "_law_namings_right" "_law_namings_right" sNamings gN eN (.ref cN)) (FF : FunC K "_law_fractions_right" "_law_fractions_right" sFractions gF eF (.ref cF)) (TN : TabB base mg cN PN) (TF : TabB base mg cF PF) (ne : PN ≠ PF) :
    FnG P w K mg base CX0 8 f fd ["_law_script"] (spLaw K [(PN, qNam), (PF, qFra)]) := by
  obtain ⟨tL, mML⟩ := T.letters
  obtain ⟨tF, mMF⟩ := T.figures
  have GD : FnG P w K mg base CX0 1 gD eD ["_law_script", "_law_spot"] (spDice K) := ok_dice T.FD T.J.P.D
  have GJ : FnG P w K mg base CX0 4 gJ eJ ["_law_dice_here"] spTrue := ok_judged T.FJ T.J
  have GN : FnG P w K mg base CX0 7 gN eN ["_law_dice_here"] (spTrueT [(PN, qNam), (PF, qFra)]) := ok_namings FN T.S TN (by simp) (fun p m e => by
    simp only [List.mem_cons, List.not_mem_nil, or_false] at m
    rcases m with rfl | rfl
    · rfl
    · exact (ne e.symm).elim)
  have GF : FnG P w K mg base CX0 6 gF eF ["_law_dice_here"] (spTrueT [(PN, qNam), (PF, qFra)]) := ok_fractions FF T.Fr TF (by simp) (fun p m e => by
    simp only [List.mem_cons, List.not_mem_nil, or_false] at m
    rcases m with rfl | rfl
    · exact (ne e).elim
    · rfl)
  have GC : FnG P w K mg base CX0 3 fC dC ["value"] (spJ countV) := ok_count T.J.FC T.J.W T.J.mI T.J.FI T.J.bI T.J.mW T.J.FW T.J.bW
  have GM : FnG P w K mg base CX0 1 fN dN ["value"] (spJ nameV) := ok_name T.J.FN T.J.W
  have GA : FnG P w K mg base CX0 2 fA dA ["value"] spNames := ok_names T.J.FA T.J.W T.J.mN T.J.FN T.J.bN
  have GI : FnG P w K mg base CX0 2 fI dI ["value"] (spJ intV) := ok_integer T.J.FI T.J.W T.J.mW T.J.FW T.J.bW
  have GG : FnV true P w K mg base (L2.CX P w) 3 fG dG ["top", "bottom"] (spFraction CN) := ok_fraction T.Fr.FG T.J.W T.Fr.X iO_value T.Fr.gcd T.J.mI T.J.FI T.J.bI T.J.mW T.J.FW T.J.bW
  refine fnG F scLaw (fun vs H Q E h => ?_) (fun cdv A fr s H vs Q E hG hr h => ?_)
  · obtain ⟨a, ns, rfl, _⟩ := h
    rfl
  · obtain ⟨a, ns, rfl, hS, hl, tabs, q⟩ := h
    have hr1 := hr.mono (show 1 ≤ 7 by decide)
    have hr2 := hr.mono (show 2 ≤ 7 by decide)
    have hr3 := hr.mono (show 3 ≤ 7 by decide)
    have hr4 := hr.mono (show 4 ≤ 7 by decide)
    have hr6 := hr.mono (show 6 ≤ 7 by decide)
    refine ⟨_, (pss_cons (ps_for (passes_of rfl) rfl (pi_range1 (by rfl) T.J.rng (pa_cons (pe_callB (call_max2 rfl) (by rfl) T.J.P.D.max (by decide +kernel) (pa_cons pe_int (pa_cons (pe_callB (call_min2 rfl) (by rfl) T.min (by decide +kernel) (pa_cons pe_int (pa_cons (pe_callB call_len_seq (by rfl) T.J.W.len PySem.boot_len (pa_cons (pv 0) pa_nil)) pa_nil))) pa_nil))) pa_nil)) (pg_name (i := 1) scLaw.nd rfl (Or.inl rfl)) (pss_cons (ps_set (i := 2) scLaw.nd rfl (Or.inl rfl) (pe_callG (E := fun _ _ _ _ => False) hG GD hr1 (by rfl) T.mD T.FD.kp T.bD .nil (fun _ => passAt0) (pa_cons (pv 0) (pa_cons (pv 1) pa_nil)))) (pss_one (ps_for (passes_of rfl) rfl (pi_range1 (by rfl) T.J.rng (pa_cons pe_int pa_nil)) (pg_name (i := 3) scLaw.nd rfl (Or.inl rfl)) (pss_one (ps_if (PW.pt (pw_or (pt_not (pt_val (pe_callG (E := fun _ _ _ _ => False) hG GJ hr4 (by rfl) T.mJ T.FJ.kp T.bJ .nil (fun _ => passAt0) (pa_cons (pv 2) pa_nil)))) (pw_or (pt_not (pt_val (pe_callG (E := fun _ _ _ _ => False) hG GN hr (by rfl) T.mN T.kN T.bN .nil (fun _ => passAt0) (pa_cons (pv 2) pa_nil)))) (pw_or1 (pt_not (pt_val (pe_callG (E := fun _ _ _ _ => False) hG GF hr6 (by rfl) T.mF T.kF T.bF .nil (fun _ => passAt0) (pa_cons (pv 2) pa_nil)))))))) (pss_one (ps_ret pe_bl)) pss_nil))))))
      (pss_cons (ps_set (i := 4) scLaw.nd rfl (Or.inl rfl) (pe_lst (pa_cons (pe_callG (E := fun _ _ _ _ => False) hG GC hr3 (by rfl) T.J.mC T.J.FC.kp T.J.bC .nil (fun _ => passAt0) (pa_cons pe_int pa_nil)) (pa_cons (pe_callG (E := fun _ _ _ _ => False) hG GM hr1 (by rfl) T.J.mN T.J.FN.kp T.J.bN .nil (fun _ => passAt0) (pa_cons pe_str pa_nil)) (pa_cons (pe_callG (E := fun _ _ _ _ => False) hG GM hr1 (by rfl) T.J.mN T.J.FN.kp T.J.bN .nil (fun _ => passAt0) (pa_cons pe_str pa_nil)) (pa_cons (pe_callG (E := fun _ _ _ _ => False) hG GA hr2 (by rfl) T.J.mA T.J.FA.kp T.J.bA .nil (fun _ => passAt0) (pa_cons (pe_tup pa_nil) pa_nil)) (pa_cons (pe_callG (E := fun _ _ _ _ => False) hG GA hr2 (by rfl) T.J.mA T.J.FA.kp T.J.bA .nil (fun _ => passAt0) (pa_cons (pe_tup (pa_cons pe_str (pa_cons pe_str pa_nil))) pa_nil)) (pa_cons (pe_glob (v := .int 8) (by rfl) mML ⟨tL, rfl⟩) pa_nil))))))))
      (pss_cons (ps_set (i := 4) scLaw.nd rfl (Or.inl rfl) (pe_op op_cat (pv 4) (pe_lst (pa_cons (pe_glob (v := .int 60) (by rfl) mMF ⟨tF, rfl⟩) (pa_cons (pe_callV (gg := true) (E := WE fun _ _ _ _ => False) (fun _ => hG) GG hr3 (by rfl) T.Fr.mG T.Fr.FG.kp T.Fr.bG .nil (fun σ => passAt L2.takes0 σ) (pa_cons pe_int (pa_cons (pe_op op_sub pe_int pe_int) pa_nil))) (pa_cons (pe_callV (gg := true) (E := WE fun _ _ _ _ => False) (fun _ => hG) GG hr3 (by rfl) T.Fr.mG T.Fr.FG.kp T.Fr.bG .nil (fun σ => passAt L2.takes0 σ) (pa_cons pe_int (pa_cons pe_int pa_nil))) (pa_cons (pe_callG (E := fun _ _ _ _ => False) hG GI hr2 (by rfl) T.J.mI T.J.FI.kp T.J.bI .nil (fun _ => passAt0) (pa_cons (pe_op op_add (pe_op op_sub pe_int (pe_op op_pow pe_int pe_int)) pe_int) pa_nil)) pa_nil)))))))
      (pss_one (ps_ret (pe_cmpR (op_eqD hr.units) (pv 4) (pe_lst (pa_cons pe_bl (pa_cons pe_bl (pa_cons pe_bl (pa_cons pe_bl (pa_cons pe_bl (pa_cons pe_int (pa_cons pe_int (pa_cons (pe_tup (pa_cons (pe_op op_sub pe_int pe_int) (pa_cons pe_int pa_nil))) (pa_cons (pe_tup (pa_cons pe_int (pa_cons pe_int pa_nil))) (pa_cons pe_bl pa_nil))))))))))) (nomark _))))))), ?_⟩
    have lenE : ((ns.map V.int).length : Int) = (ns.length : Int) := by rw [List.length_map]
    have pw : ∀ k : Nat, k ≤ 100 → CPow 10 (k : Int) := fun k hk => ⟨by omega, by omega, by decide⟩
    refine ⟨_, rfl, a, _, rfl, .inl hS, _, _, rfl, _, _, rfl, _, rfl, ?_⟩
    generalize hj : (if (if ((ns.map V.int).length : Int) < 2 then ((ns.map V.int).length : Int) else 2) > 1 then (if ((ns.map V.int).length : Int) < 2 then ((ns.map V.int).length : Int) else 2) else 1) = j
    have j1 : 1 ≤ j := by
      rw [← hj]
      split <;> omega
    have j2 : j ≤ 2 := by
      rw [← hj]
      split
      · split <;> omega
      · omega
    refine ⟨by omega, by omega, ?_⟩
    refine for_range (lo := 0) (n := j.toNat) (fun i σ Hc => ∃ v1 v2 v3 : Option V, σ = [some (.ref a), v1, v2, v3, none] ∧ SqL K Hc a (ns.map V.int) ∧ Tabs [(PN, qNam), (PF, qFra)] Hc) ⟨none, none, none, rfl, hS, tabs⟩ ?_ ?_
    · rintro i σ Hc hi ⟨v1, v2, v3, rfl, sc, tc⟩
      refine ⟨_, rfl, _, rfl, a, ns, _, rfl, sc, hl, by omega, by omega, fun p H1 s1 np d1 => ?_⟩
      have ap : ∀ o, Hc a = some o → a ≠ p := fun o e => ne_of_none e np
      have apx : ∀ Hx, ButT p Hc Hx → SqL K Hx a (ns.map V.int) := fun Hx b => by
        rcases sc with (e | ⟨o, e⟩) | e
        · exact butT_seq b (ap _ e) (.inl (.inl e))
        · exact butT_seq b (ap _ e) (.inl (.inr ⟨o, e⟩))
        · exact .inr e
      have t1 : Tabs [(PN, qNam), (PF, qFra)] H1 := tc.ext fun b o e => s1 b o e
      refine ⟨_, rfl, by decide, by decide, ?_⟩
      refine for_range (lo := 0) (n := Int.toNat 2) (fun k σ Hd => ∃ v3 : Option V, σ = [some (.ref a), some (.int (0 + (i : Nat))), some (.ref p), v3, none] ∧ ButT p Hc Hd ∧ DiceAt Hd p ∧ Tabs [(PN, qNam), (PF, qFra)] Hd) ⟨v3, rfl, ButT.of (But.same s1), d1, t1⟩ ?_ ?_
      · rintro k σ Hd hk ⟨u3, rfl, bd, dd, td⟩
        refine ⟨_, rfl, p, rfl, dd, fun H2 b2 d2 => ⟨_, rfl, ?_⟩⟩
        refine ite_no rfl ?_
        have t2 := tabs_but td dd b2
        refine ⟨_, rfl, p, rfl, d2, t2, fun H3 b3 d3 t3 => ⟨_, rfl, ?_⟩⟩
        refine ite_no rfl ?_
        refine ⟨_, rfl, p, rfl, d3, t3, fun H4 b4 d4 t4 => ⟨_, rfl, ?_⟩⟩
        refine ite_no rfl ?_
        exact ⟨_, rfl, ((bd.trans (ButT.of b2)).trans b3).trans b4, d4, t4⟩
      · rintro σ Hd ⟨u3, rfl, bd, dd, td⟩
        exact ⟨_, _, _, rfl, apx Hd bd, td⟩
    · rintro σ Hc ⟨v1, v2, v3, rfl, -, -⟩
      refine ⟨.int 0, rfl, okI 0, ?_⟩
      have c0 : countV (.int 0) = true := by decide +kernel
      have c1 : nameV (.str ("abcdefgh" : Str)) = true := by decide +kernel
      have c2 : nameV (.str ("abcdefghi" : Str)) = false := by decide +kernel
      rw [c0]
      refine ⟨.str ("abcdefgh" : Str), rfl, okS (by decide), ?_⟩
      rw [c1]
      refine ⟨.str ("abcdefghi" : Str), rfl, okS (by decide), ?_⟩
      rw [c2]
      refine ⟨Nat.zero_le _, fun t0 n0 => ?_⟩
      refine ⟨.ref t0, _, rfl, .tup upd_same (fun x m => by cases m) (by decide), fun H1 s1 => ?_⟩
      refine ⟨(by show 2 ≤ sizeLine; decide), fun t1 n1 => ?_⟩
      have nA : NamesOf (upd H1 t1 (.tup [.str ("a" : Str), .str ("a" : Str)])) (.ref t1) true := by
        have e := NamesOf.tup (H := upd H1 t1 (.tup [.str ("a" : Str), .str ("a" : Str)])) upd_same (all2 (okS (by decide)) (okS (by decide))) (by show 2 ≤ 1000; decide)
        have f : [V.str ("a" : Str), .str ("a" : Str)].all nameV = true := by decide +kernel
        rwa [f] at e
      refine ⟨.ref t1, true, rfl, nA, fun H2 s2 => ?_⟩
      clear nA s1 n0 n1
      refine ⟨(by show 6 ≤ sizeLine; decide), fun l nl => ?_⟩
      have al : (upd H2 l (.lst [.bl true, .bl true, .bl false, .bl true, .bl true, .int 8])) l = some (.lst [.bl true, .bl true, .bl false, .bl true, .bl true, .int 8]) := upd_same
      show tSeq _ _ _ _ (upd H2 l (.lst [.bl true, .bl true, .bl false, .bl true, .bl true, .int 8]))
      generalize upd H2 l (.lst [.bl true, .bl true, .bl false, .bl true, .bl true, .int 8]) = H3 at al ⊢
      clear nl s2
      refine ⟨_, rfl, ?_⟩
      have i6 : intV (.int 6) = true := by decide +kernel
      have i4 : intV (.int (0 - 4)) = true := by decide +kernel
      have i0 : intV (.int 0) = true := by decide +kernel
      have i9 : intV (.int 9) = true := by decide +kernel
      have e1 : fracT 6 (0 - 4) = .int (-3) := by decide +kernel
      have e2 : fracB 6 (0 - 4) = .int 2 := by decide +kernel
      have e3 : fracT 0 9 = .int 0 := by decide +kernel
      have e4 : fracB 0 9 = .int 1 := by decide +kernel
      refine ⟨_, _, rfl, rfl, .int 6, .int (0 - 4), rfl, okI 6, okI (0 - 4), (fun z => by rw [i6] at z; cases z), (fun _ z => by
        rcases z with z | z
        · rw [i4] at z
          cases z
        · injection z with z
          omega), fun i j ei ej _ _ _ p1 np1 => ?_⟩
      injection ei with ei
      injection ej with ej
      subst ei ej
      rw [e1, e2]
      have z := same_upd (o := .tup [.int (-3), .int 2]) np1
      have at1 : (upd H3 p1 (.tup [.int (-3), .int 2])) p1 = some (.tup [.int (-3), .int 2]) := upd_same
      replace al := z _ _ al
      generalize upd H3 p1 (.tup [.int (-3), .int 2]) = H4 at al at1 ⊢
      clear z np1
      refine ⟨.int 0, .int 9, rfl, okI 0, okI 9, (fun z => by rw [i0] at z; cases z), (fun _ z => by
        rcases z with z | z
        · rw [i9] at z
          cases z
        · injection z with z
          omega), fun i j ei ej _ _ _ p2 np2 => ?_⟩
      injection ei with ei
      injection ej with ej
      subst ei ej
      rw [e3, e4]
      have z := same_upd (o := .tup [.int 0, .int 1]) np2
      have at2 : (upd H4 p2 (.tup [.int 0, .int 1])) p2 = some (.tup [.int 0, .int 1]) := upd_same
      replace al := z _ _ al
      replace at1 := z _ _ at1
      generalize upd H4 p2 (.tup [.int 0, .int 1]) = H5 at al at1 at2 ⊢
      clear z np2
      have ib : intV (.int (0 - 10 ^ Int.toNat 60 + 1)) = true := by decide +kernel
      refine ⟨_, _, rfl, rfl, pw 60 (by decide), _, _, rfl, rfl, _, _, rfl, rfl, .int (0 - 10 ^ Int.toNat 60 + 1), rfl, okI _, ?_⟩
      rw [ib]
      refine ⟨(by show 4 ≤ sizeLine; decide), fun l2 nl2 => ?_⟩
      have z := same_upd (o := .lst [.int 60, .ref p1, .ref p2, .bl true]) nl2
      have al2 : (upd H5 l2 (.lst [.int 60, .ref p1, .ref p2, .bl true])) l2 = some (.lst [.int 60, .ref p1, .ref p2, .bl true]) := upd_same
      replace al := z _ _ al
      replace at1 := z _ _ at1
      replace at2 := z _ _ at2
      generalize upd H5 l2 (.lst [.int 60, .ref p1, .ref p2, .bl true]) = H6 at al al2 at1 at2 ⊢
      clear z nl2
      refine ⟨l, l2, _, _, rfl, rfl, al, al2, (by show 6 + 4 ≤ sizeLine; decide), fun l3 nl3 => ?_⟩
      have z := same_upd (o := .lst ([.bl true, .bl true, .bl false, .bl true, .bl true, .int 8] ++ [.int 60, .ref p1, .ref p2, .bl true])) nl3
      have al3 : (upd H6 l3 (.lst ([.bl true, .bl true, .bl false, .bl true, .bl true, .int 8] ++ [.int 60, .ref p1, .ref p2, .bl true]))) l3 = some (.lst [.bl true, .bl true, .bl false, .bl true, .bl true, .int 8, .int 60, .ref p1, .ref p2, .bl true]) := upd_same
      replace at1 := z _ _ at1
      replace at2 := z _ _ at2
      generalize upd H6 l3 (.lst ([.bl true, .bl true, .bl false, .bl true, .bl true, .int 8] ++ [.int 60, .ref p1, .ref p2, .bl true])) = H7 at al3 at1 at2 ⊢
      clear z nl3 al al2
      refine ⟨_, rfl, _, _, rfl, rfl, (by show 2 ≤ sizeLine; decide), fun ta nta => ?_⟩
      have z := same_upd (o := .tup [.int (0 - 3), .int 2]) nta
      have ata : (upd H7 ta (.tup [.int (0 - 3), .int 2])) ta = some (.tup [.int (0 - 3), .int 2]) := upd_same
      replace at1 := z _ _ at1
      replace at2 := z _ _ at2
      replace al3 := z _ _ al3
      generalize upd H7 ta (.tup [.int (0 - 3), .int 2]) = H8 at al3 at1 at2 ata ⊢
      clear z nta
      refine ⟨(by show 2 ≤ sizeLine; decide), fun tb ntb => ?_⟩
      have z := same_upd (o := .tup [.int 0, .int 1]) ntb
      have atb : (upd H8 tb (.tup [.int 0, .int 1])) tb = some (.tup [.int 0, .int 1]) := upd_same
      replace at1 := z _ _ at1
      replace at2 := z _ _ at2
      replace ata := z _ _ ata
      replace al3 := z _ _ al3
      generalize upd H8 tb (.tup [.int 0, .int 1]) = H9 at al3 at1 at2 ata atb ⊢
      clear z ntb
      refine ⟨(by show 10 ≤ sizeLine; decide), fun l4 nl4 => ?_⟩
      have z := same_upd (o := .lst [.bl true, .bl true, .bl false, .bl true, .bl true, .int 8, .int 60, .ref ta, .ref tb, .bl true]) nl4
      have al4 : (upd H9 l4 (.lst [.bl true, .bl true, .bl false, .bl true, .bl true, .int 8, .int 60, .ref ta, .ref tb, .bl true])) l4 = some (.lst [.bl true, .bl true, .bl false, .bl true, .bl true, .int 8, .int 60, .ref ta, .ref tb, .bl true]) := upd_same
      replace at1 := z _ _ at1
      replace at2 := z _ _ at2
      replace ata := z _ _ ata
      replace atb := z _ _ atb
      replace al3 := z _ _ al3
      generalize upd H9 l4 (.lst [.bl true, .bl true, .bl false, .bl true, .bl true, .int 8, .int 60, .ref ta, .ref tb, .bl true]) = H10 at al3 al4 at1 at2 ata atb ⊢
      clear z nl4
      have dd : ∀ (x y z : Addr) (i : Int), H10 z = some (.lst [.bl true, .bl true, .bl false, .bl true, .bl true, .int 8, .int 60, .ref x, .ref y, .bl true]) → H10 x = some (.tup [.int i, .int 2]) → H10 y = some (.tup [.int 0, .int 1]) →
          Dp K H10 (.ref z) (.list [.bool true, .bool true, .bool false, .bool true, .bool true, .int 8, .int 60, .tuple [.int i, .int 2], .tuple [.int 0, .int 1], .bool true]) := fun x y z i hz hx hy =>
        .lst (SqL.of hz) (.cons (.bl _) (.cons (.bl _) (.cons (.bl _) (.cons (.bl _) (.cons (.bl _) (.cons (.int _) (.cons (.int _) (.cons (.tup (SqT.of hx) (.cons (.int _) (.cons (.int _) .nil))) (.cons (.tup (SqT.of hy) (.cons (.int _) (.cons (.int _) .nil))) (.cons (.bl _) .nil))))))))))
      refine ⟨_, _, dd p1 p2 l3 _ al3 at1 at2, dd ta tb l4 _ al4 ata atb, by decide +kernel, by decide +kernel, ?_⟩
      have fin : PyData.eqv (.list [.bool true, .bool true, .bool false, .bool true, .bool true, .int 8, .int 60, .tuple [.int (-3), .int 2], .tuple [.int 0, .int 1], .bool true])
          (.list [.bool true, .bool true, .bool false, .bool true, .bool true, .int 8, .int 60, .tuple [.int (0 - 3), .int 2], .tuple [.int 0, .int 1], .bool true]) = true := by decide +kernel
      rw [fin]
      exact q _
end
end Lx

/-! The end of a law that makes lambdas, promised where no repr is under way; what loose names hold is handed on. -/
namespace Fw
open PySem PySem.Spec PyProof.Rows L2
/-- an empty table of code objects at t.2, of the code object at t.1, and neither is written out -/
structure TabAt (K : PySem.W.Frag) (h : Heap) (t : Addr × Addr) : Prop where
  at_ : h.get? t.2 = some { cls := .none, data := .fields #[] }
  off : K.lookup t.2 = none
  cd : PySem.W.CodeHd h t.1 t.2
theorem ends_tabs {P : Program} {w : World} {K : PySem.W.Frag} {mg mb : Str → Option Value} {CX : CXT} {k : Nat} {fa a : Addr} {fd : FuncData} {x : Str} {sp : Sp} {s₁ : Shared} {vs : List Value} {H : Hp} {L : List V} {ts : List (Addr × Addr)}
    (KX : K.In s₁.heap) (hns : s₁.heap.Ns mainGlobals mg) (hb : s₁.heap.Ns builtinsNs mb) (hbb : ∀ y : Str, y ≠ "__name__" → mb y = bootBuiltins y) (hlim : s₁.heap.NoLimit) (hg : s₁.gens = #[])
    (ha : s₁.heap.get? a = some { cls := .type "list", data := .seq vs.toArray }) (hr : Room k callerA) (tb : ∀ t ∈ ts, TabAt K s₁.heap t)
    (hm : ∃ (m : Addr) (om : Obj), mg "__builtins__" = some (.ref m) ∧ m ≠ builtinsNs ∧ s₁.heap.get? m = some om ∧ om.cls = .type "module" ∧ om.dict = some builtinsNs ∧ om.data = .plain)
    (F : ∀ base : Heap, K.In base → base.Ns mainGlobals mg → (∀ t ∈ ts, LamX.TabB base mg t.1 t.2) → FnG P w K mg base CX k fa fd [x] sp) (hbind : ∀ (s : Shared) (u : Value), BindsTo s fd ⟨[u], []⟩ [(x, u)])
    (hsp : sp [.ref a] H (fun v _ => v = .bl true) fun _ _ _ => False) (hCX : ∀ e s', CX [] H s₁ (fun _ _ _ => False) e s' → False)
    (only : ∀ b u, H b = some u → (b = a ∧ K.lookup a = none ∧ ∃ o, u = .frz o (.lst L)) ∨ ∃ c, (c, b) ∈ ts) (tr : ∀ t ∈ ts, H t.2 = some (.tbl #[])) (held : HOk P w H s₁.heap) :
    codeAny (model P w) callerA (.call (.ref fa) ⟨[.ref a], []⟩) (fun r s' => r = .ok (.ret (.bool true)) ∧ OldK s₁.heap s'.heap ∧ s'.os = s₁.os ∧ AllBare s'.gens) s₁ := by
  have away : ∀ {b : Addr} {o : Obj}, s₁.heap.get? b = some o → (b = a → K.lookup a = none → False) → (∀ c, (c, b) ∈ ts → False) → H b = none := by
    intro b o _ n1 n2
    cases q : H b with
    | none => rfl
    | some u =>
      rcases only b u q with ⟨e, n, _⟩ | ⟨c, m⟩
      · exact (n1 e n).elim
      · exact (n2 c m).elim
  have other : ∀ {b : Addr} {o : Obj}, s₁.heap.get? b = some o → (∀ us n, o.data ≠ .seq us n) → o.data ≠ .fields #[] → H b = none := by
    intro b o e n1 n2
    refine away e (fun z _ => ?_) (fun c m => ?_)
    · rw [z, ha] at e
      cases e
      exact n1 _ _ rfl
    · rw [(tb _ m).at_] at e
      cases e
      exact n2 rfl
  have dicts : ∀ {b : Addr} {o : Obj} {es : Array DictEntry} {ep : Nat}, s₁.heap.get? b = some o → o.data = .dict es ep → H b = none := fun e d =>
    other e (fun us n z => Data.noConfusion (d.symm.trans z)) (fun z => Data.noConfusion (d.symm.trans z))
  have spaces : ∀ {b : Addr} {m : Str → Option Value}, s₁.heap.Ns b m → (hidT s₁.heap H).Ns b m := by
    rintro b m ⟨o, es, ep, e, d, more⟩
    exact ⟨o, es, ep, hidT_get e (dicts e d), d, more⟩
  have written : K.In (hidT s₁.heap H) := by
    intro b o e
    refine hidT_get (KX b o e) (away (KX b o e) (fun z n => ?_) (fun c m => ?_))
    · rw [z, n] at e
      cases e
    · rw [(tb _ m).off] at e
      cases e
  have room : Mod K mg (hidT s₁.heap H) := by
    obtain ⟨mc, l1, l2⟩ := hlim
    exact ⟨written, spaces hns, ⟨mb, spaces hb, hbb⟩, ⟨mc, spaces l1, l2⟩⟩
  have codes : ∀ t ∈ ts, LamX.TabB (hidT s₁.heap H) mg t.1 t.2 := by
    intro t mt
    have T := tb t mt
    refine ⟨?_, ?_, fun z => ?_⟩
    · obtain ⟨o, us, f1, f2, f3, f4, f5, f6, f7, g0, g1, g2, g3, rest⟩ := T.cd
      refine ⟨o, us, f1, f2, f3, f4, f5, f6, f7, hidT_get g0 (other g0 (fun us n z => Data.noConfusion (g2.symm.trans z)) fun z => ?_), g1, g2, g3, rest⟩
      rw [g2] at z
      cases z
      simp at g3
    · obtain ⟨m, om, e1, e2, e3, e4, e5, e6⟩ := hm
      have mG : m ≠ mainGlobals := fun z => by
        obtain ⟨o, es, ep, q, d, _⟩ := hns
        rw [← z, e3] at q
        cases q
        rw [e6] at d
        cases d
      have mT : m ≠ t.2 := fun z => by
        have q := T.at_
        rw [← z, e3] at q
        cases q
        cases e6
      exact ⟨m, om, e1, e2, mG, mT, hidT_get e3 (other e3 (fun us n z => Data.noConfusion (e6.symm.trans z)) (fun z => Data.noConfusion (e6.symm.trans z))), e4, e5, e6⟩
    · obtain ⟨o, es, ep, q, d, _⟩ := hns
      have q2 := T.at_
      rw [← z, q] at q2
      cases q2
      cases d
  have entry : Env0 P w K mg (hidT s₁.heap H) callerA [] s₁ H :=
    { frames := rfl, mod := room, bs := fun b o e => of_hidT e, bsz := Nat.le_of_eq (hidT_size _ _), funs := trivial, frf := fun b hm => (List.not_mem_nil hm).elim, hok := held, bare := .of_eq hg }
  apply codeAny_mono ((F _ written (spaces hns) codes).goes callerA [] s₁ H ⟨[.ref a], []⟩ [.ref a] [.ref a] _ _ (fun _ => rfl) hr entry (hbind s₁ (.ref a)) (.cons rfl .nil) hsp)
  intro res s' ends
  match res, ends with
  | .error er, ends => exact (hCX er s' ends).elim
  | .ok .next, ends => exact ends.elim
  | .ok .brk, ends => exact ends.elim
  | .ok .cont, ends => exact ends.elim
  | .ok (.ret u), ⟨v, H', os, bare, un, held', rv, q⟩ =>
    have q' : v = .bl true := q
    subst q'
    cases rv
    have stays : ∀ b o, s₁.heap.get? b = some o → (∀ c, (c, b) ∈ ts → False) → s'.heap.get? b = some o := by
      intro b o e no
      cases q : H b with
      | none => exact un.keep b o e q (fun z => (List.not_mem_nil z).elim) (fun z => (List.not_mem_nil z).elim)
      | some u =>
        rcases only b u q with ⟨_, _, ob, z⟩ | ⟨c, m⟩
        · rw [z] at q
          obtain ⟨x1, _⟩ := held b _ q
          obtain ⟨x2, _⟩ := held' b _ (un.frzs b ob _ q)
          rw [e] at x1
          cases x1
          exact x2
        · exact (no c m).elim
    have grows : ∀ t ∈ ts, ∃ more : Array Value, s'.heap.get? t.2 = some { cls := .none, data := .fields more } := fun t mt => by
      obtain ⟨more, z⟩ := un.tbls t.2 #[] (tr t mt)
      exact ⟨_, held' t.2 _ z⟩
    refine ⟨rfl, ⟨fun b o e => ?_, fun b o e => ?_⟩, os, bare⟩
    · by_cases m : ∃ c, (c, b) ∈ ts
      · obtain ⟨c, m⟩ := m
        obtain ⟨more, z⟩ := grows _ m
        have T := tb _ m
        have e2 := T.at_
        rw [e] at e2
        cases e2
        exact .inr (.inl ⟨(T.cd.tab T.at_).isCodeTable, rfl, #[], more, rfl, by rw [Array.empty_append]; exact z⟩)
      · exact .inl (stays b o e fun c n => m ⟨c, n⟩)
    · by_cases m : ∃ c, (c, b) ∈ ts
      · obtain ⟨c, m⟩ := m
        obtain ⟨more, z⟩ := grows _ m
        exact ⟨_, z⟩
      · exact ⟨o, stays b o e fun c n => m ⟨c, n⟩⟩
/-- the goal that the head leaves -/
theorem walkT {l : PySem.W.OpenLaw} {n k : Nat} {q : Program} {loose : List Str} {XP : (Str → Option Value) → Heap → Prop} {YP : World → Heap → Prop} {d : DefRec} {K : Params → PySem.W.Frag} {CX : World → CXT} {sp : World → Sp} {x : Str} {ts : List (Addr × Addr)}
    (hn : l.most = some n) (hn2 : n ≤ sizeLine) (hdf : d.params.defaults = []) (hr : Room k callerA) (hY : ∀ (w : World) (h : Heap), YP w h → (K w.params).In h ∧ ∀ t ∈ ts, TabAt (K w.params) h t)
    (F : ∀ (w : World) (mg : Str → Option Value) (fa : Addr) (h : Heap), (K w.params).In h → h.Ns mainGlobals mg → XP mg h → mg d.name = some (.ref fa) →
      ∃ fd : FuncData, (∀ (s : Shared) (u : Value), BindsTo s fd ⟨[u], []⟩ [(x, u)]) ∧ ∀ base : Heap, (K w.params).In base → base.Ns mainGlobals mg → (∀ t ∈ ts, LamX.TabB base mg t.1 t.2) → FnG l.prog w (K w.params) mg base (CX w) k fa fd [x] (sp w))
    (hsp : ∀ (w : World) (H : Hp) (a : Addr) (ns : List Int), ns.length ≤ n → SqL (K w.params) H a (ns.map V.int) → (∀ t ∈ ts, H t.2 = some (.tbl #[])) → sp w [.ref a] H (fun v _ => v = .bl true) fun _ _ _ => False)
    (hCX : ∀ (w : World) (H : Hp) (s : Shared) (e : Value) (s' : Shared), CX w [] H s (fun _ _ _ => False) e s' → False) :
    PySem.W.WalkO q loose XP YP l.row.toRowW d [] (fun f vs => PySem.call f vs) := by
  apply Att.attach_call hn hdf
  intro w s₀ s₁ mg mb fa o pm cd doc a vs ns G Y ho hd hcd hmg hobj hints hlen hg
  obtain ⟨KX, tb⟩ := hY w _ Y
  obtain ⟨fd, hb, hF⟩ := F w mg fa _ KX G.T.g (PySem.W.Ground.X G) hmg
  have rv := L2.vals_ints hints
  have lv := hints.length
  have hl : ns.length ≤ sizeLine := Nat.le_trans hlen hn2
  have noT : ∀ c, (c, a) ∈ ts → False := fun c m => by
    have e := (tb _ m).at_
    rw [hobj] at e
    cases e
  have tabbed : ∀ {c b : Addr}, (c, b) ∈ ts → b ∈ ts.map (·.2) := fun m => List.mem_map.mpr ⟨_, m, rfl⟩
  have untab : ∀ {b : Addr}, b ∈ ts.map (·.2) → ∃ c, (c, b) ∈ ts := fun {b} m => by
    obtain ⟨t, mt, e⟩ := List.mem_map.mp m
    exact ⟨t.1, by rw [← e]; exact mt⟩
  cases hk : (K w.params).lookup a with
  | some u =>
    have same := KX a u hk
    rw [hobj] at same
    cases same
    let H0 : Hp := fun b => if b ∈ ts.map (·.2) then some (.tbl #[]) else none
    have yes : ∀ {b : Addr}, b ∈ ts.map (·.2) → H0 b = some (.tbl #[]) := fun m => if_pos m
    have no : ∀ {b : Addr}, b ∉ ts.map (·.2) → H0 b = none := fun m => if_neg m
    have cases0 : ∀ b u, H0 b = some u → b ∈ ts.map (·.2) ∧ u = .tbl #[] := fun b u z => by
      by_cases m : b ∈ ts.map (·.2)
      · rw [yes m] at z
        exact ⟨m, (Option.some.inj z).symm⟩
      · rw [no m] at z
        cases z
    refine ends_tabs (H := H0) (L := []) KX G.T.g G.T.b G.T.builtins G.T.nolimit hg hobj hr tb G.T.bmain hF hb (hsp w H0 a ns hlen (.inr ⟨_, vs.toArray, _, hk, rfl, rfl, rfl, ?_, by simpa using rv⟩) fun t mt => yes (tabbed mt)) (hCX w H0 s₁) (fun b u z => .inr (untab (cases0 b u z).1)) (fun t mt => yes (tabbed mt)) ?_
    · rw [List.size_toArray, lv]
      exact hl
    · intro b u z
      obtain ⟨m, e⟩ := cases0 b u z
      obtain ⟨c, mc⟩ := untab m
      rw [e]
      exact (tb _ mc).at_
  | none =>
    let o : Obj := { cls := .type "list", data := .seq vs.toArray }
    let H1 : Hp := fun b => if b = a then some (HO.frz o (.lst (ns.map V.int))) else if b ∈ ts.map (·.2) then some (.tbl #[]) else none
    have there : H1 a = some (HO.frz o (.lst (ns.map V.int))) := if_pos rfl
    have yes : ∀ {b : Addr}, b ∈ ts.map (·.2) → H1 b = some (.tbl #[]) := fun {b} m => by
      have ne : b ≠ a := fun z => by
        obtain ⟨c, mc⟩ := untab m
        rw [z] at mc
        exact noT c mc
      exact (if_neg ne).trans (if_pos m)
    have cases1 : ∀ b u, H1 b = some u → (b = a ∧ u = HO.frz o (.lst (ns.map V.int))) ∨ (b ∈ ts.map (·.2) ∧ u = .tbl #[]) := fun b u z => by
      by_cases e : b = a
      · rw [e, there] at z
        exact .inl ⟨e, (Option.some.inj z).symm⟩
      · by_cases m : b ∈ ts.map (·.2)
        · rw [yes m] at z
          exact .inr ⟨m, (Option.some.inj z).symm⟩
        · have none_ : H1 b = none := (if_neg e).trans (if_neg m)
          rw [none_] at z
          cases z
    refine ends_tabs (H := H1) (L := ns.map V.int) KX G.T.g G.T.b G.T.builtins G.T.nolimit hg hobj hr tb G.T.bmain hF hb (hsp w H1 a ns hlen (.inl (.inr ⟨o, there⟩)) fun t mt => yes (tabbed mt)) (hCX w H1 s₁) ?_ (fun t mt => yes (tabbed mt)) ?_
    · intro b u z
      rcases cases1 b u z with ⟨e1, e2⟩ | ⟨m, _⟩
      · exact .inl ⟨e1, hk, _, e2⟩
      · exact .inr (untab m)
    · intro b u z
      rcases cases1 b u z with ⟨e1, e2⟩ | ⟨m, e⟩
      · rw [e1, e2]
        exact ⟨hobj, by rw [List.length_map]; exact hl, vs, _, rv, hobj⟩
      · obtain ⟨c, mc⟩ := untab m
        rw [e]
        exact (tb _ mc).at_
end Fw

/-! The end. -/
namespace Lx
open PySem PySem.Spec PyProof.Rows L2 Fw LamX
def niBm : List Value := [.type "IndexError", .type "LookupError", .type "Exception", .type "BaseException", .type "object"]
theorem niBehind : Behind niBm "IndexError" := ⟨by decide +kernel, by decide +kernel, by decide +kernel, by decide +kernel, fun self => by kernel_rfl⟩
theorem two_tabs {H : Hp} {a b : Addr} {q r : Str} (ha : H a = some (.tbl #[])) (hb : H b = some (.tbl #[])) : Tabs [(a, q), (b, r)] H := by
  intro p m
  simp only [List.mem_cons, List.not_mem_nil, or_false] at m
  rcases m with rfl | rfl
  · exact .nil ha
  · exact .nil hb
theorem int_lit {h : Heap} {v : Value} {i : Int} {as : List Addr} (r : PySem.W.ReadsLit h v (.int i) as) : ∃ t, v = .int i t := by
  cases r
  exact ⟨_, rfl⟩
set_option maxHeartbeats 20000000 in
theorem all_mk {l : PySem.W.OpenLaw} {w : World} {K : PySem.W.Frag} {h : Heap} {mg : Str → Option Value} {fa fI fC fN fA fDf fK fX fF fG fW fLo fD0 fR fP fQ fL fD fU fM fJ fCo flaw fNa cNa fFr cFr CP CN CI : Addr} (X : K.In h) (G : h.Ns mainGlobals mg) (hfa : mg "law" = some (.ref fa)) (bd : ∃ t, mg "_BOUND" = some (.int BB t))
    (mI : PySem.W.nsIn K mainGlobals "is_integer" = some (some (.ref fI)))
    (FI : ∃ fd, Fun K "is_integer" "is_integer" sInteger fI fd)
    (mC : PySem.W.nsIn K mainGlobals "is_count" = some (some (.ref fC)))
    (FC : ∃ fd, Fun K "is_count" "is_count" sCount fC fd)
    (mN : PySem.W.nsIn K mainGlobals "is_name" = some (some (.ref fN)))
    (FN : ∃ fd, Fun K "is_name" "is_name" sName fN fd)
    (mA : PySem.W.nsIn K mainGlobals "are_names" = some (some (.ref fA)))
    (FA : ∃ fd, Fun K "are_names" "are_names" sNames fA fd)
    (mDf : PySem.W.nsIn K mainGlobals "are_different" = some (some (.ref fDf)))
    (FDf : ∃ fd, Fun K "are_different" "are_different" sDifferent fDf fd)
    (mK : PySem.W.nsIn K mainGlobals "has_keys" = some (some (.ref fK)))
    (FK : ∃ fd, Fun K "has_keys" "has_keys" sKeys fK fd)
    (mX : PySem.W.nsIn K mainGlobals "is_naming" = some (some (.ref fX)))
    (FX : ∃ fd, Fun K "is_naming" "is_naming" sNaming fX fd)
    (mF : PySem.W.nsIn K mainGlobals "is_fraction" = some (some (.ref fF)))
    (FF : ∃ fd, Fun K "is_fraction" "is_fraction" sIsFraction fF fd)
    (mG : PySem.W.nsIn K mainGlobals "fraction" = some (some (.ref fG)))
    (FG : ∃ fd, Fun K "fraction" "fraction" sFraction fG fd)
    (mW : PySem.W.nsIn K mainGlobals "_is_whole" = some (some (.ref fW)))
    (FW : ∃ fd, Fun K "_is_whole" "_is_whole" sWhole fW fd)
    (mLo : PySem.W.nsIn K mainGlobals "lowest" = some (some (.ref fLo)))
    (FLo : ∃ fd, Fun K "lowest" "lowest" sLowest fLo fd)
    (mD0 : PySem.W.nsIn K mainGlobals "_law_dice" = some (some (.ref fD0)))
    (FD0 : ∃ fd, Fun K "_law_dice" "_law_dice" sDice fD0 fd)
    (mR : PySem.W.nsIn K mainGlobals "_law_roll" = some (some (.ref fR)))
    (FR : ∃ fd, Fun K "_law_roll" "_law_roll" sRoll fR fd)
    (mP : PySem.W.nsIn K mainGlobals "_law_pick" = some (some (.ref fP)))
    (FP : ∃ fd, Fun K "_law_pick" "_law_pick" sPick fP fd)
    (mQ : PySem.W.nsIn K mainGlobals "_law_mixed" = some (some (.ref fQ)))
    (FQ : ∃ fd, Fun K "_law_mixed" "_law_mixed" sMixed fQ fd)
    (mL : PySem.W.nsIn K mainGlobals "_law_lettered" = some (some (.ref fL)))
    (FL : ∃ fd, Fun K "_law_lettered" "_law_lettered" sLettered fL fd)
    (mD : PySem.W.nsIn K mainGlobals "_law_word" = some (some (.ref fD)))
    (FD : ∃ fd, Fun K "_law_word" "_law_word" sWord fD fd)
    (mU : PySem.W.nsIn K mainGlobals "_law_number" = some (some (.ref fU)))
    (FU : ∃ fd, Fun K "_law_number" "_law_number" sNumber fU fd)
    (mM : PySem.W.nsIn K mainGlobals "_law_met" = some (some (.ref fM)))
    (FM : ∃ fd, Fun K "_law_met" "_law_met" sMet fM fd)
    (mJ : PySem.W.nsIn K mainGlobals "_law_judged_right" = some (some (.ref fJ)))
    (FJ : ∃ fd, Fun K "_law_judged_right" "_law_judged_right" sJudged fJ fd)
    (mCo : PySem.W.nsIn K mainGlobals "_law_common" = some (some (.ref fCo)))
    (FCo : ∃ fd, Fun K "_law_common" "_law_common" sCommon fCo fd)
    (mlaw : PySem.W.nsIn K mainGlobals "law" = some (some (.ref flaw)))
    (Flaw : ∃ fd, Fun K "law" "law" sLaw flaw fd)
    (mNa : PySem.W.nsIn K mainGlobals "_law_namings_right" = some (some (.ref fNa)))
    (FNa : ∃ fd, FunC K "_law_namings_right" "_law_namings_right" sNamings fNa fd (.ref cNa))
    (kNa : PySem.W.keepIn K (.ref fNa) = true)
    (mFr : PySem.W.nsIn K mainGlobals "_law_fractions_right" = some (some (.ref fFr)))
    (FFr : ∃ fd, FunC K "_law_fractions_right" "_law_fractions_right" sFractions fFr fd (.ref cFr))
    (kFr : PySem.W.keepIn K (.ref fFr) = true)
    (eP : PySem.W.nsIn K mainGlobals "InvalidPlace" = some (some (.ref CP)))
    (eN : PySem.W.nsIn K mainGlobals "InvalidNumber" = some (some (.ref CN)))
    (kpP : PySem.W.keepIn K (.ref CP) = true)
    (kpN : PySem.W.keepIn K (.ref CN) = true)
    (xP : PySem.W.excIn K CP [.type "ValueError", .type "Exception", .type "BaseException", .type "object"] "ValueError.__new__" = true)
    (sP : PySem.W.subIn K (.ref CP) (.type "BaseException") = some true)
    (yP : PySem.W.typeIn K (.ref CP) = some (.type "type"))
    (sN : PySem.W.subIn K (.ref CN) (.type "BaseException") = some true)
    (yN : PySem.W.typeIn K (.ref CN) = some (.type "type"))
    (lN : ∃ nm q N bs sn sub ab col dd k0 k1 k2 k3 k5, K.lookup CN = some (excClassObj nm q CN N bs niBm true sn sub ab col dd k0 k1 k2 k3 k5 "IndexError.__new__"))
    (gaN : PySem.W.findIn K (.ref CN) "__getattribute__" = some (some (.builtin "BaseException.__getattribute__")))
    (ggN : PySem.W.findIn K (.ref CN) "__getattr__" = some none)
    (hdN : PySem.W.hasDictIn K CN = true)
    (saN : PySem.W.findIn K (.ref CN) "__setattr__" = some (some (.builtin "object.__setattr__")))
    (nfN : PySem.W.findIn K (.ref CN) "value" = some none)
    (icN : PySem.W.findIn K (.ref CN) "__init__" = some (some (.ref CI)))
    (tiN : PySem.W.typeIn K (.ref CI) = some (.type "function"))
    (fnN : ∃ (oc : Value) (od : Option Addr) (doc pm : Value) (an : Option Addr) (cdv ct : Value) (osl : Array (Option Value)) (p1 p2 q1 q2 q3 q4 : Pos), K.lookup CI = some ⟨oc, od, .func (PySem.W.fnOf "__init__" "InvalidNumber.__init__" (inA "value" p1 p2) (inB "value" q1 q2 q3 q4) (inS "value") .none .none doc pm an cdv ct), osl⟩ ∧ PySem.W.codeIn K cdv "InvalidNumber.__init__" = true)
    (hdP : PySem.W.hasDictIn K CP = true)
    (nn : PySem.W.subIn K (.ref CN) (.ref CN) = some true)
    (pn : PySem.W.subIn K (.ref CP) (.ref CN) = some false)
    (pp : PySem.W.subIn K (.ref CP) (.ref CP) = some true)
    (gcd : PySem.W.nsIn K mainGlobals "gcd" = some (some (.builtin "math.gcd")))
    (ml : ∃ t, PySem.W.nsIn K mainGlobals "MAX_LETTERS" = some (some (.int 8 t)))
    (mf : ∃ t, PySem.W.nsIn K mainGlobals "MAX_FIGURES" = some (some (.int 60 t)))
    (z_int : PySem.W.nsIn K mainGlobals "int" = some none)
    (z_len : PySem.W.nsIn K mainGlobals "len" = some none)
    (z_max : PySem.W.nsIn K mainGlobals "max" = some none)
    (z_abs : PySem.W.nsIn K mainGlobals "abs" = some none)
    (z_isinstance : PySem.W.nsIn K mainGlobals "isinstance" = some none)
    (z_repr : PySem.W.nsIn K mainGlobals "repr" = some none)
    (z_range : PySem.W.nsIn K mainGlobals "range" = some none)
    (z_min : PySem.W.nsIn K mainGlobals "min" = some none)
    (z_bool : PySem.W.nsIn K mainGlobals "bool" = some none)
    (z_str : PySem.W.nsIn K mainGlobals "str" = some none)
    (z_tuple : PySem.W.nsIn K mainGlobals "tuple" = some none)
    (z_dict : PySem.W.nsIn K mainGlobals "dict" = some none)
    (z_all : PySem.W.nsIn K mainGlobals "all" = some none)
    (z_set : PySem.W.nsIn K mainGlobals "set" = some none)
    (z_sorted : PySem.W.nsIn K mainGlobals "sorted" = some none)
    (z_list : PySem.W.nsIn K mainGlobals "list" = some none)
    : ∃ fd : FuncData, (∀ (s : Shared) (u : Value), BindsTo s fd ⟨[u], []⟩ [("_law_script", u)]) ∧ ∀ base : Heap, K.In base → base.Ns mainGlobals mg → (∀ t ∈ [(cNa, 219), (cFr, 231)], LamX.TabB base mg t.1 t.2) → FnG l.prog w K mg base CX0 8 fa fd ["_law_script"] (spLaw K [(219, qNam), (231, qFra)]) := by
  have e := hfa.symm.trans (PySem.W.mg_of X G mlaw)
  cases e
  obtain ⟨dI, FI⟩ := FI
  have bI : Binds K dI ["value"] [] := FI.binds (ps := ["value"]) fun _ _ _ _ _ _ us hl => match us, hl with | [_], _ => rfl
  have gI := PySem.W.mg_of X G mI
  obtain ⟨dC, FC⟩ := FC
  have bC : Binds K dC ["value"] [] := FC.binds (ps := ["value"]) fun _ _ _ _ _ _ us hl => match us, hl with | [_], _ => rfl
  have gC := PySem.W.mg_of X G mC
  obtain ⟨dN, FN⟩ := FN
  have bN : Binds K dN ["value"] [] := FN.binds (ps := ["value"]) fun _ _ _ _ _ _ us hl => match us, hl with | [_], _ => rfl
  have gN := PySem.W.mg_of X G mN
  obtain ⟨dA, FA⟩ := FA
  have bA : Binds K dA ["value"] [] := FA.binds (ps := ["value"]) fun _ _ _ _ _ _ us hl => match us, hl with | [_], _ => rfl
  have gA := PySem.W.mg_of X G mA
  obtain ⟨dDf, FDf⟩ := FDf
  have bDf : Binds K dDf ["value", "least"] [] := FDf.binds (ps := ["value", "least"]) fun _ _ _ _ _ _ us hl => match us, hl with | [_, _], _ => rfl
  have gDf := PySem.W.mg_of X G mDf
  obtain ⟨dK, FK⟩ := FK
  have bK : Binds K dK ["value", "names"] [] := FK.binds (ps := ["value", "names"]) fun _ _ _ _ _ _ us hl => match us, hl with | [_, _], _ => rfl
  have gK := PySem.W.mg_of X G mK
  obtain ⟨dX, FX⟩ := FX
  have bX : Binds K dX ["names", "value"] [] := FX.binds (ps := ["names", "value"]) fun _ _ _ _ _ _ us hl => match us, hl with | [_, _], _ => rfl
  have gX := PySem.W.mg_of X G mX
  obtain ⟨dF, FF⟩ := FF
  have bF : Binds K dF ["value"] [] := FF.binds (ps := ["value"]) fun _ _ _ _ _ _ us hl => match us, hl with | [_], _ => rfl
  have gF := PySem.W.mg_of X G mF
  obtain ⟨dG, FG⟩ := FG
  have bG : Binds K dG ["top", "bottom"] [] := FG.binds (ps := ["top", "bottom"]) fun _ _ _ _ _ _ us hl => match us, hl with | [_, _], _ => rfl
  have gG := PySem.W.mg_of X G mG
  obtain ⟨dW, FW⟩ := FW
  have bW : Binds K dW ["value"] [] := FW.binds (ps := ["value"]) fun _ _ _ _ _ _ us hl => match us, hl with | [_], _ => rfl
  have gW := PySem.W.mg_of X G mW
  obtain ⟨dLo, FLo⟩ := FLo
  have bLo : Binds K dLo ["top", "bottom"] [] := FLo.binds (ps := ["top", "bottom"]) fun _ _ _ _ _ _ us hl => match us, hl with | [_, _], _ => rfl
  have gLo := PySem.W.mg_of X G mLo
  obtain ⟨dD0, FD0⟩ := FD0
  have bD0 : Binds K dD0 ["_law_script", "_law_spot"] [] := FD0.binds (ps := ["_law_script", "_law_spot"]) fun _ _ _ _ _ _ us hl => match us, hl with | [_, _], _ => rfl
  have gD0 := PySem.W.mg_of X G mD0
  obtain ⟨dR, FR⟩ := FR
  have bR : Binds K dR ["_law_dice_here", "_law_total"] [] := FR.binds (ps := ["_law_dice_here", "_law_total"]) fun _ _ _ _ _ _ us hl => match us, hl with | [_, _], _ => rfl
  have gR := PySem.W.mg_of X G mR
  obtain ⟨dP, FP⟩ := FP
  have bP : Binds K dP ["_law_dice_here", "_law_items"] [] := FP.binds (ps := ["_law_dice_here", "_law_items"]) fun _ _ _ _ _ _ us hl => match us, hl with | [_, _], _ => rfl
  have gP := PySem.W.mg_of X G mP
  obtain ⟨dQ, FQ⟩ := FQ
  have bQ : Binds K dQ ["_law_dice_here", "_law_items"] [] := FQ.binds (ps := ["_law_dice_here", "_law_items"]) fun _ _ _ _ _ _ us hl => match us, hl with | [_, _], _ => rfl
  have gQ := PySem.W.mg_of X G mQ
  obtain ⟨dL, FL⟩ := FL
  have bL : Binds K dL ["_law_value"] [] := FL.binds (ps := ["_law_value"]) fun _ _ _ _ _ _ us hl => match us, hl with | [_], _ => rfl
  have gL := PySem.W.mg_of X G mL
  obtain ⟨dD, FD⟩ := FD
  have bD : Binds K dD ["_law_dice_here"] [] := FD.binds (ps := ["_law_dice_here"]) fun _ _ _ _ _ _ us hl => match us, hl with | [_], _ => rfl
  have gD := PySem.W.mg_of X G mD
  obtain ⟨dU, FU⟩ := FU
  have bU : Binds K dU ["_law_dice_here"] [] := FU.binds (ps := ["_law_dice_here"]) fun _ _ _ _ _ _ us hl => match us, hl with | [_], _ => rfl
  have gU := PySem.W.mg_of X G mU
  obtain ⟨dM, FM⟩ := FM
  have bM : Binds K dM ["_law_call"] [] := FM.binds (ps := ["_law_call"]) fun _ _ _ _ _ _ us hl => match us, hl with | [_], _ => rfl
  have gM := PySem.W.mg_of X G mM
  obtain ⟨dJ, FJ⟩ := FJ
  have bJ : Binds K dJ ["_law_dice_here"] [] := FJ.binds (ps := ["_law_dice_here"]) fun _ _ _ _ _ _ us hl => match us, hl with | [_], _ => rfl
  have gJ := PySem.W.mg_of X G mJ
  obtain ⟨dCo, FCo⟩ := FCo
  have bCo : Binds K dCo ["_law_one", "_law_other"] [] := FCo.binds (ps := ["_law_one", "_law_other"]) fun _ _ _ _ _ _ us hl => match us, hl with | [_, _], _ => rfl
  have gCo := PySem.W.mg_of X G mCo
  obtain ⟨dlaw, Flaw⟩ := Flaw
  have blaw : Binds K dlaw ["_law_script"] [] := Flaw.binds (ps := ["_law_script"]) fun _ _ _ _ _ _ us hl => match us, hl with | [_], _ => rfl
  have glaw := PySem.W.mg_of X G mlaw
  obtain ⟨dNa, FNa⟩ := FNa
  have uNa : Fun K "_law_namings_right" "_law_namings_right" sNamings fNa dNa := by
    obtain ⟨oc, od, kV, doc, pm, an, ct, osl, e1, e2, e3⟩ := FNa.ex
    exact ⟨⟨oc, od, kV, doc, pm, an, _, ct, osl, e1, e2, e3⟩, kNa⟩
  have bNa : Binds K dNa ["_law_dice_here"] [] := uNa.binds (ps := ["_law_dice_here"]) fun _ _ _ _ _ _ us hl => match us, hl with | [_], _ => rfl
  have gNa := PySem.W.mg_of X G mNa
  obtain ⟨dFr, FFr⟩ := FFr
  have uFr : Fun K "_law_fractions_right" "_law_fractions_right" sFractions fFr dFr := by
    obtain ⟨oc, od, kV, doc, pm, an, ct, osl, e1, e2, e3⟩ := FFr.ex
    exact ⟨⟨oc, od, kV, doc, pm, an, _, ct, osl, e1, e2, e3⟩, kFr⟩
  have bFr : Binds K dFr ["_law_dice_here"] [] := uFr.binds (ps := ["_law_dice_here"]) fun _ _ _ _ _ _ us hl => match us, hl with | [_], _ => rfl
  have gFr := PySem.W.mg_of X G mFr
  have y_int := PySem.W.mg_none_of X G z_int
  have y_len := PySem.W.mg_none_of X G z_len
  have y_max := PySem.W.mg_none_of X G z_max
  have y_abs := PySem.W.mg_none_of X G z_abs
  have y_isinstance := PySem.W.mg_none_of X G z_isinstance
  have y_repr := PySem.W.mg_none_of X G z_repr
  have y_range := PySem.W.mg_none_of X G z_range
  have y_min := PySem.W.mg_none_of X G z_min
  have y_bool := PySem.W.mg_none_of X G z_bool
  have y_str := PySem.W.mg_none_of X G z_str
  have y_tuple := PySem.W.mg_none_of X G z_tuple
  have y_dict := PySem.W.mg_none_of X G z_dict
  have y_all := PySem.W.mg_none_of X G z_all
  have y_set := PySem.W.mg_none_of X G z_set
  have y_sorted := PySem.W.mg_none_of X G z_sorted
  have y_list := PySem.W.mg_none_of X G z_list
  have gl : ∃ t, mg "MAX_LETTERS" = some (.int 8 t) := by
    obtain ⟨t, e⟩ := ml
    exact ⟨t, PySem.W.mg_of X G e⟩
  have gf : ∃ t, mg "MAX_FIGURES" = some (.int 60 t) := by
    obtain ⟨t, e⟩ := mf
    exact ⟨t, PySem.W.mg_of X G e⟩
  have gg := PySem.W.mg_of X G gcd
  have TD : TxD mg := ⟨y_int, y_len, y_max, y_abs⟩
  have TW : TxW K mg := ⟨y_isinstance, y_int, y_bool, y_str, y_tuple, y_dict, y_len, y_all, bd, gl, fLo, dLo, gLo, FLo, bLo⟩
  have TP : TxP K mg fR fP dR dP := ⟨TD, gR, FR, bR, gP, FP, bP⟩
  have TN : TxN K mg fA fN fK fDf dA dN dK dDf := ⟨TW, y_set, gA, FA, bA, gN, FN, bN, gK, FK, bK, gDf, FDf, bDf⟩
  have XP : ExP K mg "InvalidPlace" CP := ⟨PySem.W.mg_of X G eP, kpP, xP, sP, yP⟩
  have XN : ExK K mg "InvalidNumber" CN CI := by
    refine ⟨PySem.W.mg_of X G eN, ⟨"InvalidNumber.__init__", ?_⟩, sN, yN⟩
    obtain ⟨nm, q, N, bs, sn, sub, ab, col, dd, k0, k1, k2, k3, k5, e⟩ := lN
    exact ⟨⟨nm, q, N, bs, _, sn, sub, ab, col, dd, k0, k1, k2, k3, k5, _, _, _, _, e, PySem.F.excBase_IndexError, niBehind⟩, saN, nfN, icN, tiN, kpN, fnN⟩
  obtain ⟨cM, CM⟩ := funC_of FM
  have TM : TxM K mg CN CP fM dM cM := ⟨gM, CM, FM.kp, bM, PySem.W.mg_of X G eN, PySem.W.mg_of X G eP, y_repr, ⟨gaN, ggN, sN, hdN⟩, nfN, PySem.W.exm_ref sN hdN yN nn, PySem.W.exm_ref sN hdN yN pn, PySem.W.exm_ref sP hdP yP pp⟩
  have TJ : TxJ K mg fR fP fI fC fN fW fA fF fU fD fL dR dP dI dC dN dW dA dF dU dD dL := ⟨TW, TP, y_range, y_repr, y_abs, gg, gI, FI, bI, gC, FC, bC, gN, FN, bN, gW, FW, bW, gA, FA, bA, gF, FF, bF, gU, FU, bU, gD, FD, bD, gL, FL, bL⟩
  have TS : TxS K mg CN CP fR fP fQ fX fA fN fK fDf fM dR dP dQ dX dA dN dK dDf dM cM := ⟨TW, TP, TN, TM, XP, y_range, y_repr, y_sorted, y_list, gQ, FQ, bQ, gX, FX, bX⟩
  have TF : TxF K mg CN CP CI fR fP fI fW fF fG fCo fM dR dP dI dW dF dG dCo dM cM := ⟨TW, TP, TM, XN, y_repr, y_abs, gg, gI, FI, bI, gW, FW, bW, gF, FF, bF, gG, FG, bG, gCo, FCo, bCo⟩
  have TL : TxLaw K mg CN CP CI fR fP fI fC fN fW fA fF fU fD fL fQ fX fK fDf fG fCo fM fD0 fJ fNa fFr dR dP dI dC dN dW dA dF dU dD dL dQ dX dK dDf dG dCo dM dD0 dJ dNa dFr cM :=
    ⟨TJ, TS, TF, y_min, gl, gf, gD0, FD0, bD0, gJ, FJ, bJ, gNa, kNa, bNa, gFr, kFr, bFr⟩
  refine ⟨dlaw, fun s u => ?_, fun base _ _ tb => ok_law Flaw TL FNa FFr (tb (_, _) (by simp)) (tb (_, _) (by simp)) (by decide)⟩
  obtain ⟨oc, od, kV, doc, pm, an, cdv, ct, osl, ef, _⟩ := Flaw.ex
  rw [ef]
  exact .of_eq rfl
end Lx

open PySem PySem.W PyProof.Rows in
set_option maxRecDepth 100000 in
set_option maxHeartbeats 0 in
theorem PySem.Challenge.cw_flatwebs_k00_words_and_fractions_holds : PySem.Challenge.rw_flatwebs_k00_words_and_fractions.Holds := by
  w_on; o_law; k_head; (case hw => w_witness2)
  k_fill
  refine Fw.walkT (l := PySem.Challenge.rw_flatwebs_k00_words_and_fractions) (n := 63) (k := 8) (x := "_law_script") (CX := fun _ => L2.CX0) (sp := fun w => Lx.spLaw _ [(219, Lx.qNam), (231, Lx.qFra)]) (ts := [(?cN, 219), (?cF, 231)]) rfl (by decide) rfl ⟨rfl, by decide, by decide⟩ (fun w h Y => ⟨km_in_of Y, fun t m => ?Y⟩) ?F
    (fun w H a ns hl hS tr => ⟨a, ns, rfl, hS, hl, Lx.two_tabs (tr _ List.mem_cons_self) (tr _ (List.mem_cons_of_mem _ List.mem_cons_self)), fun _ => rfl⟩) (fun _ _ _ _ _ z => z)
  case F =>
    intro w mg fa h KX G hX hmg
    have bd : ∃ t, mg "_BOUND" = some (.int Lx.BB t) := by
      obtain ⟨v, e, r⟩ := hX.2.val ("_BOUND", .int Lx.BB) (by simp [Lx.BB])
      obtain ⟨t, ev⟩ := Lx.int_lit r
      exact ⟨t, by rw [← ev]; exact e⟩
    refine' Lx.all_mk KX G hmg bd ?mI ?FI ?mC ?FC ?mN ?FN ?mA ?FA ?mDf ?FDf ?mK ?FK ?mX ?FX ?mF ?FF ?mG ?FG ?mW ?FW ?mLo ?FLo ?mD0 ?FD0 ?mR ?FR ?mP ?FP ?mQ ?FQ ?mL ?FL ?mD ?FD ?mU ?FU ?mM ?FM ?mJ ?FJ ?mCo ?FCo ?mlaw ?Flaw ?mNa ?FNa ?kNa ?mFr ?FFr ?kFr ?eP ?eN ?kpP ?kpN ?xP ?sP ?yP ?sN ?yN ?lN ?gaN ?ggN ?hdN ?saN ?nfN ?icN ?tiN ?fnN ?hdP ?nn ?pn ?pp ?gcd ?ml ?mf ?z_int ?z_len ?z_max ?z_abs ?z_isinstance ?z_repr ?z_range ?z_min ?z_bool ?z_str ?z_tuple ?z_dict ?z_all ?z_set ?z_sorted ?z_list
    (case mI => k_is)
    (case FI => exact ⟨_, ⟨⟨_, _, _, _, _, _, _, _, _, rfl, by k_is, by k_is⟩, by k_is⟩⟩)
    (case mC => k_is)
    (case FC => exact ⟨_, ⟨⟨_, _, _, _, _, _, _, _, _, rfl, by k_is, by k_is⟩, by k_is⟩⟩)
    (case mN => k_is)
    (case FN => exact ⟨_, ⟨⟨_, _, _, _, _, _, _, _, _, rfl, by k_is, by k_is⟩, by k_is⟩⟩)
    (case mA => k_is)
    (case FA => exact ⟨_, ⟨⟨_, _, _, _, _, _, _, _, _, rfl, by k_is, by k_is⟩, by k_is⟩⟩)
    (case mDf => k_is)
    (case FDf => exact ⟨_, ⟨⟨_, _, _, _, _, _, _, _, _, rfl, by k_is, by k_is⟩, by k_is⟩⟩)
    (case mK => k_is)
    (case FK => exact ⟨_, ⟨⟨_, _, _, _, _, _, _, _, _, rfl, by k_is, by k_is⟩, by k_is⟩⟩)
    (case mX => k_is)
    (case FX => exact ⟨_, ⟨⟨_, _, _, _, _, _, _, _, _, rfl, by k_is, by k_is⟩, by k_is⟩⟩)
    (case mF => k_is)
    (case FF => exact ⟨_, ⟨⟨_, _, _, _, _, _, _, _, _, rfl, by k_is, by k_is⟩, by k_is⟩⟩)
    (case mG => k_is)
    (case FG => exact ⟨_, ⟨⟨_, _, _, _, _, _, _, _, _, rfl, by k_is, by k_is⟩, by k_is⟩⟩)
    (case mW => k_is)
    (case FW => exact ⟨_, ⟨⟨_, _, _, _, _, _, _, _, _, rfl, by k_is, by k_is⟩, by k_is⟩⟩)
    (case mLo => k_is)
    (case FLo => exact ⟨_, ⟨⟨_, _, _, _, _, _, _, _, _, rfl, by k_is, by k_is⟩, by k_is⟩⟩)
    (case mD0 => k_is)
    (case FD0 => exact ⟨_, ⟨⟨_, _, _, _, _, _, _, _, _, rfl, by k_is, by k_is⟩, by k_is⟩⟩)
    (case mR => k_is)
    (case FR => exact ⟨_, ⟨⟨_, _, _, _, _, _, _, _, _, rfl, by k_is, by k_is⟩, by k_is⟩⟩)
    (case mP => k_is)
    (case FP => exact ⟨_, ⟨⟨_, _, _, _, _, _, _, _, _, rfl, by k_is, by k_is⟩, by k_is⟩⟩)
    (case mQ => k_is)
    (case FQ => exact ⟨_, ⟨⟨_, _, _, _, _, _, _, _, _, rfl, by k_is, by k_is⟩, by k_is⟩⟩)
    (case mL => k_is)
    (case FL => exact ⟨_, ⟨⟨_, _, _, _, _, _, _, _, _, rfl, by k_is, by k_is⟩, by k_is⟩⟩)
    (case mD => k_is)
    (case FD => exact ⟨_, ⟨⟨_, _, _, _, _, _, _, _, _, rfl, by k_is, by k_is⟩, by k_is⟩⟩)
    (case mU => k_is)
    (case FU => exact ⟨_, ⟨⟨_, _, _, _, _, _, _, _, _, rfl, by k_is, by k_is⟩, by k_is⟩⟩)
    (case mM => k_is)
    (case FM => exact ⟨_, ⟨⟨_, _, _, _, _, _, _, _, _, rfl, by k_is, by k_is⟩, by k_is⟩⟩)
    (case mJ => k_is)
    (case FJ => exact ⟨_, ⟨⟨_, _, _, _, _, _, _, _, _, rfl, by k_is, by k_is⟩, by k_is⟩⟩)
    (case mCo => k_is)
    (case FCo => exact ⟨_, ⟨⟨_, _, _, _, _, _, _, _, _, rfl, by k_is, by k_is⟩, by k_is⟩⟩)
    (case mlaw => k_is)
    (case Flaw => exact ⟨_, ⟨⟨_, _, _, _, _, _, _, _, _, rfl, by k_is, by k_is⟩, by k_is⟩⟩)
    (case mNa => k_is)
    (case FNa => exact ⟨_, ⟨_, _, _, _, _, _, _, _, rfl, by k_is, by k_is⟩⟩)
    (case kNa => k_is)
    (case mFr => k_is)
    (case FFr => exact ⟨_, ⟨_, _, _, _, _, _, _, _, rfl, by k_is, by k_is⟩⟩)
    (case kFr => k_is)
    (case eP => k_is)
    (case eN => k_is)
    (case kpP => k_is)
    (case kpN => k_is)
    (case xP => k_exc)
    (case sP => k_is)
    (case yP => k_is)
    (case sN => k_is)
    (case yN => k_is)
    (case lN => exact ⟨_, _, _, _, _, _, _, _, _, _, _, _, _, _, by k_is⟩)
    (case gaN => k_is)
    (case ggN => k_is)
    (case hdN => k_is)
    (case saN => k_is)
    (case nfN => k_is)
    (case icN => k_is)
    (case tiN => k_is)
    (case fnN => exact ⟨_, _, _, _, _, _, _, _, _, _, _, _, _, _, by k_is, by k_is⟩)
    (case hdP => k_is)
    (case nn => k_is)
    (case pn => k_is)
    (case pp => k_is)
    (case gcd => k_is)
    (case ml => exact ⟨_, by k_is⟩)
    (case mf => exact ⟨_, by k_is⟩)
    (case z_int => k_is)
    (case z_len => k_is)
    (case z_max => k_is)
    (case z_abs => k_is)
    (case z_isinstance => k_is)
    (case z_repr => k_is)
    (case z_range => k_is)
    (case z_min => k_is)
    (case z_bool => k_is)
    (case z_str => k_is)
    (case z_tuple => k_is)
    (case z_dict => k_is)
    (case z_all => k_is)
    (case z_set => k_is)
    (case z_sorted => k_is)
    (case z_list => k_is)
  case Y =>
    have KX := km_in_of Y
    have KT := km_tabs_of Y
    rcases List.mem_cons.mp m with rfl | m
    · exact ⟨KT 219 (by simp), by kernel_rfl, codeHd_of_K KX (by kernel_rfl)⟩
    · rw [List.mem_singleton.mp m]
      exact ⟨KT 231 (by simp), by kernel_rfl, codeHd_of_K KX (by kernel_rfl)⟩
