import PyProof.Rows.All
import Wide.All
import OpenK.AllK
import Wide.FinOn
import HandS.ForMost
import HandS.ForExc
import HandS.TryMany
import HandS.ExcValue
import HandS.ExcField
import HandS.ExcInit
import HandS.IsInst
import HandS.Wide
import HandS.Style
import KE.KExcIs
import HandS.ExcIs
import PyProof.ReprRoads
import PyProof.StrOps2
import PyProof.ExcBaseAll.LookupError
import PyProof.ExcBaseAll.IndexError
import PyProof.ExcBaseAll.RuntimeError
import PyProof.ExcBaseAll.OverflowError
import PyProof.ExcBaseAll.ArithmeticError
import PyProof.ExcBaseAll.ValueError
import HandS.HotCalls
import HandS.StrMore
import HandS.Gcd
import HandS.Ends
import HandS.SetFor
import HandS.Strs
import HandS.ListItems
import HandS.Conv
import KE.KDictList
import HandS.Walk
import HandS.TupSets
import KE.KSortTupG
import KE.LtData
import HandS.Zip
import HandS.TupAny
import HandS.Text
import PyProof.EqAt
import KE.GoesEnum
import HandS.DictComp
import HandS.Codes
import HandS.Star
import HandS.Property
import PyProof.WalkInts
import HandS.OwnEq
import HandS.More
import HandS.SetBool
import KE.DataEq
import HandS.DeepEq
import HandS.ClsMeth
import PyProof.TupleOfSeq
import HandS.CallLocal
import HandS.Lambda
import HandS.FStr
import HandS.EndTab
import PySem.Challenge.RW_flatwebs_k03_whole_webs_changed
set_option Elab.async false
set_option linter.all false
set_option maxRecDepth 100000
set_option maxHeartbeats 8000000
/-! Rules of our own over the hand layer: text times a truth, errors held as values (made, asked, read), repr of data. -/
namespace Fw
open PySem PySem.Spec PyProof.Rows L2

/-! ### 'a' * int(test) -/
theorem op_mulS {X : Cx} : OpR X (binaryOp .Mult) (fun x y H Q => ∃ z k, x = .str z ∧ y = .int (if k = true then 1 else 0) ∧ Q (.str (if k = true then z else Str.empty)) H) := by
  intro pins s σ H x y v u Q I rx ry h
  obtain ⟨z, k, rfl, rfl, q⟩ := h
  obtain ⟨t, rfl⟩ := rx
  obtain ⟨t', rfl⟩ := ry
  cases k with
  | false => exact PySem.P.mul_str_none (by decide) (by decide) ⟨.str Str.empty, H, I.tok _, ⟨_, rfl⟩, q⟩
  | true =>
    refine PySem.P.mul_str (by decide) (fun _ h => ?_) (fun _ h => ?_) ?_
    · exact absurd h (by simp)
    · exact absurd h (by simp)
    · rw [if_neg (by decide)]
      exact ⟨.str z, H, I, ⟨t, rfl⟩, q⟩

/-! ### an error that is held as a value -/
/-- an error with a dict of its own at d, not raised yet, at a -/
def ExD (D a d : Addr) : HO := .ext fun h => ∃ (oe : Obj) (vs : Array Value), h.get? a = some oe ∧ Zc (.ref D) (some d) oe ∧ oe.data = .fields vs ∧ vs[1]? = some .none ∧ 4 < vs.size
theorem exD_ok {P : Program} {w : World} {H : Hp} {h : Heap} {a D d : Addr} {oe : Obj} {vs : Array Value} (e : h.get? a = some oe) (z : Zc (.ref D) (some d) oe) (f : oe.data = .fields vs) (h1 : vs[1]? = some .none) (h5 : 4 < vs.size) : ObjOk P w H h a (ExD D a d) :=
  ⟨⟨oe, vs, e, z, f, h1, h5⟩, ⟨oe, e⟩, fun _ _ ⟨o, v, q, r⟩ k => ⟨o, v, k o q, r⟩⟩
/-- at a stands an error of the class at D -/
def IsErr (H : Hp) (a D : Addr) : Prop := H a = some (ExO (.ref D) a) ∨ ∃ (d : Addr) (fs : List (Str × V)), H a = some (ExD D a d) ∧ H d = some (.xd fs)
theorem IsErr.same {H H' : Hp} {a D : Addr} (h : IsErr H a D) (s : Same H H') : IsErr H' a D := by
  rcases h with h | ⟨d, fs, h1, h2⟩
  · exact .inl (s _ _ h)
  · exact .inr ⟨d, fs, s _ _ h1, s _ _ h2⟩

/-- .. or it is the one that is handled here -/
def Ers (X : Cx) (H : Hp) (a D : Addr) : Prop := IsErr H a D ∨ ∃ (oe : Obj) (vs : Array Value), (a, oe) ∈ X.pn ∧ Zc (.ref D) none oe ∧ oe.data = .fields vs
section
variable {X : Cx} {pins : List (Addr × Obj)} {σ : L2.St} {H : Hp} {s : Shared}
theorem inst_of {a D : Addr} (I : Inv X pins σ H s) (h : Ers X H a D) : ∃ oe od, PySem.W.InstAt s.heap a oe D od := by
  rcases h with (h | ⟨d, fs, h, hd⟩) | ⟨oe, vs, hm, z, f⟩
  · obtain ⟨⟨oe, vs, e, z, f, _⟩, _, _⟩ := I.hok a _ h
    exact ⟨oe, none, ⟨e, z.1, by unfold PySem.W.notCls; rw [f] <;> rfl, by rw [z.2]; trivial⟩⟩
  · obtain ⟨⟨oe, vs, e, z, f, _⟩, _, _⟩ := I.hok a _ h
    have hx : ObjOk X.prog X.w H s.heap d (.xd fs) := I.hok d _ hd
    obtain ⟨mA, ⟨o, es, ep, ho, _⟩, _⟩ := hx
    exact ⟨oe, some o, ⟨e, z.1, by unfold PySem.W.notCls; rw [f] <;> rfl, by rw [z.2]; exact ho⟩⟩
  · exact ⟨oe, none, ⟨(I.pin (a, oe) (List.mem_append_left _ hm)).1, z.1, by unfold PySem.W.notCls; rw [f] <;> rfl, by rw [z.2]; trivial⟩⟩
end

/-- isinstance(e, c), e an error that is held -/
def rIsH (X : Cx) : List V → Hp → VK → Prop := fun xs H Q => ∃ (a D : Addr) (c : V) (cv : Value) (b : Bool), xs = [.ref a, c] ∧ Ers X H a D ∧ L2.ExcC X.K D ∧ ClsV c cv ∧ PySem.W.kitOne X.K (.ref D) cv = some b ∧ Q (.bl b) H
theorem call_isH {X : Cx} : CallR X (.builtin "isinstance") (rIsH X) := by
  intro pins s σ H xs us Q I r h
  obtain ⟨a, D, c, cv, b, rfl, he, C, hc, e, q⟩ := h
  obtain ⟨u1, u2, rfl, r1, r2⟩ := vals2 r
  cases (show u1 = Value.ref a from r1)
  have e2 := hc.eq r2
  subst e2
  obtain ⟨oe, od, J⟩ := inst_of I he
  have hcl : (PySem.W.clsIn X.K D).isSome = true := by
    obtain ⟨cd, hcd, _⟩ := PySem.W.any_some C.hd
    rw [hcd]
    rfl
  exact PySem.W.kia_one (PySem.W.kitx_exc hcl C.hg C.hk C.hs C.ha C.hn C.ht C.hm) I.kIn J e (fun z => nomatch z) fun tk => ⟨.bl b, H, I.tok tk, rfl, q⟩

/-! ### repr of data -/
/-- x stands for the data d, whatever the heap below, also when more is laid -/
def Rp (K : PySem.W.Frag) (H : Hp) (x : V) (d : PyData) : Prop := ∀ (H' : Hp) (X : Cx) (pins : List (Addr × Obj)) (σ : L2.St) (s : Shared) (u : Value), Same H H' → X.K = K → Inv X pins σ H' s → RelV x u →
  ∃ as, Reads s.heap u d as ∧ sysModules ∉ as
def RpAll (K : PySem.W.Frag) (H : Hp) (xs : List V) (ds : List PyData) : Prop := ∀ (H' : Hp) (X : Cx) (pins : List (Addr × Obj)) (σ : L2.St) (s : Shared) (us : List Value), Same H H' → X.K = K → Inv X pins σ H' s → Vals xs us →
  ∃ as, ReadsAll s.heap us ds as ∧ sysModules ∉ as
section
variable {K : PySem.W.Frag} {H H' : Hp}
theorem Rp.same {x : V} {d : PyData} (h : Rp K H x d) (s : Same H H') : Rp K H' x d := fun H2 X pins σ z u s2 => h H2 X pins σ z u (fun b o e => s2 b o (s b o e))
theorem Rp.non : Rp K H .non .none := fun _ X pins σ s u _ _ I r => by
  cases r
  exact ⟨_, Reads.none, by intro h; cases h⟩
theorem Rp.bl (b : Bool) : Rp K H (.bl b) (.bool b) := fun _ X pins σ s u _ _ I r => by
  cases r
  exact ⟨_, Reads.bool b, by intro h; cases h⟩
theorem Rp.int (i : Int) : Rp K H (.int i) (.int i) := fun _ X pins σ s u _ _ I r => by
  obtain ⟨t, rfl⟩ := r
  exact ⟨_, Reads.int i t, by intro h; cases h⟩
theorem Rp.str (x : Str) : Rp K H (.str x) (.str x) := fun _ X pins σ s u _ _ I r => by
  obtain ⟨t, rfl⟩ := r
  exact ⟨_, Reads.str x t, by intro h; cases h⟩
theorem RpAll.nil : RpAll K H [] [] := fun _ X pins σ s us _ _ I r => by
  cases r
  exact ⟨_, ReadsAll.nil, by intro h; cases h⟩
theorem RpAll.cons {x : V} {xs : List V} {d : PyData} {ds : List PyData} (h : Rp K H x d) (t : RpAll K H xs ds) : RpAll K H (x :: xs) (d :: ds) := fun H' X pins σ s us sm e I r => by
  cases r with
  | cons r1 r2 =>
    obtain ⟨as, q1, n1⟩ := h H' X pins σ s _ sm e I r1
    obtain ⟨bs, q2, n2⟩ := t H' X pins σ s _ sm e I r2
    exact ⟨_, ReadsAll.cons q1 q2, fun m => (List.mem_append.mp m).elim n1 n2⟩
theorem Rp.lst {a : Addr} {xs : List V} {ds : List PyData} (hs : a ≠ sysModules) (h : SqL K H a xs) (t : RpAll K H xs ds) : Rp K H (.ref a) (.list ds) := fun H' X pins σ s u sm e I r => by
  cases r
  subst e
  obtain ⟨its, rv, ⟨o, n, ho, hc, _, hd⟩, _⟩ := I.list (sm.seq h)
  obtain ⟨as, hr, hn⟩ := t H' X pins σ s its sm rfl I rv
  refine ⟨_, Reads.list ho hc hd hr, fun m => ?_⟩
  rcases List.mem_cons.mp m with z | z
  · exact hs z.symm
  · exact hn z
theorem Rp.tup {a : Addr} {xs : List V} {ds : List PyData} (h : H a = some (.tup xs)) (t : RpAll K H xs ds) : Rp K H (.ref a) (.tuple ds) := fun H' X pins σ s u sm e I r => by
  cases r
  subst e
  obtain ⟨its, rv, ⟨o, ho, hc, n, hd⟩, _⟩ := I.tuple (SqT.of (sm _ _ h))
  obtain ⟨as, hr, hn⟩ := t H' X pins σ s its sm rfl I rv
  exact ⟨_, Reads.tuple ho hc hd hr, hn⟩
end
/-- repr of data, where no other repr is under way -/
theorem call_repr {X : Cx} {K : PySem.W.Frag} (hK : X.K = K) (hg : X.A.guards = some []) (hu : X.A.units + 64 < cLine) :
    CallR X (.builtin "repr") (fun xs H Q => ∃ (x : V) (d : PyData), xs = [x] ∧ Rp K H x d ∧ d.showable = true ∧ d.depth ≤ 40 ∧ d.shown.length ≤ sizeLine ∧ Q (.str d.shown) H) := by
  intro pins s σ H xs us Q I r h
  obtain ⟨x, d, rfl, hr, hs, hd, hz, q⟩ := h
  obtain ⟨u, rfl, rx⟩ := vals1 r
  obtain ⟨as, hR, hn⟩ := hr H X pins σ s u (fun _ _ e => e) hK I rx
  cases hR with
  | none => exact PySem.P.repr_of_none ⟨.str "None", H, I.tok _, ⟨_, rfl⟩, q⟩
  | bool b =>
    refine PySem.P.repr_of_bool ⟨.str (if b then "True" else "False"), H, I.tok _, ⟨_, rfl⟩, ?_⟩
    cases b <;> exact q
  | int i t => exact PySem.P.repr_of_int (by simpa [PyData.showable] using hs) ⟨.str (toString i), H, I.tok _, ⟨_, rfl⟩, q⟩
  | str y t => exact PySem.P.repr_of_str ⟨.str (reprText y), H, I.tok _, ⟨_, rfl⟩, q⟩ hz
  | list h1 h2 h3 h4 =>
    exact PySem.repr_of_reads' (h₀ := s.heap) (Reads.list h1 h2 h3 h4) hs (fun _ => hn) hg (by omega) (fun _ _ e => e) (fun h' t tk k => ⟨.str _, H, I.kept k, ⟨t, rfl⟩, q⟩) hz
  | tuple h1 h2 h3 h4 =>
    exact PySem.repr_of_reads' (h₀ := s.heap) (Reads.tuple h1 h2 h3 h4) hs (fun _ => hn) hg (by omega) (fun _ _ e => e) (fun h' t tk k => ⟨.str _, H, I.kept k, ⟨t, rfl⟩, q⟩) hz
  | dict h1 h2 h3 h4 h5 =>
    exact PySem.repr_of_reads' (h₀ := s.heap) (Reads.dict h1 h2 h3 h4 h5) hs (fun _ => hn) hg (by omega) (fun _ _ e => e) (fun h' t tk k => ⟨.str _, H, I.kept k, ⟨t, rfl⟩, q⟩) hz

/-! ### defs that are called while no repr is under way -/
/-- gg: whether the promise asks that no repr is under way -/
structure FnV (gg : Bool) (P : Program) (w : World) (K : PySem.W.Frag) (mg : Str → Option Value) (base : Heap) (CX : CXT) (k : Nat) (f : Addr) (fd : FuncData) (ps : List Str) (sp : Sp) : Prop where
  wide : ∀ vs H Q E, sp vs H Q E → vs.length = ps.length
  goes : ∀ (A : Around) (fr : List Env) (s : Shared) (H : Hp) (ar : Args) (us : List Value) (vs : List V) (Q : VK) (E : XK),
    (gg = true → A.guards = some []) → Room k A → Env0 P w K mg base A fr s H → BindsTo s fd ar (ps.zip us) → Vals vs us → sp vs H Q E →
      codeAny (model P w) A (.call (.ref f) ar) (CR CX fr P w H s Q E) s
abbrev FnG := FnV true
section
variable {gg : Bool} {P : Program} {w : World} {K : PySem.W.Frag} {mg : Str → Option Value} {base : Heap} {CX : CXT} {k : Nat} {f : Addr} {fd : FuncData} {ps : List Str} {sp : Sp}
theorem FnG.of (F : FnOk P w K mg base CX k f fd ps sp) : FnV gg P w K mg base CX k f fd ps sp :=
  ⟨F.len, fun A fr s H ar us vs Q E _ hr => F.run A fr s H ar us vs Q E hr⟩
theorem FnV.more {j : Nat} (F : FnV gg P w K mg base CX j f fd ps sp) (h : j ≤ k) : FnV gg P w K mg base CX k f fd ps sp :=
  ⟨F.wide, fun A fr s H ar us vs Q E g hr => F.goes A fr s H ar us vs Q E g (hr.mono h)⟩
theorem FnV.any (F : FnV false P w K mg base CX k f fd ps sp) : FnV gg P w K mg base CX k f fd ps sp :=
  ⟨F.wide, fun A fr s H ar us vs Q E _ hr => F.goes A fr s H ar us vs Q E (fun z => nomatch z) hr⟩
end
section
variable {gg : Bool} {X : Cx} {CX : CXT} {k : Nat} {f : Addr} {fd : FuncData} {ps : List Str} {sp : Sp} {dvs : List V} {ds : List Value} {x : Str} {p pos : Pos} {e : Expr} {es : List Expr} {t : TA}
theorem runV {pins : List (Addr × Obj)} {σ : L2.St} {H : Hp} {s : Shared} {Q : VK} {us : List Value} {vs : List V} {E : L2.St → XK} (G : gg = true → X.A.guards = some []) (F : FnV gg X.prog X.w X.K X.mg X.base CX k f fd ps sp) (hr : Room k X.A)
    (hb : Binds X.K fd ps ds) (hd : Vals dvs ds) (hx : PassesAt CX X σ (E σ)) (I : Inv X pins σ H s) (r : Vals vs us) (h : sp (vs ++ dvs) H Q (E σ)) :
    wpAny (model X.prog X.w) X.A (call (.ref f) us) (EP X pins σ Q) X.xe s := by
  have both := Vals.append r hd
  have same : (us ++ ds).length = ps.length := (Vals.length both).symm.trans (F.wide _ _ _ _ h)
  apply wpAny_call
  apply codeAny_mono (F.goes X.A X.stack s H ⟨us, []⟩ (us ++ ds) (vs ++ dvs) Q (E σ) G hr I.env0 (hb s us I.kIn same) both h)
  intro res s' ends
  match res, ends with
  | .error er, ends => exact hx pins H s er s' I ends
  | .ok (.ret u), ends => exact I.after ends
  | .ok .next, ends => exact ends.elim
  | .ok .brk, ends => exact ends.elim
  | .ok .cont, ends => exact ends.elim
/-- f(e, ..): what is wanted of an error hangs on the slots -/
def tCallG (sp : Sp) (dvs : List V) (E : L2.St → XK) (t : TA) : TE := fun σ H Q => t σ H fun vs H1 => sp (vs ++ dvs) H1 Q (E σ)
theorem pe_callV {E : L2.St → XK} (G : gg = true → X.A.guards = some []) (F : FnV gg X.prog X.w X.K X.mg X.base CX k f fd ps sp) (hr : Room k X.A) (hg : Gl X x) (hm : X.mg x = some (.ref f)) (hk : PySem.W.keepIn X.K (.ref f) = true) (hb : Binds X.K fd ps ds)
    (hd : Vals dvs ds) (hx : ∀ σ, PassesAt CX X σ (E σ)) (ha : PA X (e :: es) t) (hdb : (x == ("__debug__" : Str)) = false := by decide)
    (he : starEach (e :: es) X.env = (false, eval e X.env) :: starEach es X.env := by rfl) (hpl : (backTo pos (starEach es X.env)).any (·.1) = false := by rfl) :
    PE X (.Call (.Name x p) (e :: es) [] pos) (tCallG sp dvs E t) :=
  ⟨fun pins s σ H Q I h => wpAny_Call_Name_kw (ld_glob I hg hm
    (PySem.W.callWith_K (h₀ := X.base) I.ok.mod.kin hk (thn (ha.run pos pins s σ H _ I h) fun us s1 ⟨vs, H1, I1, r, q⟩ => ⟨I1.kIn, runV G F hr hb hd (hx σ) I1 r q⟩) he hpl) hdb)⟩
theorem pe_callG {E : L2.St → XK} (G : X.A.guards = some []) (F : FnG X.prog X.w X.K X.mg X.base CX k f fd ps sp) (hr : Room k X.A) (hg : Gl X x) (hm : X.mg x = some (.ref f)) (hk : PySem.W.keepIn X.K (.ref f) = true) (hb : Binds X.K fd ps ds)
    (hd : Vals dvs ds) (hx : ∀ σ, PassesAt CX X σ (E σ)) (ha : PA X (e :: es) t) (hdb : (x == ("__debug__" : Str)) = false := by decide)
    (he : starEach (e :: es) X.env = (false, eval e X.env) :: starEach es X.env := by rfl) (hpl : (backTo pos (starEach es X.env)).any (·.1) = false := by rfl) :
    PE X (.Call (.Name x p) (e :: es) [] pos) (tCallG sp dvs E t) := pe_callV (fun _ => G) F hr hg hm hk hb hd hx ha hdb he hpl
theorem pe_callG0 {E : L2.St → XK} (G : X.A.guards = some []) (F : FnG X.prog X.w X.K X.mg X.base CX k f fd ps sp) (hr : Room k X.A) (hg : Gl X x) (hm : X.mg x = some (.ref f)) (hk : PySem.W.keepIn X.K (.ref f) = true) (hb : Binds X.K fd ps ds)
    (hd : Vals dvs ds) (hx : ∀ σ, PassesAt CX X σ (E σ)) (hdb : (x == ("__debug__" : Str)) = false := by decide) : PE X (.Call (.Name x p) [] [] pos) (tCallG sp dvs E tNil) :=
  ⟨fun pins s σ H Q I h => wpAny_Call_Name_kw (ld_glob I hg hm (PySem.W.callWith_K0 I.kIn hk (runV (us := []) (fun _ => G) F hr hb hd (hx σ) I .nil h)) hdb)⟩
end
/-- nothing leaves: any wish will do -/
theorem passAt0 {X : Cx} {σ : L2.St} {E : XK} : PassesAt CX0 X σ E := fun _ _ _ _ _ _ c => c.elim
section
variable {gg : Bool} {P : Program} {w : World} {K : PySem.W.Frag} {mg : Str → Option Value} {base : Heap} {CX : CXT} {k : Nat}
/-- a def as the written part has it, its code object at c -/
structure FunC (K : PySem.W.Frag) (x qual : Str) (st : Stmt) (f : Addr) (fd : FuncData) (cdv : Value) : Prop where
  ex : ∃ (oc : Value) (od : Option Addr) (kV doc pm : Value) (an : Option Addr) (ct : Value) (osl : Array (Option Value)),
    fd = PySem.W.fnOf x qual (defArgs st) (defBody st) (defScope st) .none kV doc pm an cdv ct ∧ K.lookup f = some ⟨oc, od, .func fd, osl⟩ ∧ PySem.W.codeIn K cdv qual = true
/-- a def's promise, by its body -/
theorem fnC {f : Addr} {x qual : Str} {st : Stmt} {fd : FuncData} {cdv : Value} {N ps : List Str} {sp : Sp} (F : FunC K x qual st f fd cdv) (S : FnScope N ps (defScope st)) (len : ∀ vs H Q E, sp vs H Q E → vs.length = ps.length)
    (hbody : ∀ (A : Around) (fr : List Env) (s : Shared) (H : Hp) (vs : List V) (Q : VK) (E : XK), (gg = true → A.guards = some []) → Room k (A.deeper (envOfC qual (defScope st) s.heap.objs.size f cdv)) → sp vs H Q E →
      ∃ t, PSs (cxOf CX P w K mg base N qual (defScope st) f cdv A fr s H E) (defBody st) t ∧ t { nx := fun _ H' => Q .non H', rt := Q } (start N vs) H) :
    FnV gg P w K mg base CX (k + 1) f fd ps sp := by
  obtain ⟨oc, od, kV, doc, pm, an, ct, osl, rfl, lk, hcd⟩ := F.ex
  refine ⟨len, fun A fr s H ar us vs Q E hG hr e0 hb r hsp => ?_⟩
  have kept : ∀ b o, base.get? b = some o → s.heap.get? b = some o := fun b o e => (e0.bs b o e).1
  have kinds : ∀ y ∈ ps.zip us, (defScope st).names.lookup y.1 = some .local ∨ ((defScope st).names.lookup y.1 = some .cell ∧ ((cellsFrom (s.heap.objs.size + 1) (defScope st).names []).lookup y.1).isSome = true) := by
    intro y hy
    rcases S.par y.1 (List.of_mem_zip hy).1 with l | c
    · exact Or.inl l
    · exact Or.inr ⟨c, PySem.W.cellsFrom_some _ _ _ (Or.inl c)⟩
  apply codeAny_call_function hr.depth ((e0.mod.kin.keeps kept) _ _ lk) rfl S.co S.gen rfl (PySem.W.codeRec_of (e0.mod.kin.keeps kept) hcd)
  apply hb
  apply wpAny_newFunctionEnv_cells S.kind kinds
  intro env he s1 ic
  cases he
  refine ⟨(e0.mod.nolimit.keeps kept).keeps ic.toInCall.keep, codeAny_func ?_⟩
  obtain ⟨t, walk, now⟩ := hbody A fr s H vs Q E hG (hr.deeper _) hsp
  refine wpAny_mono (walk.run [] s1 (start N vs) H _ (inv_start S hr.hd e0 (len _ _ _ _ hsp) r ic) now) (fun fl s' ends => ?_) (fun _ _ ends => ends)
  match fl, ends with
  | .ret u, ⟨v, σ', H', J, rv, q⟩ => exact ⟨v, H', J.os, J.bare, J.base, J.hok, rv, q⟩
  | .next, ⟨σ', H', J, q⟩ => exact ⟨V.non, H', J.os, J.bare, J.base, J.hok, rfl, q⟩
  | .brk, ⟨_, _, _, q⟩ => exact q.elim
  | .cont, ⟨_, _, _, q⟩ => exact q.elim
theorem funC_of {f : Addr} {x qual : Str} {st : Stmt} {fd : FuncData} (F : Fun K x qual st f fd) : ∃ cdv, FunC K x qual st f fd cdv := by
  obtain ⟨oc, od, kV, doc, pm, an, cdv, ct, osl, e, lk, hcd⟩ := F.ex
  exact ⟨cdv, oc, od, kV, doc, pm, an, ct, osl, e, lk, hcd⟩
theorem fnV {f : Addr} {x qual : Str} {st : Stmt} {fd : FuncData} {N ps : List Str} {sp : Sp} (F : Fun K x qual st f fd) (S : FnScope N ps (defScope st)) (len : ∀ vs H Q E, sp vs H Q E → vs.length = ps.length)
    (hbody : ∀ (cdv : Value) (A : Around) (fr : List Env) (s : Shared) (H : Hp) (vs : List V) (Q : VK) (E : XK), (gg = true → A.guards = some []) → Room k (A.deeper (envOfC qual (defScope st) s.heap.objs.size f cdv)) → sp vs H Q E →
      ∃ t, PSs (cxOf CX P w K mg base N qual (defScope st) f cdv A fr s H E) (defBody st) t ∧ t { nx := fun _ H' => Q .non H', rt := Q } (start N vs) H) :
    FnV gg P w K mg base CX (k + 1) f fd ps sp := by
  obtain ⟨cdv, C⟩ := funC_of F
  exact fnC C S len (hbody cdv)
theorem fnG {f : Addr} {x qual : Str} {st : Stmt} {fd : FuncData} {N ps : List Str} {sp : Sp} (F : Fun K x qual st f fd) (S : FnScope N ps (defScope st)) (len : ∀ vs H Q E, sp vs H Q E → vs.length = ps.length)
    (hbody : ∀ (cdv : Value) (A : Around) (fr : List Env) (s : Shared) (H : Hp) (vs : List V) (Q : VK) (E : XK), A.guards = some [] → Room k (A.deeper (envOfC qual (defScope st) s.heap.objs.size f cdv)) → sp vs H Q E →
      ∃ t, PSs (cxOf CX P w K mg base N qual (defScope st) f cdv A fr s H E) (defBody st) t ∧ t { nx := fun _ H' => Q .non H', rt := Q } (start N vs) H) :
    FnG P w K mg base CX (k + 1) f fd ps sp := fnV F S len fun cdv A fr s H vs Q E g => hbody cdv A fr s H vs Q E (g rfl)
end
/-! ### new lists that are not the table of modules -/
def tLstN (t : TA) : TE := fun σ H Q => t σ H fun xs H1 => xs.length ≤ sizeLine ∧ ∀ p, H1 p = none → p ≠ sysModules → Q (.ref p) (upd H1 p (.lst xs))
theorem pe_lstN {X : Cx} {es : List Expr} {t : TA} {pos : Pos} (h : PA X es t) : PE X (.List es pos) (tLstN t) := by
  refine ⟨fun pins s σ H Q I hq => wpAny_List_spliced (thn (h.run pos pins s σ H _ I hq) fun us s1 ends => ?_)⟩
  obtain ⟨xs, H1, I1, r, z, q⟩ := ends
  have fresh : H1 s1.heap.objs.size = none := I1.hok.fresh (Nat.le_refl _)
  refine ⟨by rw [← r.length]; exact z, .ref s1.heap.objs.size, upd H1 s1.heap.objs.size (.lst xs), ?_, rfl, q _ fresh (Nat.ne_of_gt I1.big)⟩
  apply I1.laid (t' := s1.toks) (fun b u e => Heap.get?_push_of_some _ e) (Nat.le_refl _)
  exact ⟨z, us, 0, r, Heap.get?_push_size _ rfl⟩
theorem op_catN {X : Cx} : OpR X (binaryOp .Add) (fun x y H Q => ∃ l b xs zs, x = .ref l ∧ y = .ref b ∧ H l = some (.lst xs) ∧ H b = some (.lst zs) ∧ xs.length + zs.length ≤ sizeLine ∧ ∀ p, H p = none → p ≠ sysModules → Q (.ref p) (upd H p (.lst (xs ++ zs)))) := by
  intro pins s σ H x y v u Q I rx ry h
  obtain ⟨l, b, xs, zs, rfl, rfl, h1, h2, few, q⟩ := h
  cases rx
  cases ry
  obtain ⟨_, its, n, r, n1, e⟩ := I.lstM h1
  obtain ⟨_, its2, n2, r2, n3, e2⟩ := I.lstM h2
  refine PySem.P.add_list e e2 ?_ (by rw [List.size_toArray, List.size_toArray]; omega)
  rw [show its.toArray ++ its2.toArray = (its ++ its2).toArray by simp]
  exact ⟨.ref _, _, I.lnew (t' := s.toks) (r.append r2) (by rw [List.length_append]; omega), rfl, q _ I.fresh (Nat.ne_of_gt I.big)⟩
end Fw

/-! Errors of the program's own that keep what they take: made, over any of the built-in errors, also over one that makes its instances as its own base does. -/
namespace Fw
open PySem PySem.Spec PyProof.Rows PySem.W PySem.Calls
open Builtin Builtin.ObjectAttr
/-- of the classes behind the own one: what a call asks -/
structure Behind (bm : List Value) (B : String) : Prop where
  has : bm.contains (.type B) = true
  att : bm.contains (.type "AttributeError") = false
  nam : bm.contains (.type "NameError") = false
  obj : bm.contains (.type "object") = true
  sets : ∀ self : Value, refuseLoop self "__setattr__" bm = pure ()
section
variable {prog : Program} {w : World} {A : Around} {R : Result → Shared → Prop} {h : Heap} {g : Array GenState} {d : Drawn} {t : Nat} {os : OsState}
variable {nm q : Str} {C N : Addr} {bs bm bmB : List Value} {hdct : Bool} {sn : List Str} {sub : List Value} {ab : Bool} {col : Option Bool} {dd : Option Addr} {k0 k1 k2 k3 k5 : Option Value} {B newId initId : String}
theorem made_bare (F : ExcBaseFacts B newId initId bmB) (Z : Behind bm B) {us : List Value} (at_ : h.get? C = some (excClassObj nm q C N bs bm hdct sn sub ab col dd k0 k1 k2 k3 k5 newId)) (few : us.length ≤ sizeLine)
    (then_ : R (.ok (.ret (.ref (h.objs.size + 1)))) ⟨(h.push { cls := .type "tuple", data := .seq us.toArray }).push (HandSPX.excO C h.objs.size), g, d, t, os⟩) :
    codeAny (model prog w) A (.builtin newId ⟨.ref C :: us, []⟩) R ⟨h, g, d, t, os⟩ := by
  have e1 := F.ends
  have e2 : (Value.ref C :: bm).contains (.type B) = true := by rw [List.contains_cons, Z.has, Bool.or_true]
  have e3 : (Value.ref C :: bm).contains (.type "AttributeError") = false := by rw [List.contains_cons, Z.att]; rfl
  have e4 : (Value.ref C :: bm).contains (.type "NameError") = false := by rw [List.contains_cons, Z.nam]; rfl
  apply codeAny_builtinAt F.entry
  unfold Builtin.«BaseException.__new__»
  apply PySem.wpAt_bind
  show PySem.wpAt _ _ _ (stack >>= _) _ _ _
  apply PySem.wpAt_bind
  refine PySem.wpAt_stack fun p below => PySem.wpAt_of_wpAny ?_
  wp_walk
  refine PySem.wpAt_of_wpAny ?_
  rw [F.owner]
  repeat (first
    | with_reducible refine wpAny_madeHere_exc F.canon at_ ?_
    | with_reducible refine wpAny_loadPart_at at_ ?_
    | (with_reducible refine wpAny_isSubtype_exc at_ ?_; first | rw [e2] | rw [e3] | rw [e4])
    | wp_step)
  show R _ _
  rw [Heap.size_push]
  exact then_
theorem asks_new {M : Model} {E : Value → Shared → Prop} (F : ExcBaseFacts B newId initId bmB) (Z : Behind bm B) {us : List Value} {Q : Unit → Shared → Prop} (at_ : h.get? C = some (excClassObj nm q C N bs bm hdct sn sub ab col dd k0 k1 k2 k3 k5 newId))
    (then_ : Q () ⟨h, g, d, t, os⟩) : wpAny M A (checkBuiltinCall newId ⟨.ref C :: us, []⟩) Q E ⟨h, g, d, t, os⟩ := by
  have e2 : (Value.ref C :: bm).contains (.type B) = true := by rw [List.contains_cons, Z.has, Bool.or_true]
  have e1 := F.noStar
  simp only [checkBuiltinCall, F.newKind, F.newSplit, F.newRow]
  repeat (first
    | refine wpAny_loadPart_at at_ ?_
    | (refine wpAny_isSubtype_exc at_ ?_; rw [e2])
    | refine wpAny_staticBase_exc at_ ?_
    | refine wpAny_madeBy_exc at_ ?_
    | simp only [bne_self_eq_false, Bool.false_eq_true, if_false]
    | wp_step)
  exact then_
/-- type.__call__ of such a class -/
theorem calls_own (F : ExcBaseFacts B newId initId bmB) (Z : Behind bm B) {us : List Value} {fI : Addr} {E : Value → Shared → Prop} {Q : Fin → Shared → Prop} (at_ : h.get? C = some (excClassObj nm q C N bs bm hdct sn sub ab col dd k0 k1 k2 k3 k5 newId))
    (look : Looks (model prog w) h (typeLookup (.ref C) "__init__") (some (.ref fI))) (bind : ∀ self, Looks (model prog w) h (bindSpecial (.ref fI) self) (.ref fI, [self])) (few : us.length ≤ sizeLine)
    (then_ : codeAny (model prog w) A (.call (.ref fI) ⟨.ref (h.objs.size + 1) :: us, []⟩)
      (fun r s' => match r with | .ok (.ret v) => v = .none ∧ Q (.done (.ret (.ref (h.objs.size + 1)))) s' | .ok _ => False | .error e => E e s') ⟨(h.push (kdv_tup us)).push (HandSPX.excO C h.objs.size), g, d, t, os⟩) :
    wpAny (model prog w) A (Builtin.«type.__call__» ⟨.ref C :: us, []⟩) Q E ⟨h, g, d, t, os⟩ := by
  have old : ∀ b o, h.get? b = some o → ((h.push (kdv_tup us)).push (HandSPX.excO C h.objs.size)).get? b = some o := fun b o e => Heap.get?_push_of_some _ (Heap.get?_push_of_some _ e)
  have new : ((h.push (kdv_tup us)).push (HandSPX.excO C h.objs.size)).get? (h.objs.size + 1) = some (HandSPX.excO C h.objs.size) := by heap_get
  have self_ : (Value.ref C :: bm).contains (.ref C) = true := by simp
  have at1 := old _ _ at_
  have look1 := look.keeps old
  have bind1 := (bind (.ref (h.objs.size + 1))).keeps old
  repeat (first | with_reducible refine wpAny_loadPart_at at_ ?_ | with_reducible refine wpAny_madeBy_exc at_ ?_ | wp_step)
  apply codeAny_call_builtin_code (Code.quiet_builtin _ F.quiet) (asks_new F Z at_ _)
  apply made_bare F Z at_ few
  show wpAny _ _ _ _ _ _
  unfold isInstance
  repeat (first | with_reducible refine wpAny_loadPart_at new ?_ | (with_reducible refine wpAny_isSubtype_exc at1 ?_; rw [self_]) | wp_step)
  show wpAny _ _ (typeLookup (.ref C) _) _ _ _
  apply look1.at
  apply wpAny_holding
  apply wpAny_bind
  apply bind1.at
  apply wpAny_bind
  apply wpAny_call
  refine codeAny_mono then_ fun r s' z => ?_
  match r, z with
  | .error e, z => exact z
  | .ok .next, z => exact z.elim
  | .ok .brk, z => exact z.elim
  | .ok .cont, z => exact z.elim
  | .ok (.ret v), ⟨e, z⟩ =>
    cases e
    first
      | exact wpAny_pure (wpAny_pure z)
      | (wp_walk; exact z)
/-- C(..): the new error, then the own __init__ -/
theorem made_own (F : ExcBaseFacts B newId initId bmB) (Z : Behind bm B) {us : List Value} {fI : Addr} (at_ : h.get? C = some (excClassObj nm q C N bs bm hdct sn sub ab col dd k0 k1 k2 k3 k5 newId))
    (look : Looks (model prog w) h (typeLookup (.ref C) "__init__") (some (.ref fI))) (bind : ∀ self, Looks (model prog w) h (bindSpecial (.ref fI) self) (.ref fI, [self])) (few : us.length ≤ sizeLine)
    (then_ : codeAny (model prog w) (A.under (.builtin "type.__call__" ⟨.ref C :: us, []⟩)) (.call (.ref fI) ⟨.ref (h.objs.size + 1) :: us, []⟩) (InitBack (h.objs.size + 1) R) ⟨(h.push (kdv_tup us)).push (HandSPX.excO C h.objs.size), g, d, t, os⟩) :
    codeAny (model prog w) A (.call (.ref C) ⟨us, []⟩) R ⟨h, g, d, t, os⟩ := by
  have l1 := tc_lookup
  have l2 := tc_bind (.ref C)
  have l3 : (⟨h, g, d, t, os⟩ : Shared).TypeIs (.ref C) "type" := ⟨_, at_, rfl⟩
  apply codeAny_of_tree
  show wpAny _ _ (callAny (.ref C) _) _ _ _
  repeat (any_goals (first | assumption | with_reducible refine wpAny_loadPart_at at_ ?_ | wp_step))
  refine ⟨rfl, codeAny_call_builtin_at (Code.quiet_builtin _ (by decide +kernel)) entry_typeCall (wpAny_check_type_call_sub at_ (calls_own F Z at_ look bind few ?_))⟩
  refine codeAny_mono then_ fun r s' z => ?_
  rcases r with e | (v | _ | _ | _) <;> exact z
/-- self.f = v, the first one, of such an error -/
theorem kept_new {K : Frag} {name : Str} {tk : Tok} {v : Value} {x : Addr} {fv : Array Value} {cd : ClassData} (X : K.In h) (hx : h.get? x = some { cls := .ref C, data := .fields fv }) (hcd : clsIn K C = some cd)
    (ne : cd.mro.isEmpty = false) (hob : cd.mro.contains (.type "object") = true) (pass : ∀ self : Value, refuseLoop self "__setattr__" cd.mro = pure ()) (hh : cd.hasDict = true) (ha : findIn K (.ref C) name = some none)
    (then_ : ∀ h' tk' dx, (∀ b o, b ≠ x → h.get? b = some o → h'.get? b = some o) → h.objs.size ≤ dx → dx ≠ x → h'.get? x = some { cls := .ref C, dict := some dx, data := .fields fv } → h'.Ns1 dx (fun y => if y = name then some v else none) →
      R (.ok (.ret .none)) ⟨h', g, d, tk', os⟩) : codeAny (model prog w) A (.call (.builtin "object.__setattr__") ⟨[.ref x, .str name tk, v], []⟩) R ⟨h, g, d, t, os⟩ := by
  have I : InstAt h x { cls := .ref C, data := .fields fv } C none := ⟨hx, rfl, rfl, trivial⟩
  have S := F.store_object
  have hxs : x ≠ h.objs.size := Nat.ne_of_lt (Heap.lt_size hx)
  have sub : Looks (model prog w) h (isInstance (.ref x) (.type "object")) true := I.type.andThen (looks_mroIn X (by unfold mroIn; rw [hcd, Option.bind_some, if_neg (by rw [ne]; decide), hob]))
  refine codeAny_call_builtin S.slot.plain S.entry ?_
  refine @check_slot (model prog w) _ _ ⟨h, g, d, t, os⟩ "object.__setattr__" "object" "__setattr__" (.ref x) [.str name tk, v] [] _ S.kind S.split sub (S.args (.ref x) (.str name tk) v) ?_
  have m1 : Looks (model prog w) h (mroOf (.ref C)) cd.mro := (looks_clsIn X hcd).andThen .now
  have m2 : Looks (model prog w) h (storeTaker? none) none := .now
  have m3 : Looks (model prog w) h (classData C) cd := looks_clsIn X hcd
  rw [osa_eq, refuse_eq]
  apply wpAny_bind
  apply wpAny_bind
  apply I.type.at
  apply wpAny_bind
  apply m1.at
  rw [pass]
  apply wpAny_pure
  apply wpAny_bind
  apply I.type.at
  apply wpAny_bind
  apply (looks_findIn X ha).at
  apply wpAny_bind
  apply m2.at
  show wpAny _ _ (storeInOwnDict (.ref x) (.ref C) (.str name tk) name v false) _ _ _
  obtain ⟨nm, bs, mro, ns, qn, hd, sn, sb, ab, col, del⟩ := cd
  dsimp only at hh
  subst hh
  unfold storeInOwnDict ownDictForStores
  repeat (first | with_reducible refine HandSPX.store_in_new ?_ ?_ | with_reducible refine wpAny_loadPart_at hx ?_ | with_reducible refine m3.at ?_ | wp_step)
  · exact ⟨_, #[], _, (Heap.get?_update_ne _ _ _ _ hxs.symm).trans (Heap.get?_push_at rfl rfl), rfl, fun e he => absurd he (by simp), fun _ => rfl⟩
  · intro h' tk' hn' hs
    have one : (h.push { cls := .type "dict", data := .dict #[] }).get? x = some { cls := .ref C, data := .fields fv } := Heap.get?_push_of_some _ hx
    apply then_ h' tk' h.objs.size
    · intro b o hb ho
      exact (hs.2 b (Nat.ne_of_lt (Heap.lt_size ho))).trans ((Heap.get?_update_ne _ _ _ _ hb).trans (Heap.get?_push_of_some _ ho))
    · exact Nat.le_refl _
    · exact hxs.symm
    · exact (hs.2 x hxs).trans (Heap.get?_update_self _ one rfl)
    · exact hn'
end
end Fw

/-! Errors that keep one value: the rule for making one as a value, for reading what it keeps, and for several except clauses with names. -/
namespace Fw
open PySem PySem.Spec PyProof.Rows PySem.W PySem.Calls
/-! ### def __init__(self, f): self.f = f -/
def inA (f : Str) (p1 p2 : Pos) : Arguments := { posonlyargs := [], args := [{ arg := "self", annotation := none, pos := p1 }, { arg := f, annotation := none, pos := p2 }], vararg := none, kwonlyargs := [], kw_defaults := [], kwarg := none, defaults := [] }
def inB (f : Str) (q1 q2 q3 q4 : Pos) : List Stmt := [.Assign [.Attribute (.Name "self" q1) f q2] (.Name f q3) q4]
def inS (f : Str) : Scope := { kind := .function, names := [(PySem.Str.ofString "self", .local), (f, .local)], isGenerator := false, isCoroutine := false, more := [] }
structure InitOk (f : Str) : Prop where
  binds : ∀ (q : Str) (doc pm cdv ct x v : Value) (an : Option Addr) (p1 p2 q1 q2 q3 q4 : Pos), bindArgs (fnOf "__init__" q (inA f p1 p2) (inB f q1 q2 q3 q4) (inS f) .none .none doc pm an cdv ct) ⟨[x, v], []⟩ = pure [(("self" : Str), x), (f, v)]
  kinds : ∀ x v : Value, (([(("self" : Str), x), (f, v)] : List (Str × Value)).all fun y => (inS f).names.lookup y.1 == some .local || (inS f).names.lookup y.1 == some .cell) = true
  m1 : ∀ (q : Str) (L a : Addr) (cd x v : Value), bindL (envOfC q (inS f) L a cd).kindOf [(("self" : Str), x), (f, v)] (fun _ => none) "self" = some x
  m2 : ∀ (q : Str) (L a : Addr) (cd x v : Value), bindL (envOfC q (inS f) L a cd).kindOf [(("self" : Str), x), (f, v)] (fun _ => none) f = some v
  k1 : ∀ (q : Str) (L a : Addr) (cd : Value), (envOfC q (inS f) L a cd).kindOf "self" = some .local
  k2 : ∀ (q : Str) (L a : Addr) (cd : Value), (envOfC q (inS f) L a cd).kindOf f = some .local
  ne : (f == ("__debug__" : Str)) = false
/-- what the written part says of such a class -/
structure InitC (K : Frag) (C fI : Addr) (q f : Str) : Prop where
  cls : ∃ nm qn N bs bm sn sub ab col dd k0 k1 k2 k3 k5 B newId initId bmB, K.lookup C = some (excClassObj nm qn C N bs bm true sn sub ab col dd k0 k1 k2 k3 k5 newId) ∧ ExcBaseFacts B newId initId bmB ∧ Behind bm B
  sa : findIn K (.ref C) "__setattr__" = some (some (.builtin "object.__setattr__"))
  noF : findIn K (.ref C) f = some none
  iC : findIn K (.ref C) "__init__" = some (some (.ref fI))
  tI : typeIn K (.ref fI) = some (.type "function")
  kC : keepIn K (.ref C) = true
  fn : ∃ (oc : Value) (od : Option Addr) (doc pm : Value) (an : Option Addr) (cdv ct : Value) (osl : Array (Option Value)) (p1 p2 q1 q2 q3 q4 : Pos),
    K.lookup fI = some ⟨oc, od, .func (fnOf "__init__" q (inA f p1 p2) (inB f q1 q2 q3 q4) (inS f) .none .none doc pm an cdv ct), osl⟩ ∧ codeIn K cdv q = true
section
variable {prog : Program} {w : World} {A : Around} {R : Result → Shared → Prop} {s : Shared} {K : Frag} {C fI : Addr} {q f : Str}
theorem runs_init (T : InitC K C fI q f) (O : InitOk f) {x t0 : Addr} {v : Value} (X : K.In s.heap) (hlim : s.heap.NoLimit) (hx : s.heap.get? x = some (HandSPX.excO C t0)) (hroom : A.depth < recursionLimit)
    (then_ : ∀ h' tk dx, (∀ b o, b ≠ x → s.heap.get? b = some o → h'.get? b = some o) → s.heap.objs.size ≤ dx → dx ≠ x → h'.get? x = some { cls := .ref C, dict := some dx, data := .fields #[.ref t0, .none, .none, .none, .bool false, .none] } →
      h'.Ns1 dx (fun y => if y = f then some v else none) → R (.ok (.ret .none)) { s with heap := h', toks := tk }) : codeAny (model prog w) A (.call (.ref fI) ⟨[.ref x, v], []⟩) R s := by
  obtain ⟨oc, od, doc, pm, an, cdv, ct, osl, p1, p2, q1, q2, q3, q4, lk, code⟩ := T.fn
  obtain ⟨nm, qn, N, bs, bm, sn, sub, ab, col, dd, k0, k1, k2, k3, k5, B, newId, initId, bmB, at_, F, Z⟩ := T.cls
  have cl : clsIn K C = some { name := nm, bases := bs, mro := .ref C :: bm, ns := N, qualname := qn, hasDict := true, slotNames := sn, subclasses := sub, abstract := ab, collection := col, hasDel := false } := by
    unfold clsIn
    rw [at_] <;> rfl
  refine Att.call_fn (binds := [(("self" : Str), .ref x), (f, v)]) X hlim lk code hroom (BindsTo.of_eq (O.binds ..)) (O.kinds _ _) (fun s₁ IC => ?_) rfl rfl rfl
  obtain ⟨h₁, tk₁, rfl⟩ := IC.toInCall.same
  have old : ∀ b o, s.heap.get? b = some o → h₁.get? b = some o := IC.toInCall.keep
  have locs := IC.toInCall.ns
  have X1 : K.In h₁ := X.keeps old
  have hx1 := old _ _ hx
  show wpAny _ _ (execs _ _) _ _ _
  apply wpAny_execs_cons
  refine plainObj_wpAny_Assign_Attribute ?_
  · refine wpAny_Name (wpAny_loadName_local rfl (O.k2 ..) locs (O.m2 ..) ?_) O.ne
    refine wpAny_Name (wpAny_loadName_local rfl (O.k1 ..) locs (O.m1 ..) ?_) (by decide)
    apply set_plain X1 (ox := HandSPX.excO C t0) (od := none) ⟨hx1, rfl, rfl, trivial⟩ T.sa
    refine kept_new X1 hx1 cl rfl ?_ (fun self => ?_) rfl T.noF (fun h₃ tk₃ dx keep3 big dne hx3 ns3 => ?_)
    · rw [List.contains_cons, Z.obj, Bool.or_true]
    · rw [refuseLoop_ref]
      exact Z.sets self
    · show wpAny _ _ (execs _ _) _ _ _
      have z : s.heap.objs.size < h₁.objs.size := locs.lt
      exact wpAny_execs_nil (then_ h₃ tk₃ dx (fun b o hb e => keep3 b o hb (old b o e)) (Nat.le_of_lt (Nat.lt_of_lt_of_le z big)) dne hx3 ns3)
end
end Fw
namespace Fw
open PySem PySem.Spec PyProof.Rows L2
section
variable {X : Cx} {C fI : Addr} {q f : Str} {x : Str} {e : Expr} {te : TE} {p pos : Pos}
/-- C(e), an error that keeps e -/
theorem pe_mkE (T : InitC X.K C fI q f) (O : InitOk f) (hr : Room 2 X.A) (hg : Gl X x) (hm : X.mg x = some (.ref C)) (he : PE X e te)
    (hs : starEach [e] X.env = (false, eval e X.env) :: starEach [] X.env := by rfl) (hdb : (x == ("__debug__" : Str)) = false := by decide) :
    PE X (.Call (.Name x p) [e] [] pos) (fun σ H Q => te σ H fun y H1 => ∀ a d, H1 a = none → H1 d = none → d ≠ a → Q (.ref a) (upd (upd H1 d (.xd [(f, y)])) a (ExD C a d))) := by
  refine ⟨fun pins s σ H Q I h => ?_⟩
  obtain ⟨nm, qn, N, bs, bm, sn, sub, ab, col, dd, k0, k1, k2, k3, k5, B, newId, initId, bmB, at_, F, Z⟩ := T.cls
  refine wpAny_Call_Name_kw (ld_glob I hg hm ?_ hdb)
  refine PySem.W.callWith_K (h₀ := X.base) I.ok.mod.kin T.kC ?_ hs (by rfl)
  rw [hs]
  show wpAny _ _ (spliced ((false, eval e X.env) :: backTo pos (starEach [] X.env))) _ _ s
  refine Calls.spliced_cons (thn (he.run pins s σ H _ I h) fun u s1 ⟨y, H1, I1, r1, q1⟩ => ?_)
  refine Calls.spliced_nil ⟨I1.kIn, ?_⟩
  show wpAny _ _ (call (.ref C) [u]) _ _ _
  obtain ⟨hp, g, dr, tk, os⟩ := s1
  have few : [u].length ≤ sizeLine := by
    rw [sizeLine_eq]
    exact (by decide : 1 ≤ 16777216)
  have old : ∀ b o, hp.get? b = some o → ((hp.push (PySem.W.kdv_tup [u])).push (HandSPX.excO C hp.objs.size)).get? b = some o := fun b o z => Heap.get?_push_of_some _ (Heap.get?_push_of_some _ z)
  have new : ((hp.push (PySem.W.kdv_tup [u])).push (HandSPX.excO C hp.objs.size)).get? (hp.objs.size + 1) = some (HandSPX.excO C hp.objs.size) := by heap_get
  have dp := (hr.make C [u] []).dp
  refine wpAny_call (made_own F Z (I1.kIn _ _ at_) (PySem.W.looks_findIn I1.kIn T.iC) (fun self => PySem.W.bind_fn I1.kIn self T.tI) few
    (runs_init (s := ⟨(hp.push (PySem.W.kdv_tup [u])).push (HandSPX.excO C hp.objs.size), g, dr, tk, os⟩) T O (I1.kIn.keeps old) (I1.nolimit.keeps old) new (by omega) (fun h' tk' dx keep big dne hx hn => ⟨rfl, ?_⟩)))
  have sz : hp.objs.size ≤ dx := by
    rw [Heap.size_push, Heap.size_push] at big
    omega
  have keep2 : ∀ b o, hp.get? b = some o → h'.get? b = some o := fun b o z => keep b o (Nat.ne_of_lt (Nat.lt_succ_of_lt (Heap.lt_size z))) (old b o z)
  have na : H1 (hp.objs.size + 1) = none := I1.hok.fresh (Nat.le_succ _)
  have nd : H1 dx = none := I1.hok.fresh sz
  have fa : ∀ {b : Addr} {o : Obj}, hp.get? b = some o → b ≠ hp.objs.size + 1 := fun {b o} z => Nat.ne_of_lt (Nat.lt_succ_of_lt (Heap.lt_size z))
  have fd : ∀ {b : Addr} {o : Obj}, hp.get? b = some o → b ≠ dx := fun {b o} z => Nat.ne_of_lt (Nat.lt_of_lt_of_le (Heap.lt_size z) sz)
  have ne2 : ∀ {b : Addr} {o : HO}, H1 b = some o → b ≠ hp.objs.size + 1 ∧ b ≠ dx := fun {b o} z => ⟨ne_of_none z na, ne_of_none z nd⟩
  have see : ∀ {b : Addr} {o : HO}, H1 b = some o → upd (upd H1 dx (.xd [(f, y)])) (hp.objs.size + 1) (ExD C (hp.objs.size + 1) dx) b = some o := fun {b o} z => by
    rw [upd_ne (ne2 z).1, upd_ne (ne2 z).2]
    exact z
  have un : Un X.fs [] H1 (upd (upd H1 dx (.xd [(f, y)])) (hp.objs.size + 1) (ExD C (hp.objs.size + 1) dx)) hp h' :=
    { keep := fun b o z _ _ _ => keep2 b o z
      slot := fun b o z _ _ _ => ⟨o.slots, keep2 b o z⟩
      free := fun b o z n _ => by
        rw [upd_ne (fa z), upd_ne (fd z)]
        exact n
      there := fun b o z _ => ⟨o, keep2 b o z⟩
      tups := fun b xs z => see z
      frzs := fun b o u z => see z
      tbls := fun b ps z => ⟨#[], by rw [see z]; simp⟩ }
  have hok : HOk X.prog X.w (upd (upd H1 dx (.xd [(f, y)])) (hp.objs.size + 1) (ExD C (hp.objs.size + 1) dx)) h' := by
    intro b o z
    by_cases hb : b = hp.objs.size + 1
    · subst hb
      rw [upd_same] at z
      cases z
      exact exD_ok hx ⟨rfl, rfl⟩ rfl rfl (show 4 < 6 by decide)
    · rw [upd_ne hb] at z
      by_cases hd : b = dx
      · subst hd
        rw [upd_same] at z
        cases z
        exact ⟨_, hn, fun g => relO_put (fs := []) (mA := fun _ => none) r1 (fun _ => True.intro) g⟩
      · rw [upd_ne hd] at z
        exact (I1.hok b o z).stay (fun c v _ k => keep2 c v k) (fun c k => see k) (fun c xs k => see k)
  exact ⟨.ref (hp.objs.size + 1), _, I1.un (t' := tk') un hok, rfl, q1 _ _ na nd dne⟩
/-- e.f of an error that is held -/
theorem pe_ofE {n : Str} (he : PE X e te) (hb : attributeBase e n X.env (eval e X.env) = eval e X.env := by rfl) :
    PE X (.Attribute e n pos) (fun σ H Q => te σ H fun y H1 => ∃ (a D d : Addr) (fs : List (Str × V)) (v : V), y = .ref a ∧ H1 a = some (ExD D a d) ∧ H1 d = some (.xd fs) ∧ XfC X.K D ∧ PySem.W.findIn X.K (.ref D) n = some none ∧ fs.lookup n = some v ∧ Q v H1) := by
  refine ⟨fun pins s σ H Q I h => attr_of hb (thn (he.run pins s σ H _ I h) fun u s1 hh => ?_)⟩
  obtain ⟨y, H1, I1, r1, a, D, d, fs, v, rfl, ha, hd, T, no, l, q⟩ := hh
  cases (show u = Value.ref a from r1)
  obtain ⟨⟨oe, vs, at_, z, fl, _⟩, _, _⟩ := I1.hok a _ ha
  have hx : ObjOk X.prog X.w H1 s1.heap d (.xd fs) := I1.hok d _ hd
  obtain ⟨mA, hns, hr⟩ := hx
  obtain ⟨od, ho, hl⟩ := lookIn_ns hns
  obtain ⟨u, hu, ru⟩ := RelO.some_of (v := v) (o := mA n) (by rw [← l]; exact hr n)
  have J : PySem.W.InstAt s1.heap a oe D (some od) := ⟨at_, z.1, by unfold PySem.W.notCls; rw [fl] <;> rfl, by rw [z.2]; exact ho⟩
  exact HandSPX.exc_get I1.kIn J T.ga T.gg T.exC (PySem.W.findObj_own T.hdC no rfl (by rw [hl, hu])) (handed_of ru) ⟨v, H1, I1.tok _, ru, q⟩
end
end Fw

/-! try with several except clauses, each with a name or without. -/
namespace Fw
open PySem PySem.Spec PyProof.Rows L2
/-- a clause: the class, the name's slot if it has one, the suite's reading -/
abbrev Cl := Value × Option Nat × (Addr → Value → Option Addr → TS)
/-- behind a suite the name is gone -/
def ungo (i : Option Nat) (D : Ends) : Ends := match i with
  | none => D
  | some i => { nx := fun σ H => D.nx (σ.set i none) H, rt := D.rt, bk := fun σ H => D.bk (σ.set i none) H, ct := fun σ H => D.ct (σ.set i none) H }
def into (i : Option Nat) (a : Addr) (σ : L2.St) : L2.St := match i with
  | none => σ
  | some i => σ.set i (some (.ref a))
/-- what the clauses wish of an error of the body -/
def wCls (K : PySem.W.Frag) (out : WX) (D : Ends) : List Cl → WX
  | [] => out
  | (c, i, ts) :: more => fun cls d σ H => ∃ b, PySem.W.exmOne K cls c = some b ∧ (b = true → ∀ a, H a = none → ts a cls d (ungo i D) (into i a σ) H) ∧ (b = false → wCls K out D more cls d σ H)
inductive ClsOk (X : Cx) : List ExceptHandler → List Cl → Prop
  | nil : ClsOk X [] []
  | bare {x : Str} {c : Value} {ts : Addr → Value → Option Addr → TS} {b₀ : Stmt} {suite : List Stmt} {np pos' : Pos} {hds : List ExceptHandler} {l : List Cl} (hc : Names X x c)
      (su : ∀ (a : Addr) (oe : Obj) (cls : Value) (d : Option Addr) (pn : List (Addr × Obj)), Zc cls d oe → (∃ vs, oe.data = .fields vs) → PSs (X.suite a ((a, oe) :: pn)) (b₀ :: suite) (ts a cls d)) (r : ClsOk X hds l) :
      ClsOk X (.ExceptHandler (some (.Name x np)) none (b₀ :: suite) pos' :: hds) ((c, none, ts) :: l)
  | named {x n : Str} {i : Nat} {c : Value} {ts : Addr → Value → Option Addr → TS} {b₀ : Stmt} {suite : List Stmt} {np pos' : Pos} {hds : List ExceptHandler} {l : List Cl} (hc : Names X x c) (hi : X.N[i]? = some n) (ln : X.env.kindOf n = some .local)
      (su : ∀ (a : Addr) (oe : Obj) (cls : Value) (d : Option Addr) (pn : List (Addr × Obj)), Zc cls d oe → (∃ vs, oe.data = .fields vs) → PSs (X.suite a ((a, oe) :: pn)) (b₀ :: suite) (ts a cls d)) (r : ClsOk X hds l) :
      ClsOk X (.ExceptHandler (some (.Name x np)) (some n) (b₀ :: suite) pos' :: hds) ((c, some i, ts) :: l)
section
variable {X : Cx} {body : List Stmt} {h₀ : ExceptHandler} {hds : List ExceptHandler} {l : List Cl} {pos : Pos} {tb : WX → TS} {out : WX}
theorem ps_try_cls (hs : X.stack = X.env :: X.outer) (hf : X.env.frame = some X.env.locals) (hN : X.N.Nodup) (tk : Takes X out)
    (hb : ∀ (W : WX) (pn : List (Addr × Obj)) (xe : Value → Shared → Prop), Takes (X.tr pn xe) W → PassesOwn (model X.prog X.w) X.A X.env xe → PSs (X.tr pn xe) body (tb W)) (hh : ClsOk X (h₀ :: hds) l) :
    PS X (.Try body (h₀ :: hds) [] [] pos) (fun D σ H => tb (wCls X.K out D l) D σ H) := by
  refine ⟨fun pins s σ H D I h => ?_⟩
  have ok := I.ok
  have stk : X.A.frames = some (X.env :: X.outer) := by rw [ok.frames, hs]
  have quiet : ∀ {f : Flow} {s1 : Shared}, SP (X.tr (X.pn ++ pins) fun e s₁ => wpAny (model X.prog X.w) X.A (noteFrame e X.env) (fun _ s₂ => wpAny (model X.prog X.w) X.A (setFlight e none) (fun _ s₃ =>
      wpAny (model X.prog X.w) X.A (handleBy e X.env (h₀ :: hds)) (SP X pins D) X.xe s₃) X.xe s₂) X.xe s₁) [] D f s1 → SP X pins D f s1 := by
    intro f s1 hsp
    match f, hsp with
    | .next, ⟨σ', H', J, q⟩ => exact ⟨σ', H', J.ofTry ok, q⟩
    | .brk, ⟨σ', H', J, q⟩ => exact ⟨σ', H', J.ofTry ok, q⟩
    | .cont, ⟨σ', H', J, q⟩ => exact ⟨σ', H', J.ofTry ok, q⟩
    | .ret u, ⟨v, σ', H', J, r, q⟩ => exact ⟨v, σ', H', J.ofTry ok, r, q⟩
  refine wpAny_Try_except (wpAny_mono ((hb (wCls X.K out D l) (X.pn ++ pins) _ (fun u s' xx => ?_) PassesOwn.looking).run [] s σ H D (I.toTry _) h) (fun f s1 hsp => ?_) (fun e s1 he => he))
  · obtain ⟨a, B, sI, pins', σ', H', cls, d, rfl, J', nb, up, sky, na, os, ag, w⟩ := xx
    have J : Inv X pins σ' H' sI := J'.ofTry ok
    have up_ : Sky B (X.env :: X.outer) a (Zc cls d) X.env.locals s'.heap := by rw [← hs]; exact sky
    show wpAny (model X.prog X.w) X.A (noteFrame (.ref a) X.env) _ _ _
    refine Sky.land Zc.steady stk hf up_ fun h3 fl3 up3 => ?_
    have J3 : Inv X pins σ' H' { s' with heap := h3 } := J.landed nb fl3.1 (up.trans up3) os ag
    obtain ⟨oe3, vs3, he3, hz3, hd3⟩ := fl3.there
    have out_ : a ∉ frs (X.env :: X.outer) := by
      intro hm
      obtain ⟨_, o', e', hnf⟩ := (fl3.2.2.1).mem hm
      rw [he3] at e'
      cases e'
      exact hnf _ hd3
    have nL : a ≠ X.env.locals := fun z => out_ (List.mem_filterMap.mpr ⟨X.env, List.mem_cons_self, by rw [hf, z]⟩)
    have nF : a ∉ X.fs := by
      intro hm
      obtain ⟨e, he, q⟩ := List.mem_filterMap.mp hm
      exact out_ (List.mem_filterMap.mpr ⟨e, List.mem_cons_of_mem _ he, q⟩)
    have S3 := J3.suite he3 hd3 na nL nF
    have ty : PySem.W.Looks (model X.prog X.w) h3 (typeOf (.ref a)) cls := fun A Q E s k q => wpAny_typeOf_ref (k _ _ he3) (by rw [hz3.1]; exact q)
    have named_ : ∀ {x : Str} {np : Pos} {c : Value} {Q : Value → Shared → Prop} {E : Value → Shared → Prop}, Names X x c → Q c { s' with heap := h3 } →
        wpAny (model X.prog X.w) (X.A.mark (some (.ref a))) (eval (.Name x np) X.env) Q E { s' with heap := h3 } := by
      intro x np c Q E hc q
      obtain ⟨hg, hdbg, hm | ⟨hm, hv, hnn⟩⟩ := hc
      · exact ld_glob (X := X.suite a ((a, oe3) :: (X.pn ++ pins))) S3 hg hm q hdbg
      · exact ld_blt (X := X.suite a ((a, oe3) :: (X.pn ++ pins))) S3 hg hm hv q hnn hdbg
    have go : ∀ {hds' : List ExceptHandler} {l' : List Cl}, ClsOk X hds' l' → wCls X.K out D l' cls d σ' H' → wpAny (model X.prog X.w) X.A (handleBy (.ref a) X.env hds') (SP X pins D) X.xe { s' with heap := h3 } := by
      intro hds' l' hk
      induction hk with
      | nil =>
        intro w
        apply wpAny_handleBy_nil
        obtain ⟨k1, k2, k3, oe, vs, T, oT, ts', he, hz, hd, h1, hr⟩ := id fl3
        unfold PySem.passOn
        apply wpAny_bind
        refine wpAny_field he hd h1 ?_
        rw [if_neg (show ¬ ((Value.ref T == Value.none) = true) from by simp)]
        have fin : wpAny (model X.prog X.w) X.A (setFlight (.ref a) X.env.frame) (fun _ s4 => wpAny (model X.prog X.w) X.A (throw (.ref a) : Sem Flow) (SP X pins D) X.xe s4) X.xe { s' with heap := h3 } := by
          rw [hf]
          refine HandSPX.setFlight_upZ fl3 fun h4 hh4 up4 => wpAny_throw (tk _ _ ?_)
          exact ⟨a, B, sI, pins, σ', H', cls, d, rfl, J, nb, (up.trans up3).trans up4, .inr (.inr (by rw [hs]; exact hh4)), na, os, ag, w⟩
        first
          | exact wpAny_bind (wpAny_pure (wpAny_bind fin))
          | exact wpAny_bind fin
      | @bare x c ts b₀ suite np pos' hds2 l2 hc su r ih =>
        intro w
        obtain ⟨b, hb1, yes, no⟩ := w
        refine wpAny_handleBy_cons (codeAny_handlers_test (named_ hc ((PySem.W.exm_one (M := model X.prog X.w) J3.kIn ty hb1).here ?_))) (by intro q; cases q)
        cases b with
        | false => exact ih (no rfl)
        | true =>
          refine codeAny_handlers_suite (HandSPX.lands_againZ fl3 fun h4 fl4 up4 => ?_)
          have J4 : Inv X pins σ' H' { s' with heap := h4 } := J.landed nb fl4.1 ((up.trans up3).trans up4) os ag
          obtain ⟨oe4, vs4, he4, hz4, hd4⟩ := fl4.there
          refine wpAny_mono ((su a oe4 cls d (X.pn ++ pins) hz4 ⟨_, hd4⟩).run [] _ _ H' _ (J4.suite he4 hd4 na nL nF) (yes rfl a na)) (fun f s6 hsp => ?_) (fun _ _ z => False.elim z)
          match f, hsp with
          | .next, ⟨σ6, H6, S6, q6⟩ => exact ⟨_, _, S6.unsuite ok, q6⟩
          | .brk, ⟨σ6, H6, S6, q6⟩ => exact ⟨_, _, S6.unsuite ok, q6⟩
          | .cont, ⟨σ6, H6, S6, q6⟩ => exact ⟨_, _, S6.unsuite ok, q6⟩
          | .ret u, ⟨v6, σ6, H6, S6, r6, q6⟩ => exact ⟨_, _, _, S6.unsuite ok, r6, q6⟩
      | @named x n i c ts b₀ suite np pos' hds2 l2 hc hi ln su r ih =>
        intro w
        obtain ⟨b, hb1, yes, no⟩ := w
        refine wpAny_handleBy_cons (codeAny_handlers_test (named_ hc ((PySem.W.exm_one (M := model X.prog X.w) J3.kIn ty hb1).here ?_))) (by intro q; cases q)
        cases b with
        | false => exact ih (no rfl)
        | true =>
          refine codeAny_handlers_suite_as (HandSPX.lands_againZ fl3 fun h4 fl4 up4 => ?_)
          have J4 : Inv X pins σ' H' { s' with heap := h4 } := J.landed nb fl4.1 ((up.trans up3).trans up4) os ag
          obtain ⟨oe4, vs4, he4, hz4, hd4⟩ := fl4.there
          have S4 := J4.suite he4 hd4 na nL nF
          refine store_ok (X := X.suite a ((a, oe4) :: (X.pn ++ pins))) (v := .ref a) S4 hN hi (.inl ln) rfl (fun s5 S5 => ?_) (.inr ln)
          refine wpAny_mono ((su a oe4 cls d (X.pn ++ pins) hz4 ⟨_, hd4⟩).run [] s5 _ H' _ S5 (yes rfl a na)) (fun f s6 hsp => ?_) (fun _ _ z => False.elim z)
          match f, hsp with
          | .next, ⟨σ6, H6, S6, q6⟩ => exact gone_ok (S6.unsuite ok) hN hi ln fun s7 J7 => ⟨_, _, J7, q6⟩
          | .brk, ⟨σ6, H6, S6, q6⟩ => exact gone_ok (S6.unsuite ok) hN hi ln fun s7 J7 => ⟨_, _, J7, q6⟩
          | .cont, ⟨σ6, H6, S6, q6⟩ => exact gone_ok (S6.unsuite ok) hN hi ln fun s7 J7 => ⟨_, _, J7, q6⟩
          | .ret u, ⟨v6, σ6, H6, S6, r6, q6⟩ => exact gone_ok (S6.unsuite ok) hN hi ln fun s7 J7 => ⟨_, _, _, J7, r6, q6⟩
    exact go hh w
  · cases f with
    | next => exact wpAny_execs_nil (quiet hsp)
    | brk => exact quiet hsp
    | cont => exact quiet hsp
    | ret u => exact quiet hsp
end
end Fw

/-! Errors raised that keep a value; a def that is called with the error that is handled. -/
namespace Fw
open PySem PySem.Spec PyProof.Rows L2
/-- what gives a new error with a dict back makes an exception -/
theorem pmk_retD {X : Cx} {K : PySem.W.Frag} {H0 : Hp} {e : Expr} {te : TE} (hK : X.K = K) (h00 : X.H_0 = H0) (hx : X.ex = []) (he : PE X e te) :
    PMk X e (fun σ H Q => te σ H fun x H1 => ∃ a D d, x = .ref a ∧ H1 a = some (ExD D a d) ∧ Fr0 H0 a ∧ PySem.W.subIn K (.ref D) (.type "BaseException") = some true ∧ PySem.W.typeIn K (.ref D) = some (.type "type") ∧ Q (.ref D) (some d) (delH H1 a)) := by
  subst hK h00
  intro pins s σ H Q I h
  refine wpAny_mono (he.run pins s σ H _ I h) (fun u s1 hu => ?_) fun _ _ x => x
  obtain ⟨v, H1, I1, r1, a, D, d, rfl, ha, h0, hr1, hr2, q⟩ := hu
  cases r1
  obtain ⟨⟨oe, vs, ho, hz, hd, h1, _⟩, _, _⟩ := I1.hok a _ ha
  obtain ⟨G, gs, ga, J⟩ := I1.untrack ha h0 hx
  exact ⟨a, oe, vs, { s1 with heap := G }, delH H1 a, .ref D, some d, rfl, J, gs, ga, ho, hz, hd, h1, delH_same, rfl, I1.bare, raises_own hr1 hr2, q⟩
/-- a def of one parameter, called with the handled error, of the class at D, without a dict -/
structure FnE (P : Program) (w : World) (K : PySem.W.Frag) (mg : Str → Option Value) (base : Heap) (k : Nat) (f : Addr) (fd : FuncData) (x : Str) (sp : Addr → VK → Hp → Prop) : Prop where
  goes : ∀ (A : Around) (fr : List Env) (s : Shared) (H : Hp) (ar : Args) (us : List Value) (Q : VK) (E : XK) (a D : Addr) (oe : Obj) (fs : Array Value), A.guards = some [] → L2H.RoomH k A → L2H.PinOk fr H s (a, oe) → Zc (.ref D) none oe → oe.data = .fields fs →
    Env0 P w K mg base A fr s H → BindsTo s fd ar (([x] : List Str).zip us) → Vals [.ref a] us → sp D Q H → codeAny (model P w) A (.call (.ref f) ar) (CR CX0 fr P w H s Q E) s
section
variable {P : Program} {w : World} {K : PySem.W.Frag} {mg : Str → Option Value} {base : Heap} {k : Nat}
theorem fnE {f : Addr} {x qual : Str} {st : Stmt} {fd : FuncData} {N : List Str} {y : Str} {sp : Addr → VK → Hp → Prop} (F : Fun K x qual st f fd) (S : FnScope N [y] (defScope st))
    (hbody : ∀ (cdv : Value) (A : Around) (fr : List Env) (s : Shared) (H : Hp) (Q : VK) (E : XK) (a D : Addr) (oe : Obj) (fs : Array Value), A.guards = some [] → L2H.RoomH k (A.deeper (envOfC qual (defScope st) s.heap.objs.size f cdv)) → Zc (.ref D) none oe → oe.data = .fields fs → sp D Q H →
      ∃ t, PSs (L2H.cxH CX0 P w K mg base N qual (defScope st) f cdv A fr s H E (a, oe)) (defBody st) t ∧ t { nx := fun _ H' => Q .non H', rt := Q } (start N [.ref a]) H) : FnE P w K mg base (k + 1) f fd y sp := by
  obtain ⟨oc, od, kV, doc, pm, an, cdv, ct, osl, rfl, lk, hcd⟩ := F.ex
  refine ⟨fun A fr s H ar us Q E a D oe fs hG hr pin z fl e0 hb r hsp => ?_⟩
  have kept : ∀ b o, base.get? b = some o → s.heap.get? b = some o := fun b o e => (e0.bs b o e).1
  have kinds : ∀ z ∈ ([y] : List Str).zip us, (defScope st).names.lookup z.1 = some .local ∨ ((defScope st).names.lookup z.1 = some .cell ∧ ((cellsFrom (s.heap.objs.size + 1) (defScope st).names []).lookup z.1).isSome = true) := by
    intro z hz
    rcases S.par z.1 (List.of_mem_zip hz).1 with l | c
    · exact Or.inl l
    · exact Or.inr ⟨c, PySem.W.cellsFrom_some _ _ _ (Or.inl c)⟩
  apply codeAny_call_function hr.depth ((e0.mod.kin.keeps kept) _ _ lk) rfl S.co S.gen rfl (PySem.W.codeRec_of (e0.mod.kin.keeps kept) hcd)
  apply hb
  apply wpAny_newFunctionEnv_cells S.kind kinds
  intro env he s1 ic
  cases he
  refine ⟨(e0.mod.nolimit.keeps kept).keeps ic.toInCall.keep, codeAny_func ?_⟩
  obtain ⟨t, walk, now⟩ := hbody cdv A fr s H Q E a D oe fs hG (hr.deeper _) z fl hsp
  refine wpAny_mono (walk.run [] s1 (start N [.ref a]) H _ (L2H.inv_startH S pin e0 rfl r ic) now) (fun fl s' ends => ?_) (fun _ _ ends => ends)
  match fl, ends with
  | .ret u, ⟨v, σ', H', J, rv, q⟩ => exact ⟨v, H', J.os, J.bare, J.base, J.hok, rv, q⟩
  | .next, ⟨σ', H', J, q⟩ => exact ⟨V.non, H', J.os, J.bare, J.base, J.hok, rfl, q⟩
  | .brk, ⟨_, _, _, q⟩ => exact q.elim
  | .cont, ⟨_, _, _, q⟩ => exact q.elim
end
section
variable {X : Cx} {k : Nat} {f : Addr} {fd : FuncData} {x y : Str} {sp : Addr → VK → Hp → Prop} {p pos : Pos} {e : Expr} {te : TE} {a : Addr} {oe : Obj} {pn : List (Addr × Obj)} {cls : Value} {d : Option Addr}
/-- f(e) in an except suite, e the error that is handled -/
theorem pe_callE (G : X.A.guards = some []) (F : FnE X.prog X.w X.K X.mg X.base k f fd y sp) (hr : L2H.RoomH k X.A) (hg : Gl X x) (hm : X.mg x = some (.ref f)) (hk : PySem.W.keepIn X.K (.ref f) = true) (hb : Binds X.K fd [y] []) (hz : Zc cls d oe)
    (hf : ∃ vs, oe.data = .fields vs) (he : PE (X.suite a ((a, oe) :: pn)) e te) (hdb : (x == ("__debug__" : Str)) = false := by decide) (hs : starEach [e] X.env = (false, eval e X.env) :: starEach [] X.env := by rfl) :
    PE (X.suite a ((a, oe) :: pn)) (.Call (.Name x p) [e] [] pos) (fun σ H Q => te σ H fun v H1 => v = .ref a ∧ ∃ D, cls = .ref D ∧ d = none ∧ sp D Q H1) := by
  refine ⟨fun pins s σ H Q I h => wpAny_Call_Name_kw (ld_glob (X := X.suite a ((a, oe) :: pn)) I hg hm ?_ hdb)⟩
  refine PySem.W.callWith_K (h₀ := X.base) I.ok.mod.kin hk ?_ hs (by rfl)
  rw [hs]
  show wpAny _ _ (spliced ((false, eval e X.env) :: backTo pos (starEach [] X.env))) _ _ s
  refine Calls.spliced_cons (thn (he.run pins s σ H _ I h) fun u s1 ⟨v, H1, I1, r1, ev, D, ec, ed, q1⟩ => ?_)
  refine Calls.spliced_nil ⟨I1.kIn, ?_⟩
  subst ev ec ed
  show wpAny _ _ (call (.ref f) [u]) _ _ _
  obtain ⟨g1, g2, g3, g4, g5⟩ := I1.pin (a, oe) (List.mem_append_left _ List.mem_cons_self)
  obtain ⟨vs, hv⟩ := hf
  have pin : L2H.PinOk (X.suite a ((a, oe) :: pn)).stack H1 s1 (a, oe) := ⟨g1, g2, fun hm => by
    rcases List.mem_cons.mp (I1.stkSub a hm) with z | z
    · exact g3 z
    · exact g4 z, g5⟩
  have b := hb s1 [u] I1.kIn rfl
  rw [List.append_nil] at b
  apply wpAny_call
  apply codeAny_mono (F.goes (X.suite a ((a, oe) :: pn)).A _ s1 H1 ⟨[u], []⟩ [u] Q (fun _ _ _ => False) a D oe vs G ⟨hr.dp, hr.un⟩ pin hz hv I1.env0 b (.cons r1 .nil) q1)
  intro res s' ends
  match res, ends with
  | .error er, ends => exact ends.elim
  | .ok (.ret u), ends => exact I1.after ends
  | .ok .next, ends => exact ends.elim
  | .ok .brk, ends => exact ends.elim
  | .ok .cont, ends => exact ends.elim
end
end Fw

/-! Kinds of values; what names are. -/
namespace Fw
open PySem PySem.Spec PyProof.Rows L2
/-- the name of a value's type -/
inductive Kn (H : Hp) : V → String → Prop
  | non : Kn H .non "NoneType"
  | bl (b : Bool) : Kn H (.bl b) "bool"
  | int (i : Int) : Kn H (.int i) "int"
  | str (x : Str) : Kn H (.str x) "str"
  | lst {a : Addr} {xs : List V} (e : H a = some (.lst xs)) : Kn H (.ref a) "list"
  | tup {a : Addr} {xs : List V} (e : H a = some (.tup xs)) : Kn H (.ref a) "tuple"
  | dK {a : Addr} {kvs : List (Key × V)} (e : H a = some (.dK kvs)) : Kn H (.ref a) "dict"
  | tupF {a : Addr} {o : Obj} {xs : List V} (e : H a = some (.frz o (.tup xs))) : Kn H (.ref a) "tuple"
theorem Kn.tyx {K : PySem.W.Frag} {H : Hp} {v : V} {n : String} (h : Kn H v n) : TyX K H v (.type n) := by
  cases h with
  | non => exact .base .non
  | bl b => exact .base (.bl b)
  | int i => exact .base (.int i)
  | str x => exact .base (.str x)
  | lst e => exact .base (.lst e)
  | tup e => exact .base (.tup e)
  | dK e => exact .base (.dK e)
  | tupF e => exact .fTuple e
theorem Kn.same {H H' : Hp} {v : V} {n : String} (h : Kn H v n) (s : Same H H') : Kn H' v n := by
  cases h with
  | non => exact .non
  | bl b => exact .bl b
  | int i => exact .int i
  | str x => exact .str x
  | lst e => exact .lst (s _ _ e)
  | tup e => exact .tup (s _ _ e)
  | dK e => exact .dK (s _ _ e)
  | tupF e => exact .tupF (s _ _ e)
theorem Kn.rd {H : Hp} {a : Addr} {xs : List V} (h : Rd H a (.tup xs)) : Kn H (.ref a) "tuple" := by
  rcases h with h | ⟨o, h⟩
  · exact .tup h
  · exact .tupF h
theorem rd_same {H H' : Hp} {a : Addr} {u : HO} (h : Rd H a u) (s : Same H H') : Rd H' a u := by
  rcases h with h | ⟨o, h⟩
  · exact .inl (s _ _ h)
  · exact .inr ⟨o, s _ _ h⟩
def isB (n t : String) : Bool := n == t || (n == "bool" && t == "int")
theorem Kn.kit {K : PySem.W.Frag} {H : Hp} {v : V} {n t : String} (h : Kn H v n) (ht : t = "int" ∨ t = "bool" ∨ t = "str" ∨ t = "tuple" ∨ t = "dict" ∨ t = "list") : PySem.W.kitOne K (.type n) (.type t) = some (isB n t) := by
  have all : ∀ n ∈ ["NoneType", "bool", "int", "str", "list", "tuple", "dict"], ∀ t ∈ ["int", "bool", "str", "tuple", "dict", "list"], kitB n t = some (isB n t) := by decide +kernel
  refine kit_ty (all n ?_ t ?_)
  · cases h <;> simp
  · rcases ht with rfl | rfl | rfl | rfl | rfl | rfl <;> simp
section
variable {X : Cx} {e : Expr} {te : TE} {t : String} {tn : Str} {p1 p2 p3 : Pos}
/-- isinstance(e, t), t a built-in type's name -/
def tIs (t : String) (te : TE) : TE := fun σ H Q => te σ H fun v H1 => ∃ n, Kn H1 v n ∧ Q (.bl (isB n t)) H1
theorem pe_is (ht : t = "int" ∨ t = "bool" ∨ t = "str" ∨ t = "tuple" ∨ t = "dict" ∨ t = "list") (gS : Gl X "isinstance") (hS : X.mg "isinstance" = none) (gT : Gl X tn) (hT : X.mg tn = none) (bT : bootBuiltins tn = some (.type t)) (he : PE X e te)
    (mono : ∀ σ H (Q Q' : VK), (∀ v H, Q v H → Q' v H) → te σ H Q → te σ H Q')
    (hn : tn ≠ "__name__" := by decide) (hd : (tn == ("__debug__" : Str)) = false := by decide)
    (s1 : starEach [e, .Name tn p1] X.env = (false, eval e X.env) :: starEach [.Name tn p1] X.env := by rfl) (s2 : starEach [.Name tn p1] X.env = (false, eval (.Name tn p1) X.env) :: starEach [] X.env := by rfl)
    (s4 : (backTo p3 (starEach [.Name tn p1] X.env)).any (·.1) = false := by rfl) :
    PE X (.Call (.Name "isinstance" p2) [e, .Name tn p1] [] p3) (tIs t te) := by
  refine ⟨fun pins s σ H Q I h => ?_⟩
  refine (pe_callB call_isi gS hS (by decide +kernel) (pa_cons he (pa_cons (pe_bltn (v := .ty t) gT hT bT rfl hn hd) pa_nil s2) s1) (he := s1) (hpl := s4)).run pins s σ H Q I ?_
  refine mono σ H _ _ (fun v H1 h => ?_) h
  obtain ⟨n, k, q⟩ := h
  exact ⟨v, .ty t, _, _, _, rfl, .ty t, k.tyx, k.kit ht, q⟩
end
theorem mono_var {i : Nat} : ∀ (σ : L2.St) (H : Hp) (Q Q' : VK), (∀ v H, Q v H → Q' v H) → tVar i σ H Q → tVar i σ H Q' := fun σ H Q Q' m h => by
  obtain ⟨v, e, q⟩ := h
  exact ⟨v, e, m v H q⟩
/-! ### names -/
def low (c : Nat) : Bool := 97 ≤ c && c ≤ 122
/-- a text of one to eight letters a to z -/
def nameS (x : Str) : Bool := decide (1 ≤ x.length) && (decide (x.length ≤ 8) && x.cps.toList.all low)
theorem low_of : ∀ c, c < 128 → (PySem.Unicode.isAlpha c && (PySem.Unicode.isLower c && !(PySem.Unicode.isUpper c || PySem.Unicode.isTitle c))) = low c := by decide +kernel
theorem low_up : ∀ c, c < 128 → PySem.Unicode.isAlpha c = true → (PySem.Unicode.isUpper c || PySem.Unicode.isTitle c) = !low c := by decide +kernel
theorem low_al : ∀ c, c < 128 → low c = true → PySem.Unicode.isAlpha c = true ∧ PySem.Unicode.isLower c = true ∧ (PySem.Unicode.isUpper c || PySem.Unicode.isTitle c) = false := by decide +kernel
theorem name_is {x : Str} (h1 : 1 ≤ x.length) (h8 : x.length ≤ 8) : (Txt.isascii x && (Txt.isalpha x && Txt.islower x)) = nameS x := by
  obtain ⟨⟨l⟩⟩ := x
  have e1 : decide (1 ≤ (⟨⟨l⟩⟩ : Str).length) = true := decide_eq_true h1
  have e8 : decide ((⟨⟨l⟩⟩ : Str).length ≤ 8) = true := decide_eq_true h8
  unfold nameS
  rw [e1, e8, Bool.true_and, Bool.true_and]
  rw [Bool.eq_iff_iff]
  simp only [Txt.isascii, Txt.isalpha, Txt.islower, Bool.and_eq_true, Array.all_eq_true', Bool.not_eq_true', List.all_eq_true, Array.any_eq_true', Array.any_eq_false', decide_eq_true_eq]
  constructor
  · rintro ⟨h1, ⟨_, h2⟩, _, h4⟩ c hc
    have hc' : c ∈ (⟨l⟩ : Array Nat) := by simpa using hc
    have u := low_up c (h1 c hc') (h2 c hc')
    have z := h4 c hc'
    cases q : low c with
    | true => rfl
    | false =>
      rw [q] at u
      rw [u] at z
      exact absurd rfl z
  · intro h
    have hc : ∀ c, c ∈ (⟨l⟩ : Array Nat) → c < 128 ∧ low c = true := fun c m => by
      have z := h c (by simpa using m)
      refine ⟨?_, z⟩
      unfold low at z
      simp only [Bool.and_eq_true, decide_eq_true_eq] at z
      omega
    refine ⟨fun c m => (hc c m).1, ⟨?_, fun c m => (low_al c (hc c m).1 (hc c m).2).1⟩, ?_, fun c m => ?_⟩
    · exact h1
    · have : 0 < l.length := h1
      refine ⟨l[0], by simp, (low_al _ (hc _ (by simp)).1 (hc _ (by simp)).2).2.1⟩
    · rw [(low_al c (hc c m).1 (hc c m).2).2.2]
      decide
end Fw

/-! The end of a law whose def is promised where no repr is under way. -/
namespace Fw
open PySem PySem.Spec PyProof.Rows L2
/-- at callerA, over an abstract heap that tracks nothing but the script, and that only where the written part does not hold it -/
theorem ends_one {P : Program} {w : World} {K : PySem.W.Frag} {mg mb : Str → Option Value} {CX : CXT} {k : Nat} {fa a : Addr} {fd : FuncData} {x : Str} {sp : Sp} {s₁ : Shared} {vs : List Value} {H : Hp} {L : List V}
    (KX : K.In s₁.heap) (hns : s₁.heap.Ns mainGlobals mg) (hb : s₁.heap.Ns builtinsNs mb) (hbb : ∀ y : Str, y ≠ "__name__" → mb y = bootBuiltins y) (hlim : s₁.heap.NoLimit) (hg : s₁.gens = #[])
    (ha : s₁.heap.get? a = some { cls := .type "list", data := .seq vs.toArray }) (hr : Room k callerA)
    (F : ∀ base : Heap, K.In base → base.Ns mainGlobals mg → FnG P w K mg base CX k fa fd [x] sp) (hbind : ∀ (s : Shared) (u : Value), BindsTo s fd ⟨[u], []⟩ [(x, u)])
    (hsp : sp [.ref a] H (fun v _ => v = .bl true) fun _ _ _ => False) (hCX : ∀ e s', CX [] H s₁ (fun _ _ _ => False) e s' → False)
    (only : ∀ b u, H b = some u → b = a ∧ K.lookup a = none ∧ ∃ o, u = .frz o (.lst L)) (held : HOk P w H s₁.heap) :
    codeAny (model P w) callerA (.call (.ref fa) ⟨[.ref a], []⟩) (fun r s' => r = .ok (.ret (.bool true)) ∧ OldK s₁.heap s'.heap ∧ s'.os = s₁.os ∧ AllBare s'.gens) s₁ := by
  have away : ∀ {b : Addr} {o : Obj}, s₁.heap.get? b = some o → (b = a → K.lookup a = none → False) → H b = none := by
    intro b o _ no
    cases q : H b with
    | none => rfl
    | some u =>
      obtain ⟨e, n, _⟩ := only b u q
      exact (no e n).elim
  have dicts : ∀ {b : Addr} {o : Obj} {es : Array DictEntry} {ep : Nat}, s₁.heap.get? b = some o → o.data = .dict es ep → H b = none := by
    intro b o es ep e d
    refine away e fun z _ => ?_
    rw [z, ha] at e
    cases e
    exact Data.noConfusion d
  have spaces : ∀ {b : Addr} {m : Str → Option Value}, s₁.heap.Ns b m → (hidT s₁.heap H).Ns b m := by
    rintro b m ⟨o, es, ep, e, d, more⟩
    exact ⟨o, es, ep, hidT_get e (dicts e d), d, more⟩
  have written : K.In (hidT s₁.heap H) := by
    intro b o e
    refine hidT_get (KX b o e) (away (KX b o e) fun z n => ?_)
    rw [z, n] at e
    cases e
  have room : Mod K mg (hidT s₁.heap H) := by
    obtain ⟨mc, l1, l2⟩ := hlim
    exact ⟨written, spaces hns, ⟨mb, spaces hb, hbb⟩, ⟨mc, spaces l1, l2⟩⟩
  have entry : Env0 P w K mg (hidT s₁.heap H) callerA [] s₁ H :=
    { frames := rfl, mod := room, bs := fun b o e => of_hidT e, bsz := Nat.le_of_eq (hidT_size _ _), funs := trivial, frf := fun b hm => (List.not_mem_nil hm).elim, hok := held, bare := .of_eq hg }
  apply codeAny_mono ((F _ written (spaces hns)).goes callerA [] s₁ H ⟨[.ref a], []⟩ [.ref a] [.ref a] _ _ (fun _ => rfl) hr entry (hbind s₁ (.ref a)) (.cons rfl .nil) hsp)
  intro res s' ends
  match res, ends with
  | .error er, ends => exact (hCX er s' ends).elim
  | .ok .next, ends => exact ends.elim
  | .ok .brk, ends => exact ends.elim
  | .ok .cont, ends => exact ends.elim
  | .ok (.ret u), ⟨v, H', os, bare, un, held', rv, q⟩ =>
    have q' : v = .bl true := q
    subst q'
    cases rv
    refine ⟨rfl, OldK.of_keep fun b o e => ?_, os, bare⟩
    cases q : H b with
    | none => exact un.keep b o e q (fun z => (List.not_mem_nil z).elim) (fun z => (List.not_mem_nil z).elim)
    | some u =>
      obtain ⟨_, _, ob, z⟩ := only b u q
      rw [z] at q
      obtain ⟨e1, _⟩ := held b _ q
      obtain ⟨e2, _⟩ := held' b _ (un.frzs b ob _ q)
      rw [e] at e1
      cases e1
      exact e2
/-- the goal that the head leaves, by a promise for the law's def -/
theorem walkG {l : PySem.W.OpenLaw} {n k : Nat} {q : Program} {loose : List Str} {XP : (Str → Option Value) → Heap → Prop} {YP : World → Heap → Prop} {d : DefRec} {K : Params → PySem.W.Frag} {CX : World → CXT} {sp : World → Sp} {x : Str}
    (hn : l.most = some n) (hn2 : n ≤ sizeLine) (hdf : d.params.defaults = []) (hr : Room k callerA) (hY : ∀ (w : World) (h : Heap), YP w h → (K w.params).In h)
    (F : ∀ (w : World) (mg : Str → Option Value) (fa : Addr) (h : Heap), (K w.params).In h → h.Ns mainGlobals mg → mg d.name = some (.ref fa) →
      ∃ fd : FuncData, (∀ (s : Shared) (u : Value), BindsTo s fd ⟨[u], []⟩ [(x, u)]) ∧ ∀ base : Heap, (K w.params).In base → base.Ns mainGlobals mg → FnG l.prog w (K w.params) mg base (CX w) k fa fd [x] (sp w))
    (hsp : ∀ (w : World) (H : Hp) (a : Addr) (ns : List Int), ns.length ≤ n → SqL (K w.params) H a (ns.map V.int) → sp w [.ref a] H (fun v _ => v = .bl true) fun _ _ _ => False)
    (hCX : ∀ (w : World) (H : Hp) (s : Shared) (e : Value) (s' : Shared), CX w [] H s (fun _ _ _ => False) e s' → False) :
    PySem.W.WalkO q loose XP YP l.row.toRowW d [] (fun f vs => PySem.call f vs) := by
  apply Att.attach_call hn hdf
  intro w s₀ s₁ mg mb fa o pm cd doc a vs ns G Y ho hd hcd hmg hobj hints hlen hg
  have KX := hY w _ Y
  obtain ⟨fd, hb, hF⟩ := F w mg fa _ KX G.T.g hmg
  have rv := L2.vals_ints hints
  have lv := hints.length
  have hl : ns.length ≤ sizeLine := Nat.le_trans hlen hn2
  cases hk : (K w.params).lookup a with
  | some u =>
    have same := KX a u hk
    rw [hobj] at same
    cases same
    refine ends_one (L := []) KX G.T.g G.T.b G.T.builtins G.T.nolimit hg hobj hr hF hb (hsp w (fun _ => none) a ns hlen (.inr ⟨_, vs.toArray, _, hk, rfl, rfl, rfl, ?_, by simpa using rv⟩)) (hCX w _ s₁) ?_ ?_
    · rw [List.size_toArray, lv]
      exact hl
    · intro b u z
      exact (nomatch (show (none : Option HO) = some u from z))
    · intro b u z
      exact (nomatch (show (none : Option HO) = some u from z))
  | none =>
    let o : Obj := { cls := .type "list", data := .seq vs.toArray }
    let H1 : Hp := fun b => if b = a then some (HO.frz o (.lst (ns.map V.int))) else none
    have there : H1 a = some (HO.frz o (.lst (ns.map V.int))) := if_pos rfl
    have just : ∀ b u, H1 b = some u → b = a ∧ u = HO.frz o (.lst (ns.map V.int)) := by
      intro b u z
      by_cases hba : b = a
      · rw [hba, there] at z
        exact ⟨hba, (Option.some.inj z).symm⟩
      · have no : H1 b = none := if_neg hba
        rw [no] at z
        exact nomatch z
    refine ends_one (H := H1) (L := ns.map V.int) KX G.T.g G.T.b G.T.builtins G.T.nolimit hg hobj hr hF hb (hsp w H1 a ns hlen (.inl (.inr ⟨o, there⟩))) (hCX w H1 s₁) ?_ ?_
    · intro b u z
      obtain ⟨e1, e2⟩ := just b u z
      exact ⟨e1, hk, _, e2⟩
    · intro b u z
      obtain ⟨e1, e2⟩ := just b u z
      rw [e1, e2]
      exact ⟨hobj, by rw [List.length_map]; exact hl, vs, _, rv, hobj⟩
end Fw

/-! Sets of texts whose order can be walked. -/
namespace Fw
open PySem PySem.Spec PyProof.Rows L2
/-! ### the set at an address -/
def txOf (e : Int × Value) : Str := match e.2 with | .str k _ => k | _ => Str.empty
def TxE (w : World) (e : Int × Value) : Prop := ∃ k tk, e.2 = Value.str k tk ∧ e.1 = hashStr w k
/-- l: the members, each once -/
def SetW (w : World) (h : Heap) (a : Addr) (l : List Str) : Prop :=
  ∃ ob el ep tb, h.get? a = some ob ∧ ob.ExactSet ∧ ob.data = .set el ep tb ∧ (∀ e ∈ el.toList, TxE w e) ∧ (el.toList.map txOf).Perm l ∧ l.Nodup ∧
    el.size < scanBound ∧ tb.fits el.size = true ∧ Ris tb.place.toList ∧ (w.params.followText "set-order" = true ∨ tb.led = true)
section
variable {P : Program} {w : World} {h h' : Heap} {a : Addr} {l : List Str}
theorem SetW.at (R : SetW w h a l) (k : ∀ u, h.get? a = some u → h'.get? a = some u) : SetW w h' a l := by
  obtain ⟨ob, el, ep, tb, hob, z⟩ := R
  exact ⟨ob, el, ep, tb, k ob hob, z⟩
theorem SetW.perm {l' : List Str} (R : SetW w h a l) (p : l.Perm l') : SetW w h a l' := by
  obtain ⟨ob, el, ep, tb, hob, x, d, g, pm, nd, z⟩ := R
  exact ⟨ob, el, ep, tb, hob, x, d, g, pm.trans p, p.nodup_iff.mp nd, z⟩
theorem txE_elems {r : List (Int × Value)} (g : ∀ e ∈ r, TxE w e) : ElemsOf (strKind P w) r := fun e m => by
  obtain ⟨k, tk, e1, e2⟩ := g e m
  refine ⟨⟨k, ?_, e2⟩, ?_⟩
  · rw [e1]
    exact strKind_is P w k tk
  · rw [e1]
    rfl
theorem txE_is {e : Int × Value} (g : TxE w e) (k : Str) : (strKind P w).is k e.2 = true ↔ txOf e = k := by
  obtain ⟨c, tk, e1, _⟩ := g
  unfold txOf
  rw [e1]
  show Value.isStrOf k (.str c tk) = true ↔ c = k
  constructor
  · intro z
    obtain ⟨u, hu⟩ := Value.isStrOf_shape z
    injection hu
  · rintro rfl
    exact strKind_is P w c tk
theorem txE_mem {r : List (Int × Value)} (g : ∀ e ∈ r, TxE w e) (k : Str) : k ∈ r.map txOf ↔ ∃ e ∈ r, (strKind P w).is k e.2 = true := by
  rw [List.mem_map]
  exact ⟨fun ⟨e, m, q⟩ => ⟨e, m, (txE_is (g e m) k).2 q⟩, fun ⟨e, m, q⟩ => ⟨e, m, (txE_is (g e m) k).1 q⟩⟩
theorem SetW.setOf (R : SetW w h a l) : h.SetOf (strKind P w) a (fun k => decide (k ∈ l)) l.length := by
  obtain ⟨ob, el, ep, tb, hob, x, d, g, pm, nd, few, fit, _⟩ := R
  refine ⟨ob, el, ep, tb, hob, x, d, txE_elems g, fun k => ?_, few, fit, ?_⟩
  · rw [decide_eq_true_eq, ← pm.mem_iff]
    exact txE_mem g k
  · rw [← pm.length_eq, List.length_map, Array.length_toList]
theorem SetW.nodup (R : SetW w h a l) : l.Nodup := by
  obtain ⟨_, _, _, _, _, _, _, _, _, nd, _⟩ := R
  exact nd
end
/-- with one more text -/
def addT (l : List Str) (k : Str) : List Str := if k ∈ l then l else l ++ [k]
section
variable {P : Program} {w : World} {A : Around} {E : Value → Shared → Prop} {s : Shared} {a : Addr} {l : List Str}
theorem laid_at {hp : Heap} {ob : Obj} {el el' : Array (Int × Value)} {ep : Nat} {tb tb' : SetTable} (hob : hp.get? a = some ob) (dat : ob.data = .set el ep tb) :
    (hp.update a (Obj.putSet el' tb')).get? a = some { ob with data := .set el' (ep + 1) tb' } := by
  have z := Heap.get?_update_self (Obj.putSet el' tb') hob (by rw [putSet_of el' tb' dat]; rfl)
  rwa [putSet_of el' tb' dat] at z
theorem setW_tail {g : Bool → Sem Unit} (free : ∀ (b : Bool) (s1 : Shared) (Q' : Unit → Shared → Prop), Q' () s1 → wpAny (model P w) A (g b) Q' E s1)
    {ob : Obj} {el : Array (Int × Value)} {ep : Nat} {tb : SetTable} (hob : s.heap.get? a = some ob) (xs : ob.ExactSet) (dat : ob.data = .set el ep tb)
    {el1 : Array (Int × Value)} {tb2 : SetTable} {l' : List Str} (good : ∀ e ∈ el1.toList, TxE w e) (pm : (el1.toList.map txOf).Perm l') (nd : l'.Nodup)
    (few : el1.size < scanBound) (fit : tb2.fits el1.size = true) (ris : Ris tb2.place.toList) (led : w.params.followText "set-order" = true ∨ tb2.led = true) {wd : Bool} {R : Option Bool → Shared → Prop}
    (fin : ∀ h', Heap.SameBut a s.heap h' → SetW w h' a l' → R (some true) { s with heap := h' }) :
    wpAny (model P w) A (do
        storeSet a el1 tb2
        if (!wd && tb2.tooFull) = true then do
            g (relayAll tb2 el1 (SetTable.grown el1.size)).2.2
            storeSet a (relayAll tb2 el1 (SetTable.grown el1.size)).1 (relayAll tb2 el1 (SetTable.grown el1.size)).2.1
            pure (some true)
          else pure (some true)) R E s := by
  refine wpAny_bind (wpAny_storeSet_of hob dat ?_ (fits_of_scanBound few))
  have at1 := laid_at (el' := el1) (tb' := tb2) hob dat
  have but1 := Heap.SameBut.update s.heap a (Obj.putSet el1 tb2)
  split
  · have p2 := relayAll_perm tb2 el1 (SetTable.grown el1.size)
    have f2 := relayAll_fits tb2 el1 (SetTable.grown el1.size)
    have r2 := relayAll_ris tb2 el1 (SetTable.grown el1.size)
    have d2 := relayAll_led tb2 el1 (SetTable.grown el1.size)
    generalize relayAll tb2 el1 (SetTable.grown el1.size) = Z at p2 f2 r2 d2 ⊢
    obtain ⟨el2, tb3, gave⟩ := Z
    dsimp only at p2 f2 r2 d2 ⊢
    have sz : el2.size = el1.size := by
      have z := p2.length_eq
      rwa [Array.length_toList, Array.length_toList] at z
    have few2 : el2.size < scanBound := sz ▸ few
    refine wpAny_bind (free _ _ _ ?_)
    refine wpAny_bind (wpAny_storeSet_of at1 rfl ?_ (fits_of_scanBound few2))
    have at2 := laid_at (el' := el2) (tb' := tb3) at1 rfl
    refine wpAny_pure (fin _ (but1.trans (Heap.SameBut.update _ a _)) ?_)
    refine ⟨_, el2, _, tb3, at2, xs, rfl, fun e m => good e (p2.mem_iff.mp m), (p2.map txOf).trans pm, nd, few2, f2, r2, ?_⟩
    rw [d2]
    exact led
  · exact wpAny_pure (fin _ but1 ⟨_, el1, _, tb2, at1, xs, rfl, good, pm, nd, few, fit, ris, led⟩)
theorem setW_add {k : Str} {tk : Tok} {Q : Bool → Shared → Prop} (R : SetW w s.heap a l) (room : l.length + 1 < scanBound)
    (fin : ∀ h', Heap.SameBut a s.heap h' → SetW w h' a (addT l k) → Q (!decide (k ∈ l)) { s with heap := h' }) :
    wpAny (model P w) A (setAddHashed a (.str k tk) ((strKind P w).hash k)) Q E s := by
  obtain ⟨ob, el, ep, tb, hob, xs, dat, good, pm, nd, few, fit, ris, led⟩ := R
  have isk : (strKind P w).is k (.str k tk) = true := strKind_is P w k tk
  have scn : (Value.str k tk).scannable = true := rfl
  have els : ElemsOf (strKind P w) el.toList := txE_elems good
  have lenE : el.size = l.length := by rw [← pm.length_eq, List.length_map, Array.length_toList]
  unfold setAddHashed setAddHashedIn
  refine wpAny_holding (wpAny_bind (wpAny_setState_of hob dat fit ?_))
  dsimp only
  rw [byScan_of scn few els]
  simp only [↓reduceIte]
  unfold setAddByScan
  refine wpAny_bind ?_
  refine wpAny_bind (wpAny_rule ?_)
  refine wpAny_bind (wpAny_setScan_of isk hob dat fit els ?_)
  cases fi : List.findIdx? (fun e => (strKind P w).is k e.2) el.toList with
  | some j =>
    dsimp only
    obtain ⟨lj, pj, _⟩ := List.findIdx?_eq_some_iff_getElem.mp fi
    have inl : k ∈ l := pm.mem_iff.mp ((txE_mem (P := P) good k).2 ⟨el.toList[j], List.getElem_mem lj, pj⟩)
    refine wpAny_pure (wpAny_pure ?_)
    have z := fin s.heap (Heap.SameBut.refl a s.heap)
    unfold addT at z
    rw [if_pos inl, decide_eq_true inl] at z
    exact z ⟨ob, el, ep, tb, hob, xs, dat, good, pm, nd, few, fit, ris, led⟩
  | none =>
    dsimp only
    have out : k ∉ l := fun m => by
      obtain ⟨e, me, q⟩ := (txE_mem (P := P) good k).1 (pm.mem_iff.mpr m)
      have c := List.findIdx?_eq_none_iff.mp fi e me
      rw [q] at c
      cases c
    have gives : ∀ (b : Bool) {s1 : Shared} {Q' : Unit → Shared → Prop}, Q' () s1 → wpAny (model P w) A (match b with | true => rule "set.scan.the-table-gave-way" | false => pure ()) Q' E s1 :=
      fun b s1 Q' q => by cases b <;> first | exact wpAny_pure q | exact wpAny_rule q
    have p1 := layNew_perm tb el ((strKind P w).hash k) (.str k tk)
    have f1 := layNew_fits tb el ((strKind P w).hash k) (.str k tk)
    have r1 := layNew_ris tb el ((strKind P w).hash k) (.str k tk) ris
    have d1 := layNew_led tb el ((strKind P w).hash k) (.str k tk)
    generalize layNew tb el ((strKind P w).hash k) (.str k tk) = Z at p1 f1 r1 d1 ⊢
    obtain ⟨el1, tb1, wd, gave⟩ := Z
    dsimp only at p1 f1 r1 d1 ⊢
    rw [Array.toList_push] at p1
    have q1 : (el1.toList.map txOf).Perm (addT l k) := by
      unfold addT
      rw [if_neg out]
      refine (p1.map txOf).trans ?_
      rw [List.map_append]
      exact pm.append (List.Perm.refl [k])
    have good1 : ∀ e ∈ el1.toList, TxE w e := fun e m => by
      rcases List.mem_append.mp (p1.mem_iff.mp m) with z | z
      · exact good e z
      · rw [List.mem_singleton.mp z]
        exact ⟨k, tk, rfl, rfl⟩
    have nd1 : (addT l k).Nodup := by
      unfold addT
      rw [if_neg out]
      exact List.nodup_append.mpr ⟨nd, by simp, fun x hx y hy e => out (by rw [List.mem_singleton] at hy; rw [← hy, ← e]; exact hx)⟩
    have sz1 : el1.size = l.length + 1 := by
      have z := q1.length_eq
      unfold addT at z
      rwa [if_neg out, List.length_map, Array.length_toList, List.length_append] at z
    have few1 : el1.size < scanBound := sz1 ▸ room
    have led1 : w.params.followText "set-order" = true ∨ tb1.led = true := by
      rw [d1]
      exact led
    have last : ∀ h', Heap.SameBut a s.heap h' → SetW w h' a (addT l k) → Q true { s with heap := h' } := fun h' b r => by
      have z := fin h' b r
      rwa [decide_eq_false out] at z
    refine wpAny_bind (gives _ ?_)
    split
    · refine wpAny_bind ?_
      rw [hashByValue_scannable 8 scn]
      refine wpAny_pure ?_
      refine setW_tail ?_ hob xs dat good1 q1 nd1 few1 ?_ ?_ ?_ ?_
      · exact fun b s1 Q' q => by cases b <;> first | exact wpAny_pure q | exact wpAny_rule q
      · first | (split <;> first | exact f1 | exact SetTable.fits_plain_off f1) | exact f1
      · first | (split <;> exact r1) | exact r1
      · first | (split <;> exact led1) | exact led1
      · exact fun h' b r => by dsimp only; exact wpAny_pure (last h' b r)
    · refine wpAny_bind (wpAny_pure ?_)
      simp only [↓reduceIte]
      refine setW_tail ?_ hob xs dat good1 q1 nd1 few1 f1 r1 led1 ?_
      · exact fun b s1 Q' q => by cases b <;> first | exact wpAny_pure q | exact wpAny_rule q
      · exact fun h' b r => by dsimp only; exact wpAny_pure (last h' b r)
end
end Fw

/-! set(texts), its length, its members, sorted. -/
namespace Fw
open PySem PySem.Spec PyProof.Rows L2
/-- the texts, each at its first place -/
def dedT (xs : List Str) : List Str := xs.foldl addT []
theorem dedT_snoc (xs : List Str) (x : Str) : dedT (xs ++ [x]) = addT (dedT xs) x := by
  unfold dedT
  rw [List.foldl_append]
  rfl
theorem addT_len (l : List Str) (k : Str) : (addT l k).length ≤ l.length + 1 := by
  unfold addT
  split
  · omega
  · rw [List.length_append]
    exact Nat.le_refl _
theorem addT_mem (l : List Str) (k c : Str) : c ∈ addT l k ↔ c ∈ l ∨ c = k := by
  unfold addT
  split
  · rename_i h
    exact ⟨.inl, fun z => z.elim id fun e => e ▸ h⟩
  · rw [List.mem_append, List.mem_singleton]
theorem addT_nodup {l : List Str} (h : l.Nodup) (k : Str) : (addT l k).Nodup := by
  unfold addT
  split
  · exact h
  · rename_i n
    exact List.nodup_append.mpr ⟨h, by simp, fun x hx y hy e => n (by rw [List.mem_singleton] at hy; rw [← hy, ← e]; exact hx)⟩
theorem dedT_ind (p : List Str → List Str → Prop) (h0 : p [] []) (hs : ∀ xs l x, p xs l → p (xs ++ [x]) (addT l x)) (xs : List Str) : p xs (dedT xs) := by
  have gen : ∀ (r done l : List Str), p done l → p (done ++ r) (r.foldl addT l) := by
    intro r
    induction r with
    | nil => intro done l h; simpa using h
    | cons y r ih =>
      intro done l h
      have z := ih (done ++ [y]) (addT l y) (hs _ _ _ h)
      rw [List.append_assoc] at z
      exact z
  have z := gen xs [] [] h0
  rwa [List.nil_append] at z
theorem dedT_len (xs : List Str) : (dedT xs).length ≤ xs.length := dedT_ind (fun xs l => l.length ≤ xs.length) (Nat.le_refl _) (fun xs l x h => by
  rw [List.length_append]
  exact Nat.le_trans (addT_len l x) (Nat.succ_le_succ h)) xs
theorem dedT_mem (xs : List Str) (c : Str) : c ∈ dedT xs ↔ c ∈ xs := dedT_ind (fun xs l => c ∈ l ↔ c ∈ xs) Iff.rfl (fun xs l x h => by
  rw [addT_mem, List.mem_append, List.mem_singleton, h]) xs
theorem dedT_nodup (xs : List Str) : (dedT xs).Nodup := dedT_ind (fun _ l => l.Nodup) List.nodup_nil (fun _ _ x h => addT_nodup h x) xs
theorem dedT_same {xs : List Str} (h : xs.Nodup) : dedT xs = xs := by
  refine dedT_ind (fun xs l => xs.Nodup → l = xs) (fun _ => rfl) (fun xs l x ih nd => ?_) xs h
  have nd' := List.nodup_append.mp nd
  have e := ih nd'.1
  rw [e]
  unfold addT
  exact if_neg fun m => nd'.2.2 x m x (by simp) rfl
theorem dedT_full {xs : List Str} (h : (dedT xs).length = xs.length) : xs.Nodup := by
  refine dedT_ind (fun xs l => l.length ≤ xs.length ∧ (∀ c, c ∈ l ↔ c ∈ xs) ∧ (l.length = xs.length → xs.Nodup)) ⟨Nat.le_refl _, fun _ => Iff.rfl, fun _ => List.nodup_nil⟩ (fun xs l x ih => ?_) xs |>.2.2 h
  obtain ⟨le, mem, full⟩ := ih
  refine ⟨?_, fun c => ?_, fun e => ?_⟩
  · rw [List.length_append]
    exact Nat.le_trans (addT_len l x) (Nat.succ_le_succ le)
  · rw [addT_mem, List.mem_append, List.mem_singleton, mem]
  · rw [List.length_append] at e
    have e : (addT l x).length = xs.length + 1 := e
    unfold addT at e
    split at e
    · omega
    · rename_i out
      rw [List.length_append] at e
      have e : l.length + 1 = xs.length + 1 := e
      refine List.nodup_append.mpr ⟨full (by omega), by simp, fun y hy z hz q => out ?_⟩
      rw [List.mem_singleton] at hz
      rw [← hz, ← q]
      exact (mem y).2 hy
section
variable {P : Program} {w : World} {A : Around} {E : Value → Shared → Prop} {s : Shared}
/-- the loop of a new set over texts -/
theorem setW_loop {I : Addr} {fp wr : List Addr} {G : Array GenState → Array GenState → Prop} {n : Nat} {Pv : Nat → Value → Prop} {St : Nat → Shared → Prop} {R : Result → Shared → Prop}
    (W : WalksS P w A.in1 I fp wr G n Pv St) (T : Addr) (off : T ∉ fp) (xs : List Str) (len : n = xs.length) (few : xs.length + 1 < scanBound) (val : ∀ i v, Pv i v → ∃ k t, xs[i]? = some k ∧ v = .str k t) :
    ∀ (k i : Nat) (s : Shared), n - i = k → i ≤ n → St i s → SetW w s.heap T (dedT (xs.take i)) →
      (∀ s', Moved (T :: wr) G s s' → SetW w s'.heap T (dedT xs) → R (.ok (.ret .none)) s') →
      codeAny (model P w) A (.builtin "set.update.loop" ⟨[.ref T, .ref I], []⟩) R s := by
  have offW : T ∉ wr := fun h => off (W.sub _ h)
  have more : ∀ b ∈ wr, b ∈ T :: wr := fun b m => List.mem_cons_of_mem _ m
  intro k
  induction k with
  | zero =>
    intro i s ek le st hT fin
    have ei : i = n := by omega
    subst ei
    refine codeAny_builtin PyProof.Rows.F.entry_set_update_loop ?_
    rw [Around.under_plainId PyProof.Rows.F.plain_set_update_loop _]
    show wpAny _ A.in1 (pyNext (.ref I) >>= fun _ => _) _ _ s
    refine wpAny_bind (W.done s _ _ st fun s' mv => ?_)
    show wpAny _ A.in1 (ret Value.none) _ _ s'
    rw [List.take_of_length_le (by omega)] at hT
    exact wpAny_pure (fin s' (mv.mono more) (hT.at fun u e => mv.heap T u offW e))
  | succ k ih =>
    intro i s ek le st hT fin
    have lt : i < n := by omega
    refine codeAny_builtin PyProof.Rows.F.entry_set_update_loop ?_
    rw [Around.under_plainId PyProof.Rows.F.plain_set_update_loop _]
    show wpAny _ A.in1 (pyNext (.ref I) >>= fun _ => _) _ _ s
    refine wpAny_bind (W.item i s _ _ lt st fun v s' pv st' mv => ?_)
    obtain ⟨x, t, ex, rfl⟩ := val i v pv
    have hT' : SetW w s'.heap T (dedT (xs.take i)) := hT.at fun u e => mv.heap T u offW e
    show wpAny _ A.in1 (holding [Value.str x t] (setAdd T (.str x t)) >>= fun _ => _) _ _ s'
    refine wpAny_bind (wpAny_holding ?_)
    unfold setAdd
    refine wpAny_holding ?_
    refine wpAny_bind ((strKind P w).pyHash (k := x) (strKind_is P w x t) ?_)
    have short : (dedT (xs.take i)).length + 1 < scanBound := by
      have z := dedT_len (xs.take i)
      rw [List.length_take] at z
      omega
    refine setW_add (s := { s' with toks := s'.toks + 1 }) hT' short fun h' but new => ?_
    have new' : SetW w h' T (dedT (xs.take (i + 1))) := by
      rw [List.take_add_one, ex]
      show SetW w h' T (dedT (xs.take i ++ [x]))
      rw [dedT_snoc]
      exact new
    refine wpAny_pure ⟨plainId_quiet PyProof.Rows.F.plain_set_update_loop _, ih (i + 1) _ (by omega) lt (W.frame _ s' _ _ st' (Nat.le_succ _) fun b m u e => ?_) new' fun s'' mv2 hT2 => ?_⟩
    · rw [but.2 b fun q => off (q ▸ m)]
      exact e
    · refine fin s'' (Moved.trans W.gtrans ((mv.mono more).then_heap (Nat.le_succ _) fun b u m e => ?_) mv2) hT2
      rw [but.2 b fun q => m (q ▸ List.mem_cons_self)]
      exact e
theorem setW_fresh {h : Heap} {a : Addr} (new : h.get? a = some { cls := .type "set", dict := none, data := .set #[] 0 (.fresh 0 0 (!w.params.followText "set-order")) }) : SetW w h a [] := by
  refine ⟨_, #[], 0, _, new, ⟨rfl, rfl, rfl⟩, rfl, fun e m => by simp at m, List.Perm.refl _, List.nodup_nil, by decide, rfl, List.Pairwise.nil, ?_⟩
  show _ ∨ (!w.params.followText "set-order") = true
  cases w.params.followText "set-order"
  · exact .inr rfl
  · exact .inl rfl
abbrev newSet (w : World) : Obj := { cls := .type "set", dict := none, data := .set #[] 0 (.fresh 0 0 (!w.params.followText "set-order")) }
set_option maxHeartbeats 8000000 in
/-- set(x), x a list or a tuple of texts -/
theorem call_setW {T : String} {l : Addr} {items : Array Value} (xs : List Str) {Q : Value → Shared → Prop} (kind : (T = "list" ∧ s.heap.IsList l items) ∨ (T = "tuple" ∧ s.heap.IsTuple l items)) (hd : A.handled = none) (hit : StrsAre items.toList xs) (few : xs.length + 1 < scanBound)
    (fin : ∀ (h' : Heap) (tk : Nat), SetW w h' s.heap.objs.size (dedT xs) → (∀ b u, s.heap.get? b = some u → h'.get? b = some u) → Q (.ref s.heap.objs.size) { s with heap := h', toks := tk }) :
    wpAny (model P w) A (call (.type "set") [.ref l]) Q E s := by
  have size : items.size = xs.length := by
    have z := StrsAre.len_eq hit
    rwa [Array.length_toList] at z
  obtain ⟨c, tl, hmro⟩ := PySem.F.called_set.mro
  have made := PySem.F.called_set.made
  have sub := PySem.F.called_set.sub
  refine wpAny_call (codeAny_of_tree ?_)
  show wpAny _ _ (callAny (.type "set") _) _ _ s
  refine wpAny_pure ⟨Code.quiet_builtin _ (by decide +kernel), codeAny_builtin PySem.F.entry_type_call ?_⟩
  rw [Around.under_plain (weight_type_call_type "set" [.ref l] []) rfl]
  have notT := PySem.F.called_set.notType
  have can := PySem.F.called_set.canCreate
  have tc := PySem.F.typeCall_set_1 (.ref l)
  repeat (any_goals (first | assumption | wp_step))
  refine codeAny_mono (code_set_led1 (.ref l) (E := E) (Q₁ := fun obj s1 => obj = .ref s.heap.objs.size ∧ s1 = { s with heap := s.heap.push (newSet w) }) ⟨rfl, rfl⟩) fun r s1 hr => ?_
  cases r with
  | error e => exact hr
  | ok fl =>
    cases fl with
    | ret obj =>
      obtain ⟨rfl, rfl⟩ := hr
      have atT : (s.heap.push (newSet w)).get? s.heap.objs.size = some (newSet w) := Heap.get?_push_size _ rfl
      have isT : Shared.TypeIs { s with heap := s.heap.push (newSet w) } (.ref s.heap.objs.size) "set" := ⟨_, atT, rfl⟩
      have look := PySem.F.called_set.init.lookup
      have bind := PySem.F.called_set.init.bind (.ref s.heap.objs.size)
      repeat (any_goals (first | assumption | wp_step))
      refine codeAny_mono (codeAny_call_builtin (R := wants (fun r s2 => r = .none ∧ ∃ h' tk, s2 = { s with heap := h', toks := tk } ∧ SetW w h' s.heap.objs.size (dedT xs) ∧
          (∀ b u, s.heap.get? b = some u → h'.get? b = some u)) E) PySem.F.called_set.init.plain PySem.F.entry_set_init (check_set_init_1 isT ?_)) fun r2 s2 hr2 => ?_
      · have lt0 : l < s.heap.objs.size := by
          rcases kind with ⟨_, ⟨u, e, _⟩⟩ | ⟨_, ⟨u, e, _⟩⟩ <;> exact Heap.lt_size e
        have h3 : A.in1.in1.in1.handled = none := by simp [hd]
        have neI : l ≠ (s.heap.push (newSet w)).objs.size := by
          rw [Heap.size_push]
          exact Nat.ne_of_lt (Nat.lt_succ_of_lt lt0)
        have offT : s.heap.objs.size ∉ [(s.heap.push (newSet w)).objs.size, l] := by
          rw [Heap.size_push]
          simp only [List.mem_cons, List.not_mem_nil, or_false, not_or]
          exact ⟨Nat.ne_of_lt (Nat.lt_succ_self _), fun z => absurd lt0 (by rw [z]; exact Nat.lt_irrefl _)⟩
        have val : ∀ (i : Nat) (v : Value), items[i]? = some v → ∃ k t, xs[i]? = some k ∧ v = .str k t := fun i v hv => by
          have li : i < xs.length := by
            rw [← size]
            exact (Array.getElem?_eq_some_iff.mp hv).1
          obtain ⟨t, e⟩ := SS.strs_at hit i v (by rw [Array.getElem?_toList]; exact hv)
          refine ⟨xs[i], t, List.getElem?_eq_getElem li, ?_⟩
          rw [e, List.getD_eq_getElem?_getD, List.getElem?_eq_getElem li]
          rfl
        rcases kind with ⟨_, hl⟩ | ⟨_, hl⟩
        · obtain ⟨ob, hob, cl, nl, dl⟩ := hl
          obtain ⟨kls, dct, dat, slt⟩ := ob
          simp only at cl dl
          subst cl dl
          have hob' : (s.heap.push (newSet w)).get? l = some { cls := .type "list", dict := dct, data := .seq items nl, slots := slt } := Heap.get?_push_of_some _ hob
          have s1 := PySem.F.sub_list_set
          have s2 := PySem.F.sub_list_frozenset
          have s3 : (Value.type "list" == Value.type "dict") = false := by decide
          have hl1 : (s.heap.push (newSet w)).IsList l items := ⟨_, hob', rfl, nl, rfl⟩
          unfold Builtin.«set.__init__» noKeywords Builtin.Frozenset.updateFrom
          generalize ePI : pyIter = PI
          wp_walk
          subst ePI
          refine wpAny_pyIter_list hl1 ?_
          refine wpAny_bind (wpAny_runValue ?_)
          refine setW_loop ((Walks.list h3 _ l neI items).toS) s.heap.objs.size offT xs size few val (items.size - 0) 0 _ (by omega) (Nat.zero_le _) ⟨⟨_, Heap.get?_push_size _ rfl, rfl, rfl⟩, hl1.push _⟩ (setW_fresh (Heap.get?_push_of_some _ atT)) fun s' mv hT => ?_
          obtain ⟨h', g', d', tk', os'⟩ := s'
          have eg : g' = s.gens := mv.gens
          have ed : d' = s.drawn := mv.drawn
          have eo : os' = s.os := mv.os
          subst eg ed eo
          show wpAny _ _ (pure ()) _ _ _
          refine wpAny_pure ?_
          show wpAny _ _ (ret Value.none) _ _ _
          refine wpAny_pure ⟨rfl, h', tk', rfl, hT, fun b u e => ?_⟩
          have lt := Heap.lt_size e
          refine mv.heap b u ?_ (Heap.get?_push_of_some _ (Heap.get?_push_of_some _ e))
          rw [Heap.size_push]
          simp only [List.mem_cons, List.not_mem_nil, or_false, not_or]
          exact ⟨Nat.ne_of_lt lt, Nat.ne_of_lt (Nat.lt_succ_of_lt lt)⟩
        · obtain ⟨ob, hob, cl, nl, dl⟩ := hl
          obtain ⟨kls, dct, dat, slt⟩ := ob
          simp only at cl dl
          subst cl dl
          have hob' : (s.heap.push (newSet w)).get? l = some { cls := .type "tuple", dict := dct, data := .seq items nl, slots := slt } := Heap.get?_push_of_some _ hob
          have s1 := PySem.F.sub_tuple_set
          have s2 := PySem.F.sub_tuple_frozenset
          have s3 : (Value.type "tuple" == Value.type "dict") = false := by decide
          have hl1 : (s.heap.push (newSet w)).IsTuple l items := ⟨_, hob', rfl, nl, rfl⟩
          unfold Builtin.«set.__init__» noKeywords Builtin.Frozenset.updateFrom
          generalize ePI : pyIter = PI
          wp_walk
          subst ePI
          refine wpAny_pyIter_tuple hl1 ?_
          refine wpAny_bind (wpAny_runValue ?_)
          refine setW_loop ((Walks.tuple h3 _ l neI items).toS) s.heap.objs.size offT xs size few val (items.size - 0) 0 _ (by omega) (Nat.zero_le _) ⟨⟨_, Heap.get?_push_size _ rfl, rfl, rfl⟩, hl1.push _⟩ (setW_fresh (Heap.get?_push_of_some _ atT)) fun s' mv hT => ?_
          obtain ⟨h', g', d', tk', os'⟩ := s'
          have eg : g' = s.gens := mv.gens
          have ed : d' = s.drawn := mv.drawn
          have eo : os' = s.os := mv.os
          subst eg ed eo
          show wpAny _ _ (pure ()) _ _ _
          refine wpAny_pure ?_
          show wpAny _ _ (ret Value.none) _ _ _
          refine wpAny_pure ⟨rfl, h', tk', rfl, hT, fun b u e => ?_⟩
          have lt := Heap.lt_size e
          refine mv.heap b u ?_ (Heap.get?_push_of_some _ (Heap.get?_push_of_some _ e))
          rw [Heap.size_push]
          simp only [List.mem_cons, List.not_mem_nil, or_false, not_or]
          exact ⟨Nat.ne_of_lt lt, Nat.ne_of_lt (Nat.lt_succ_of_lt lt)⟩
      · cases r2 with
        | error e => exact hr2
        | ok fl2 =>
          cases fl2 with
          | ret r =>
            obtain ⟨rfl, h', tk, rfl, hT, kept⟩ := hr2
            repeat (any_goals (first | assumption | wp_step))
            exact fin _ _ hT kept
          | _ => exact hr2.elim
    | _ => exact hr.elim
end
end Fw

/-! The rules of sets of texts: made, their length, their members, sorted, walked. -/
namespace Fw
open PySem PySem.Spec PyProof.Rows L2
/-- at a stands the set of the texts l -/
def SetWO (w : World) (a : Addr) (l : List Str) : HO := .ext fun h => SetW w h a l
theorem setWO_new {P : Program} {w : World} {H : Hp} {h : Heap} {a : Addr} {l : List Str} (R : SetW w h a l) : ObjOk P w H h a (SetWO w a l) := by
  have ⟨ob, _, _, _, hob, _⟩ := R
  exact ⟨R, ⟨ob, hob⟩, fun h1 h2 p k => p.at k⟩
section
variable {X : Cx} {pins : List (Addr × Obj)} {σ : L2.St} {H : Hp} {s : Shared} {a : Addr} {l : List Str}
theorem setWO_get (I : Inv X pins σ H s) (ha : H a = some (SetWO X.w a l)) : SetW X.w s.heap a l := (I.hok a _ ha).1
end
section
variable {X : Cx}
/-- set(x), x a list or a tuple of texts -/
def rSetW (K : PySem.W.Frag) (w : World) : List V → Hp → VK → Prop := fun vs H Q => ∃ (p : Addr) (xs : List Str), vs = [V.ref p] ∧ (SqL K H p (xs.map V.str) ∨ SqT K H p (xs.map V.str)) ∧ xs.length ≤ 1000 ∧
  ∀ q, H q = none → Q (.ref q) (upd H q (SetWO w q (dedT xs)))
theorem cr_setW (hc : X.calm = true) : CallR X (.type "set") (rSetW X.K X.w) := by
  intro pins s σ H vs us Q I r z
  obtain ⟨p, xs, rfl, hp, few, q⟩ := z
  rw [Vals.ref1 r]
  have new : H s.heap.objs.size = none := I.hok.fresh (Nat.le_refl _)
  have room : xs.length + 1 < scanBound := Nat.lt_of_le_of_lt (Nat.succ_le_succ few) (by decide)
  have last : ∀ (h' : Heap) (tk : Nat), SetW X.w h' s.heap.objs.size (dedT xs) → (∀ b u, s.heap.get? b = some u → h'.get? b = some u) → EP X pins σ Q (.ref s.heap.objs.size) { s with heap := h', toks := tk } := fun h' tk R k =>
    ⟨.ref s.heap.objs.size, upd H s.heap.objs.size (SetWO X.w s.heap.objs.size (dedT xs)), I.laid (t' := tk) k (Nat.le_refl _) (setWO_new R), rfl, q _ new⟩
  rcases hp with hp | hp
  · obtain ⟨its, rv, pl, _⟩ := I.list hp
    exact call_setW (T := "list") (items := its.toArray) xs (.inl ⟨rfl, pl.isList⟩) (I.ok.hd hc) (by simpa using strsAre_of rv) room last
  · obtain ⟨its, rv, pl, _⟩ := I.tuple hp
    exact call_setW (T := "tuple") (items := its.toArray) xs (.inr ⟨rfl, pl⟩) (I.ok.hd hc) (by simpa using strsAre_of rv) room last
/-- len of such a set -/
def rLenW (w : World) : List V → Hp → VK → Prop := fun vs H Q => ∃ (p : Addr) (l : List Str), vs = [V.ref p] ∧ H p = some (SetWO w p l) ∧ Q (.int (l.length : Int)) H
theorem cr_lenW : CallR X (.builtin "len") (rLenW X.w) := by
  intro pins s σ H vs us Q I r z
  obtain ⟨p, l, rfl, hp, q⟩ := z
  rw [Vals.ref1 r]
  obtain ⟨ob, el, ep, tb, hob, xs, dat, good, pm, nd, few, fit, _⟩ := setWO_get I hp
  have n : el.size = l.length := by rw [← pm.length_eq, List.length_map, Array.length_toList]
  refine call_len_set hob xs dat fit ?_ ⟨.int l.length, H, I.tok _, ⟨_, by rw [n]⟩, q⟩
  have : el.size < 2 ^ 63 := Nat.lt_of_lt_of_le few (by decide)
  omega
/-- x in such a set, x not in it -/
def rInW (w : World) (neg : Bool) : R2 := fun x y H Q => ∃ (k : Str) (p : Addr) (l : List Str), x = .str k ∧ y = V.ref p ∧ H p = some (SetWO w p l) ∧ Q (.bl (if neg then !decide (k ∈ l) else decide (k ∈ l))) H
theorem or_inW : OpR X (compareOp .In) (rInW X.w false) := by
  intro pins s σ H x y v u Q I rx ry z
  obtain ⟨k, p, l, rfl, rfl, hp, q⟩ := z
  cases ry
  obtain ⟨t, rfl⟩ := rx
  exact wpAny_inSet_of (strKind_is X.prog X.w k t) rfl ((setWO_get I hp).setOf) ⟨.bl (decide (k ∈ l)), H, I.tok _, rfl, q⟩
theorem or_notInW : OpR X (compareOp .NotIn) (rInW X.w true) := by
  intro pins s σ H x y v u Q I rx ry z
  obtain ⟨k, p, l, rfl, rfl, hp, q⟩ := z
  cases ry
  obtain ⟨t, rfl⟩ := rx
  exact wpAny_notInSet_of (strKind_is X.prog X.w k t) rfl ((setWO_get I hp).setOf) ⟨.bl (!decide (k ∈ l)), H, I.tok _, rfl, q⟩
end
/-! ### sorted -/
def sOf (v : Value) : Str := match v with | .str k _ => k | _ => Str.empty
theorem strs_out : ∀ vs : List Value, (∀ v ∈ vs, ∃ k t, v = Value.str k t) → StrsAre vs (vs.map sOf)
  | [], _ => .nil
  | v :: vs, h => by
    obtain ⟨k, t, rfl⟩ := h v List.mem_cons_self
    exact .cons k t (strs_out vs fun u m => h u (List.mem_cons_of_mem _ m))
section
variable {P : Program} {w : World} {A : Around} {E : Value → Shared → Prop} {s : Shared} {a : Addr} {l : List Str}
theorem sorted_setW {Q : Value → Shared → Prop} (R : SetW w s.heap a l) (hd : A.handled = none) (few : l.length < 64)
    (fin : ∀ s' p (out : Array Value) (c : Nat) (ys : List Str), (∀ b u, s.heap.get? b = some u → s'.heap.get? b = some u) → s'.gens = s.gens → s'.os = s.os → s.heap.objs.size ≤ p →
      s'.heap.get? p = some (seqObj "list" out c) → StrsAre out.toList ys → ys.Perm l → sortedS ys = true → Q (.ref p) s') :
    wpAny (model P w) A (call (.builtin "sorted") [.ref a]) Q E s := by
  obtain ⟨ob, el, ep, tb, hob, xs, dat, good, pm, nd, room, fit, ris, led⟩ := R
  refine Calls.call_function_entry kind_sorted plain_sorted entry_sorted (args_sorted1 _) ?_
  unfold Builtin.«sorted»
  refine wpAny_bind (m := checkCount "sorted" 1 1 _) (wpAny_pure ?_)
  refine wpAny_bind (collect_set (A := A.in1) hd ⟨ob, hob, xs.1, dat⟩ fit room ris led fun s1 vs keep1 size1 gens1 os1 p1 => ?_)
  have isS : ∀ v ∈ vs, ∃ k t, v = Value.str k t := fun v m => by
    obtain ⟨e, me, q⟩ := List.mem_map.mp (p1.mem_iff.mp m)
    obtain ⟨k, t, e1, _⟩ := good e me
    exact ⟨k, t, q ▸ e1⟩
  have are := strs_out vs isS
  have p2 : (vs.map sOf).Perm l := by
    have z := p1.map sOf
    rw [List.map_map] at z
    refine z.trans ?_
    have same : el.toList.map (sOf ∘ fun e => e.2) = el.toList.map txOf := List.map_congr_left fun e me => by
      obtain ⟨k, t, e1, _⟩ := good e me
      show sOf e.2 = txOf e
      unfold txOf sOf
      rw [e1]
    rw [same]
    exact pm
  have n : vs.length = l.length := by
    have z := p2.length_eq
    rwa [List.length_map] at z
  refine wpAny_bind (wpAny_newList ?_ (by rw [n, sizeLine_eq]; omega))
  have atL : (s1.heap.push (seqObj "list" vs.toArray 0)).get? s1.heap.objs.size = some (seqObj "list" vs.toArray 0) := Heap.get?_push_size _ rfl
  refine wpAny_bind (wpAny_holding (wpAny_call_entry PyProof.Rows.slot_list_sort ⟨_, atL, rfl⟩ PyProof.Rows.entry_list_sort
    (list_sort_treeK strKind_oneLt atL are.keysOf (fun v1 v2 rest e => keyKind_strs (by rw [← e]; exact are)) (by rw [n]; exact few) fun st p3 so => ?_) (PyProof.Rows.args_list_sort _)))
  obtain ⟨ys, g1, g2, g3⟩ := sorted_out_str are p3 so
  refine ⟨_, rfl, ?_⟩
  obtain ⟨c, hc⟩ := sortedHeap_at (vs := vs) (out := (arrOf st).map (·.2)) atL
  refine wpAny_pure ⟨_, rfl, fin _ s1.heap.objs.size _ c ys (fun b u e => ?_) gens1 os1 size1 hc g1 (g2.trans p2) g3⟩
  have e1 := keep1 b u e
  have lt := Heap.lt_size e1
  show (sortedHeap (s1.heap.push (seqObj "list" vs.toArray 0)) s1.heap.objs.size vs _).get? b = some u
  rw [sortedHeap_old (Nat.ne_of_lt lt) (by rw [Heap.size_push]; exact Nat.lt_succ_of_lt lt)]
  exact Heap.get?_push_of_some _ e1
end
section
variable {X : Cx}
/-- sorted of such a set -/
def rSortedW (w : World) : List V → Hp → VK → Prop := fun vs H Q => ∃ (p : Addr) (l : List Str), vs = [V.ref p] ∧ H p = some (SetWO w p l) ∧ l.length < 64 ∧
  ∀ (ys : List Str) (q : Addr), ys.Perm l → sortedS ys = true → H q = none → Q (.ref q) (upd H q (.lst (ys.map V.str)))
theorem cr_sortedW (hc : X.calm = true) : CallR X (.builtin "sorted") (rSortedW X.w) := by
  intro pins s σ H vs us Q I r z
  obtain ⟨a, l, rfl, ha, few, q⟩ := z
  rw [Vals.ref1 r]
  refine sorted_setW (setWO_get I ha) (I.ok.hd hc) few fun s' p out c ys keep gens os size at_ are pm so => ?_
  have short : (ys.map V.str).length ≤ sizeLine := by
    rw [List.length_map, pm.length_eq, sizeLine_eq]
    omega
  have new : H p = none := I.hok.fresh size
  have J : Inv X pins σ (upd H p (.lst (ys.map V.str))) { s with heap := s'.heap, gens := s'.gens, drawn := s'.drawn, toks := s'.toks } :=
    I.call (ch := []) (Un.laid keep size new) (I.hok.laid keep size ⟨short, out.toList, c, vals_of_strs are, at_⟩) (by rw [gens]; exact I.bare) (fun _ y => nomatch y)
  have same : s' = { s with heap := s'.heap, gens := s'.gens, drawn := s'.drawn, toks := s'.toks } := by
    cases s'
    cases s
    cases os
    rfl
  rw [same]
  exact ⟨.ref p, _, J, rfl, q ys p pm so new⟩
end
end Fw

/-! list(d.values()), tuple(d.values()), tuple(d). -/
namespace Fw
open PySem PySem.Spec PyProof.Rows L2
section
variable {P : Program} {w : World} {A : Around} {E : Value → Shared → Prop} {s : Shared} {T : String} {r d : Addr} {n : Nat} {Pv : Nat → Value → Prop} {OK : Heap → Prop}
theorem collect_src {Q : List Value → Shared → Prop} (K : PySem.W.KdlSrc P w T r d n Pv OK) (hd : A.handled = none) (ok : OK s.heap) (few : n ≤ sizeLine)
    (fin : ∀ (h' : Heap) (tk : Nat) (acc : Array Value), (∀ b u, s.heap.get? b = some u → h'.get? b = some u) → ItemsOf Pv acc n → Q acc.toList { s with heap := h', toks := tk }) :
    wpAny (model P w) A (collect (.ref r)) Q E s := by
  unfold collect
  refine wpAny_bind (wpAny_runValue (codeAny_builtin PySem.F.entry_proto_collect ?_))
  rw [Around.under_plainId PySem.F.plain_proto_collect _]
  show wpAny _ A.in1 (newList [] >>= fun l => again (.builtin "list.__iadd__" ⟨[l, .ref r], []⟩)) _ _ s
  refine wpAny_bind (wpAny_newObj_type ?_)
  refine wpAny_pure ⟨plainId_quiet PySem.F.plain_list_iadd _, codeAny_builtin PySem.F.entry_list_iadd ?_⟩
  rw [Around.under_plainId PySem.F.plain_list_iadd _]
  show wpAny _ A.in1 (Builtin.List.listExtendWith (.ref s.heap.objs.size) (.ref r) (.ref s.heap.objs.size)) _ _ _
  have at_ : (s.heap.push { cls := .type "list", data := .seq ([] : List Value).toArray }).get? s.heap.objs.size = some { cls := .type "list", data := .seq #[] 0 } := Heap.get?_push_size _ rfl
  have low := K.there _ ok
  refine wpAny_mono (PySem.W.kdl_extend (A := A) (R := fun rr s' => rr = .ok (.ret (.ref s.heap.objs.size)) ∧ ∃ (h' : Heap) (tk : Nat) (acc : Array Value) (c' : Nat), s' = { s with heap := h', toks := tk } ∧
      (∀ b u, s.heap.get? b = some u → h'.get? b = some u) ∧ h'.get? s.heap.objs.size = some { cls := .type "list", dict := none, data := .seq acc c', slots := #[] } ∧ ItemsOf Pv acc n)
    (s := { s with heap := s.heap.push { cls := .type "list", data := .seq ([] : List Value).toArray } }) K hd (K.keep _ _ ok fun b _ u e => Heap.get?_push_of_some _ e) _ (Nat.ne_of_gt low.1) (Nat.ne_of_gt low.2) _ 0 at_
    (fun h' tk acc c' keep e it => ⟨rfl, h', tk, acc, c', rfl, fun b u q => keep b u (Nat.ne_of_lt (Heap.lt_size q)) (Heap.get?_push_of_some _ q), e, it⟩) few) (fun end_ s' h => ?_) (fun e s' h => ?_)
  · cases end_ with
    | done f =>
      obtain ⟨e, h', tk, acc, c', rfl, keep, at', it⟩ := h
      cases e
      show wpAny _ A (load s.heap.objs.size >>= fun _ => _) _ _ _
      exact wpAny_bind (wpAny_load at' (wpAny_pure (fin h' tk acc keep it)))
    | again c' =>
      refine ⟨h.1, codeAny_mono h.2 fun rr s'' hr => ?_⟩
      obtain ⟨rfl, h', tk, acc, c', rfl, keep, at', it⟩ := hr
      show wpAny _ A (load s.heap.objs.size >>= fun _ => _) _ _ _
      exact wpAny_bind (wpAny_load at' (wpAny_pure (fin h' tk acc keep it)))
  · exact absurd h.1 (by simp)
theorem new_tuple_src {Q : Value → Shared → Prop} (K : PySem.W.KdlSrc P w T r d n Pv OK) (hd : A.handled = none) (ok : OK s.heap) (few : n ≤ sizeLine)
    (fin : ∀ (h' : Heap) (tk : Nat) (acc : Array Value), (∀ b u, s.heap.get? b = some u → h'.get? b = some u) → ItemsOf Pv acc n → Q (.ref h'.objs.size) { s with heap := h'.push { cls := .type "tuple", data := .seq acc }, toks := tk }) :
    codeAny (model P w) A (.call (.builtin "tuple.__new__") ⟨[.type "tuple", .ref r], []⟩) (wants Q E) s := by
  refine codeAny_of_tree ?_
  show wpAny _ A.in1 (do checkBuiltinCall "tuple.__new__" ⟨[.type "tuple", .ref r], []⟩; again (.builtin "tuple.__new__" ⟨[.type "tuple", .ref r], []⟩)) _ _ _
  refine wpAny_bind (wpAny_of_eq (PySem.F.newCall_tuple_1 _) (wpAny_pure ⟨plainId_quiet PySem.F.plain_tuple_new _, codeAny_builtin PySem.F.entry_tuple_new ?_⟩))
  rw [Around.under_plainId PySem.F.plain_tuple_new _]
  have sub := sub_tuple_self
  have ini := init_tuple_lookup
  have here := madeHere_tuple
  have isT := K.type s ok
  have nt := K.notTuple
  have d1 : A.in1.handled = none := hd
  wp_walk using wpAny_typeOf isT, collect_src (A := A.in1) K d1 ok few
  intro h' tk acc keep it
  have same : acc.toList.toArray = acc := Array.toArray_toList
  show wpAny _ _ (Builtin.Tuple.tupleExact acc.toList.toArray >>= fun v => ret v) _ _ _
  unfold Builtin.Tuple.tupleExact
  refine wpAny_bind (wpAny_newObj_type (wpAny_pure ?_) (by show acc.toList.toArray.size ≤ sizeLine; rw [same, it.1]; exact few))
  rw [same]
  exact fin h' tk acc keep it
theorem tuple_src {Q : Value → Shared → Prop} (K : PySem.W.KdlSrc P w T r d n Pv OK) (hd : A.handled = none) (ok : OK s.heap) (few : n ≤ sizeLine)
    (fin : ∀ (h' : Heap) (tk : Nat) (acc : Array Value), (∀ b u, s.heap.get? b = some u → h'.get? b = some u) → ItemsOf Pv acc n → Q (.ref h'.objs.size) { s with heap := h'.push { cls := .type "tuple", data := .seq acc }, toks := tk }) :
    wpAny (model P w) A (call (.type "tuple") [.ref r]) Q E s := by
  refine callType_codes (Q₁ := fun ob s1 => s1.TypeIs ob "tuple" ∧ Q ob s1) PySem.F.called_tuple (PySem.F.typeCall_tuple_1 _) PySem.F.entry_object_init
    (new_tuple_src (A := A.in1) K hd ok few fun h' tk acc keep it => ⟨⟨_, Heap.get?_push_size _ rfl, rfl⟩, fin h' tk acc keep it⟩) fun ob s1 z => ?_
  exact ⟨z.1, PySem.F.args_object_init_2 ob _, object_init_meets PySem.F.called_tuple.init.lookup PySem.F.called_tuple.made (by decide) P w A.in1 _ s1 ⟨z.1, rfl, z.2⟩⟩
end
/-! ### the values of a dict -/
theorem kv_vals {P : Program} {w : World} {kvs : List (L2.Key × V)} {vs : List (L2.Key × Value)} (kv : KV kvs vs) {acc : Array Value} (it : ItemsOf (fun i v => ∃ k, vs[i]? = some (k, v)) acc vs.length) : Vals (kvs.map (·.2)) acc.toList := by
  have e : acc.toList = vs.map (·.2) := PySem.W.kdl_vals_eq acc.toList (by rw [Array.length_toList]; exact it.1) fun j v h => it.2 j v (by rw [← Array.getElem?_toList]; exact h)
  rw [e]
  clear e it
  induction kv with
  | nil => exact .nil
  | cons h t ih => exact .cons h.2 ih
section
variable {X : Cx} {e : Expr} {te : TE} {p apos cpos pos : Pos}
/-- list(e.values()) -/
def tListVals (te : TE) : TE := fun σ H Q => te σ H fun x H1 => ∃ (d : Addr) (kvs : List (L2.Key × V)), x = .ref d ∧ H1 d = some (.dK kvs) ∧ ∀ q, H1 q = none → Q (.ref q) (upd H1 q (.lst (kvs.map (·.2))))
/-- tuple(e.values()) -/
def tTupVals (te : TE) : TE := fun σ H Q => te σ H fun x H1 => ∃ (d : Addr) (kvs : List (L2.Key × V)), x = .ref d ∧ H1 d = some (.dK kvs) ∧ ∀ q, H1 q = none → Q (.ref q) (upd H1 q (.tup (kvs.map (·.2))))
theorem pe_listVals (hc : X.calm = true) (he : PE X e te) (hg : Gl X "list") (hm : X.mg "list" = none) (hv : bootBuiltins "list" = some (.type "list")) (hbase : attributeBase e "values" X.env (eval e X.env) = eval e X.env := by rfl) (hline : (apos.endLine == cpos.line) = true := by rfl)
    (hs : starEach [.Call (.Attribute e "values" apos) [] [] cpos] X.env = (false, eval (.Call (.Attribute e "values" apos) [] [] cpos) X.env) :: starEach [] X.env := by rfl) :
    PE X (.Call (.Name "list" p) [.Call (.Attribute e "values" apos) [] [] cpos] [] pos) (tListVals te) := by
  refine ⟨fun pins s σ H Q I hq => ?_⟩
  refine wpAny_Call_Name_kw (ld_blt I hg hm hv (PyProof.Rows.callWith_type1 ?_ hs rfl))
  rw [hs]
  refine Calls.spliced_cons ?_
  refine wpAny_Call_method (T := "dict") (id := "dict.values") hbase rfl hline F.plainAttrs_dict F.slot_dict_values F.type_dict_values (thn (he.run pins s σ H _ I hq) fun u s1 ⟨x, H1, I1, rx, d, kvs, ex, hd, q⟩ => ?_)
  subst ex
  obtain rfl : u = Value.ref d := rx
  obtain ⟨hz, off, vs, kv, isd⟩ := I1.hok d _ hd
  obtain ⟨ep, at_⟩ := isd.dictAt
  have len : kvs.length = vs.length := Paired.length kv
  refine ⟨isd.typeIs, isd.mapOf.noDict, ?_⟩
  show wpAny _ _ (callWith cpos (.builtin "dict.values") [.ref d] [] []) _ X.xe s1
  refine method_meetsIn F.slot_dict_values F.entry_dict_values rfl (PySem.evalArgs_none ⟨rfl, isd.typeIs, F.args_dict_values_1 _, _, meets_dict_values (mixKind X.prog X.w) d off, ⟨vs, isd⟩, ?_⟩)
  refine Calls.spliced_nil ?_
  have I2 : Inv X pins σ H1 { s1 with heap := s1.heap.push { cls := .type "dict_values", data := .fields #[.ref d] } } := I1.kept (t' := s1.toks) fun b ob q => Heap.get?_push_of_some _ q
  refine PySem.W.kdl_call (PySem.W.kdl_values (knd := mixKind X.prog X.w) (kvs := vs) (ep := ep)) (I1.ok.hd hc) ⟨⟨_, Heap.get?_push_size _ rfl, rfl, rfl⟩, at_.push _⟩ (by rw [← len]; exact hz) fun h' tk acc c keep at' it => ?_
  have vals := kv_vals (P := X.prog) (w := X.w) kv it
  refine ⟨.ref _, upd H1 _ (.lst (kvs.map (·.2))), I2.laid (t' := tk) keep (Nat.le_refl _) ⟨by rw [List.length_map]; exact hz, acc.toList, c, vals, by rw [Array.toArray_toList]; exact at'⟩, rfl, q _ (I2.hok.fresh (Nat.le_refl _))⟩
theorem pe_tupVals (hc : X.calm = true) (he : PE X e te) (hg : Gl X "tuple") (hm : X.mg "tuple" = none) (hbase : attributeBase e "values" X.env (eval e X.env) = eval e X.env := by rfl) (hline : (apos.endLine == cpos.line) = true := by rfl)
    (hs : starEach [.Call (.Attribute e "values" apos) [] [] cpos] X.env = (false, eval (.Call (.Attribute e "values" apos) [] [] cpos) X.env) :: starEach [] X.env := by rfl) :
    PE X (.Call (.Name "tuple" p) [.Call (.Attribute e "values" apos) [] [] cpos] [] pos) (tTupVals te) := by
  refine ⟨fun pins s σ H Q I hq => ?_⟩
  refine wpAny_Call_Name_kw (ld_blt I hg hm boot_tuple (PyProof.Rows.callWith_type1 ?_ hs rfl))
  rw [hs]
  refine Calls.spliced_cons ?_
  refine wpAny_Call_method (T := "dict") (id := "dict.values") hbase rfl hline F.plainAttrs_dict F.slot_dict_values F.type_dict_values (thn (he.run pins s σ H _ I hq) fun u s1 ⟨x, H1, I1, rx, d, kvs, ex, hd, q⟩ => ?_)
  subst ex
  obtain rfl : u = Value.ref d := rx
  obtain ⟨hz, off, vs, kv, isd⟩ := I1.hok d _ hd
  obtain ⟨ep, at_⟩ := isd.dictAt
  have len : kvs.length = vs.length := Paired.length kv
  refine ⟨isd.typeIs, isd.mapOf.noDict, ?_⟩
  show wpAny _ _ (callWith cpos (.builtin "dict.values") [.ref d] [] []) _ X.xe s1
  refine method_meetsIn F.slot_dict_values F.entry_dict_values rfl (PySem.evalArgs_none ⟨rfl, isd.typeIs, F.args_dict_values_1 _, _, meets_dict_values (mixKind X.prog X.w) d off, ⟨vs, isd⟩, ?_⟩)
  refine Calls.spliced_nil ?_
  have I2 : Inv X pins σ H1 { s1 with heap := s1.heap.push { cls := .type "dict_values", data := .fields #[.ref d] } } := I1.kept (t' := s1.toks) fun b ob q => Heap.get?_push_of_some _ q
  refine tuple_src (PySem.W.kdl_values (knd := mixKind X.prog X.w) (kvs := vs) (ep := ep)) (I1.ok.hd hc) ⟨⟨_, Heap.get?_push_size _ rfl, rfl, rfl⟩, at_.push _⟩ (by rw [← len]; exact hz) fun h' tk acc keep it => ?_
  have vals := kv_vals (P := X.prog) (w := X.w) kv it
  have I3 : Inv X pins σ H1 { s1 with heap := h', toks := tk } := I2.kept keep
  refine ⟨.ref _, upd H1 h'.objs.size (.tup (kvs.map (·.2))), I3.laid (t' := tk) (fun b u q => Heap.get?_push_of_some _ q) (Nat.le_refl _) ⟨by rw [List.length_map]; exact hz, acc.toList, vals, ?_⟩, rfl, q _ (I3.hok.fresh (Nat.le_refl _))⟩
  rw [Array.toArray_toList]
  exact IsTup.new _ _
end
end Fw

/-! Words: names, keys, namings. -/
namespace Lx
open PySem PySem.Spec PyProof.Rows L2 Fw
def top (i : Nat) : Stmt := PySem.Challenge.pw_flatwebs_k03_whole_webs_changed.main.body.getD i (.Pass ⟨0, 0, 0, 0⟩)
abbrev sNear : Stmt := top 2
abbrev sMarked : Stmt := top 3
abbrev sName : Stmt := top 14
abbrev sNames : Stmt := top 15
abbrev sDifferent : Stmt := top 16
abbrev sAscending : Stmt := top 17
abbrev sKeys : Stmt := top 18
abbrev sNaming : Stmt := top 19
abbrev sFull : Stmt := top 24
abbrev sRing : Stmt := top 25
abbrev sNeed : Stmt := top 26
abbrev sGathered : Stmt := top 27
abbrev sOn : Stmt := top 28
abbrev sWebOf : Stmt := top 29
abbrev sIsTie : Stmt := top 30
abbrev sPairOf : Stmt := top 31
abbrev sAllPairs : Stmt := top 32
abbrev sAlong : Stmt := top 33
abbrev sRound : Stmt := top 34
abbrev sArePlaces : Stmt := top 35
abbrev sAreTies : Stmt := top 36
theorem same_upd {H : Hp} {p : Addr} {o : HO} (n : H p = none) : Same H (upd H p o) := fun b u e => by
  rw [upd_ne (ne_of_none e n)]
  exact e
theorem same_trans {H H1 H2 : Hp} (a : Same H H1) (b : Same H1 H2) : Same H H2 := fun c o e => b c o (a c o e)
structure TxW (K : PySem.W.Frag) (mg : Str → Option Value) : Prop where
  isi : mg "isinstance" = none
  int : mg "int" = none
  bool : mg "bool" = none
  str : mg "str" = none
  tuple : mg "tuple" = none
  dict : mg "dict" = none
  len : mg "len" = none
  all : mg "all" = none
  letters : ∃ t, mg "MAX_LETTERS" = some (.int 8 t)
/-- a value that may be judged: of a known kind, a text not too long -/
structure Vok (H : Hp) (v : V) : Prop where
  kn : ∃ n, Kn H v n
  sm : ∀ x, v = .str x → x.length ≤ 1000
theorem Vok.same {H H' : Hp} {v : V} (h : Vok H v) (s : Same H H') : Vok H' v := ⟨by obtain ⟨n, k⟩ := h.kn; exact ⟨n, k.same s⟩, h.sm⟩
def nameV : V → Bool
  | .str x => nameS x
  | _ => false
/-- a judge that lays nothing -/
def spJ (f : V → Bool) : Sp := fun vs H Q _ => ∃ v, vs = [v] ∧ Vok H v ∧ Q (.bl (f v)) H
theorem spJ_len {f : V → Bool} : ∀ vs H Q E, spJ f vs H Q E → vs.length = (["value"] : List Str).length := fun vs H Q E h => by
  obtain ⟨v, rfl, _⟩ := h
  rfl
section
variable {P : Program} {w : World} {K : PySem.W.Frag} {mg : Str → Option Value} {base : Heap} {gg : Bool}
theorem scName : FnScope ["value"] ["value"] (defScope sName) := ⟨rfl, rfl, rfl, by decide +kernel, rfl, by decide +kernel, by decide +kernel⟩
theorem ok_name {f : Addr} {fd : FuncData} (F : Fun K "is_name" "is_name" sName f fd) (T : TxW K mg) : FnV gg P w K mg base CX0 1 f fd ["value"] (spJ nameV) := by
  obtain ⟨tm, mM⟩ := T.letters
  refine fnV F scName spJ_len (fun cdv Ar fr s H vs Q E hG hr h => ?_)
  obtain ⟨v, rfl, hv, q⟩ := h
  obtain ⟨n, kn⟩ := hv.kn
  refine ⟨_, pss_cons (ps_if (PW.pt (pw_or (pt_not (pt_val (pe_is (t := "str") (.inr (.inr (.inl rfl))) (by rfl) T.isi (by rfl) T.str (by decide +kernel) (pv 0) mono_var)))
      (pw_or1 (pt_not (pt_chain op_le op_le pe_int (pe_callB call_len_str (by rfl) T.len PySem.boot_len (pa_cons (pv 0) pa_nil)) (pe_glob (v := .int 8) (by rfl) mM ⟨tm, rfl⟩))))))
      (pss_one (ps_ret pe_bl)) pss_nil)
    (pss_one (ps_ret (pe_and (pe_bm0 PySem.F.plainAttrs_str PySem.F.slot_str_isascii PySem.F.type_str_isascii mt_isascii (pv 0))
      (pe_and (pe_bm0 PySem.F.plainAttrs_str PySem.F.slot_str_isalpha PySem.F.type_str_isalpha mt_isalpha (pv 0))
        (pe_one (pe_bm0 PySem.F.plainAttrs_str PySem.F.slot_str_islower PySem.F.type_str_islower mt_islower (pv 0))))))), ?_⟩
  refine ⟨_, rfl, n, kn, _, rfl, ?_⟩
  by_cases c : ∃ x, v = .str x
  · obtain ⟨x, rfl⟩ := c
    have en : n = "str" := by cases kn; rfl
    subst en
    have sm : x.length ≤ sizeLine := Nat.le_trans (hv.sm x rfl) (by decide)
    rw [if_neg (by decide)]
    refine ⟨_, rfl, x, rfl, sm, _, _, rfl, rfl, _, rfl, ?_⟩
    by_cases c1 : decide ((1 : Int) ≤ (x.length : Int)) = true
    · rw [if_pos c1]
      refine ⟨_, _, rfl, rfl, _, rfl, ?_⟩
      by_cases c2 : decide ((x.length : Int) ≤ 8) = true
      · rw [c2]
        have h1 : 1 ≤ x.length := by
          have := of_decide_eq_true c1
          omega
        have h8 : x.length ≤ 8 := by
          have := of_decide_eq_true c2
          omega
        have e := name_is h1 h8
        refine ⟨_, rfl, rfl, x, rfl, rfl, trivial, _, rfl, ?_⟩
        by_cases a1 : Txt.isascii x = true
        · rw [if_pos a1]
          refine ⟨_, rfl, rfl, x, rfl, rfl, trivial, _, rfl, ?_⟩
          rw [a1, Bool.true_and] at e
          by_cases a2 : Txt.isalpha x = true
          · rw [if_pos a2]
            refine ⟨_, rfl, rfl, x, rfl, rfl, trivial, ?_⟩
            rw [a2, Bool.true_and] at e
            show Q (.bl (Txt.islower x)) H
            rw [e]
            exact q
          · rw [if_neg a2]
            rw [Bool.eq_false_iff.mpr a2, Bool.false_and] at e
            show Q (.bl false) H
            rw [e]
            exact q
        · rw [if_neg a1]
          rw [Bool.eq_false_iff.mpr a1, Bool.false_and] at e
          show Q (.bl false) H
          rw [e]
          exact q
      · rw [Bool.eq_false_iff.mpr c2]
        have e : nameV (.str x) = false := by
          have : ¬ x.length ≤ 8 := fun l => c2 (decide_eq_true (by omega))
          show nameS x = false
          unfold nameS
          simp [this]
        show Q (.bl false) H
        rw [← e]
        exact q
    · rw [if_neg c1]
      have e : nameV (.str x) = false := by
        have : ¬ 1 ≤ x.length := fun l => c1 (decide_eq_true (by omega))
        show nameS x = false
        unfold nameS
        simp [this]
      refine ⟨_, rfl, ?_⟩
      show Q (.bl false) H
      rw [← e]
      exact q
  · have en : isB n "str" = false := by
      cases kn <;> first | rfl | exact (c ⟨_, rfl⟩).elim
    have ev : nameV v = false := by
      cases v <;> first | rfl | exact (c ⟨_, rfl⟩).elim
    rw [en]
    show Q (.bl false) H
    rw [← ev]
    exact q
end
/-! ### tuples of names -/
/-- a value, and whether it is a tuple of names -/
inductive NamesOf (H : Hp) : V → Bool → Prop
  | tup {a : Addr} {xs : List V} (e : Rd H a (.tup xs)) (ok : ∀ x ∈ xs, Vok H x) (few : xs.length ≤ 1000) : NamesOf H (.ref a) (xs.all nameV)
  | no {v : V} {n : String} (kn : Kn H v n) (ne : isB n "tuple" = false) : NamesOf H v false
theorem NamesOf.same {H H' : Hp} {v : V} {b : Bool} (h : NamesOf H v b) (s : Same H H') : NamesOf H' v b := by
  cases h with
  | tup e ok few => exact .tup (rd_same e s) (fun x m => (ok x m).same s) few
  | no kn ne => exact .no (kn.same s) ne
def spNames : Sp := fun vs H Q _ => ∃ v b, vs = [v] ∧ NamesOf H v b ∧ ∀ H', Same H H' → Q (.bl b) H'
theorem take_one {α β : Type} {f : α → β} {xs : List α} {i : Nat} {x : α} (h : xs[i]? = some x) : (xs.map f).take (i + 1) = (xs.map f).take i ++ [f x] := by
  have e : (xs.map f)[i]? = some (f x) := by rw [List.getElem?_map, h]; rfl
  rw [List.take_add_one, e]
  rfl
abbrev nN : List Str := ["value", "word"]
section
variable {P : Program} {w : World} {K : PySem.W.Frag} {mg : Str → Option Value} {base : Heap} {gg : Bool}
theorem scNames : FnScope ["value", "word"] ["value"] (defScope sNames) := ⟨rfl, rfl, rfl, by decide +kernel, rfl, by decide +kernel, by decide +kernel⟩
theorem ok_names {f fN : Addr} {fd dN : FuncData} (F : Fun K "are_names" "are_names" sNames f fd) (T : TxW K mg) (mN : mg "is_name" = some (.ref fN)) (FN : Fun K "is_name" "is_name" sName fN dN) (bN : Binds K dN ["value"] []) : FnV gg P w K mg base CX0 2 f fd ["value"] spNames := by
  have GN : FnV gg P w K mg base CX0 1 fN dN ["value"] (spJ nameV) := ok_name FN T
  refine fnV F scNames (fun vs H Q E h => ?_) (fun cdv Ar fr s H vs Q E hG hr h => ?_)
  · obtain ⟨v, b, rfl, _⟩ := h
    rfl
  · obtain ⟨v, b, rfl, hv, q⟩ := h
    refine ⟨_, pss_one (ps_ret (pe_and (pe_is (t := "tuple") (.inr (.inr (.inr (.inl rfl)))) (by rfl) T.isi (by rfl) T.tuple (by decide +kernel) (pv 0) mono_var)
      (pe_one (pe_callB (cr_all rfl) (by rfl) T.all (by decide +kernel) (pa_cons
        (pe_lc (own := [("word", 1)]) (g := gName 1) (by rfl) scNames.nd (pi_tup (pv 0))
          (blkOk_by (N := nN) (sc := defScope sNames) (own := [("word", 1)]) (by decide +kernel)) (fun _ _ _ _ _ => pg_name (i := 1) scNames.nd rfl (Or.inl rfl)) (fun _ _ _ _ _ => pts_nil)
          (fun _ _ _ _ _ => pe_callV (E := fun _ _ _ _ => False) hG GN hr (by rfl) mN FN.kp bN .nil (fun _ => passAt0) (pa_cons (pv 1) pa_nil))) pa_nil))))), ?_⟩
    cases hv with
    | no kn ne =>
      refine ⟨_, rfl, _, kn, _, rfl, ?_⟩
      rw [if_neg (by rw [ne]; decide)]
      exact q _ fun _ _ e => e
    | @tup a xs e ok few =>
      refine ⟨_, rfl, _, Kn.rd e, _, rfl, ?_⟩
      rw [if_pos (by decide)]
      refine ⟨_, rfl, a, rfl, ⟨_, Or.inl e⟩, fun D nD => ?_⟩
      refine lc_tup (K := K) (a := a) (xs := xs) (fun i Hc => Same H Hc ∧ Hc D = some (.lst (((xs.map nameV).take i).map V.bl))) ⟨same_upd nD, upd_same⟩ (fun i Hc _ z => Or.inl (rd_same e z.1)) ?_ ?_
      · rintro i x Hc hx ⟨sm, hD⟩
        have mx : x ∈ xs := List.mem_of_getElem? hx
        refine ⟨rfl, _, rfl, x, rfl, (ok x mx).same sm, _, hD, ?_, fun b o e => ?_, ?_⟩
        · rw [List.length_map, List.length_take, List.length_map]
          exact Nat.lt_of_le_of_lt (Nat.le_trans (Nat.min_le_right _ _) few) (by decide)
        · have ne : b ≠ D := ne_of_none e nD
          rw [upd_ne ne]
          exact sm _ _ e
        · rw [upd_same]
          refine congrArg (fun l => some (HO.lst l)) ?_
          rw [take_one hx]
          simp
      · rintro Hc ⟨sm, hD⟩
        refine ⟨D, (xs.map nameV), rfl, ?_, ?_⟩
        · refine SqL.of ?_
          rw [hD]
          congr 2
          rw [List.take_of_length_le (by simp)]
        · have e : (xs.map nameV).all id = xs.all nameV := by
            rw [List.all_map]
            rfl
          show Q (.bl ((xs.map nameV).all id)) Hc
          rw [e]
          exact q _ sm
end
end Lx

/-! Words: different names. -/
namespace Lx
open PySem PySem.Spec PyProof.Rows L2 Fw
def strV : V → Str
  | .str x => x
  | _ => Str.empty
theorem names_strs : ∀ xs : List V, xs.all nameV = true → xs = (xs.map strV).map V.str
  | [], _ => rfl
  | x :: xs, h => by
    have h' : (nameV x && xs.all nameV) = true := h
    obtain ⟨a, b⟩ := Bool.and_eq_true_iff.mp h'
    have e := names_strs xs b
    cases x with
    | str z =>
      show V.str z :: xs = V.str z :: (xs.map strV).map V.str
      rw [← e]
    | _ => cases a
/-- at least n names, all different -/
def diffV (xs : List V) (n : Int) : Bool := xs.all nameV && (decide (n ≤ (xs.length : Int)) && decide (xs.map strV).Nodup)
/-- asked of a tuple -/
def spDiff : Sp := fun vs H Q _ => ∃ (a : Addr) (xs : List V) (n : Int), vs = [.ref a, .int n] ∧ Rd H a (.tup xs) ∧ (∀ x ∈ xs, Vok H x) ∧ xs.length ≤ 1000 ∧ ∀ H', Same H H' → Q (.bl (diffV xs n)) H'
section
variable {P : Program} {w : World} {K : PySem.W.Frag} {mg : Str → Option Value} {base : Heap} {gg : Bool}
theorem scDifferent : FnScope ["value", "least"] ["value", "least"] (defScope sDifferent) := ⟨rfl, rfl, rfl, by decide +kernel, rfl, by decide +kernel, by decide +kernel⟩
theorem ok_different {f fA fN : Addr} {fd dA dN : FuncData} (F : Fun K "are_different" "are_different" sDifferent f fd) (T : TxW K mg) (mS : mg "set" = none) (mA : mg "are_names" = some (.ref fA)) (FA : Fun K "are_names" "are_names" sNames fA dA) (bA : Binds K dA ["value"] [])
    (mN : mg "is_name" = some (.ref fN)) (FN : Fun K "is_name" "is_name" sName fN dN) (bN : Binds K dN ["value"] []) : FnV gg P w K mg base CX0 3 f fd ["value", "least"] spDiff := by
  have GA : FnV gg P w K mg base CX0 2 fA dA ["value"] spNames := ok_names FA T mN FN bN
  refine fnV F scDifferent (fun vs H Q E h => ?_) (fun cdv Ar fr s H vs Q E hG hr h => ?_)
  · obtain ⟨a, xs, n, rfl, _⟩ := h
    rfl
  · obtain ⟨a, xs, n, rfl, at_, ok, few, q⟩ := h
    refine ⟨_, pss_one (ps_ret (pe_and (pe_callV (E := fun _ _ _ _ => False) hG GA hr (by rfl) mA FA.kp bA .nil (fun _ => passAt0) (pa_cons (pv 0) pa_nil))
      (pe_and (pe_cmpR op_ge (pe_callB call_len_seq (by rfl) T.len PySem.boot_len (pa_cons (pv 0) pa_nil)) (pv 1) (nomark _))
        (pe_one (pe_cmpR op_eq (pe_callB cr_lenW (by rfl) T.len PySem.boot_len (pa_cons (pe_callTy (cr_setW rfl) (by rfl) mS (by decide +kernel) (pa_cons (pv 0) pa_nil)) pa_nil)) (pe_callB call_len_seq (by rfl) T.len PySem.boot_len (pa_cons (pv 0) pa_nil)) (nomark _)))))), ?_⟩
    refine ⟨_, rfl, .ref a, _, rfl, .tup at_ ok few, fun H1 s1 => ?_⟩
    have at1 := rd_same at_ s1
    refine ⟨_, rfl, ?_⟩
    cases c : xs.all nameV with
    | false =>
      have e : diffV xs n = false := by
        unfold diffV
        rw [c, Bool.false_and]
      rw [if_neg (by decide)]
      rw [← e]
      exact q _ s1
    | true =>
      rw [if_pos rfl]
      refine ⟨_, rfl, a, xs, rfl, .inr (Or.inl at1), _, rfl, _, _, rfl, rfl, _, rfl, ?_⟩
      by_cases d : decide (n ≤ (xs.length : Int)) = true
      · rw [if_pos d]
        have es := names_strs xs c
        refine ⟨_, rfl, a, xs.map strV, rfl, .inr ?_, by rw [List.length_map]; exact few, fun p np => ?_⟩
        · rw [← es]
          exact Or.inl at1
        have z := same_upd (o := SetWO w p (dedT (xs.map strV))) np
        refine ⟨p, _, rfl, upd_same, _, rfl, a, xs, rfl, .inr (.inl (rd_same at1 z)), ?_, ?_⟩
        · rfl
        · have e : diffV xs n = decide (V.int ((dedT (xs.map strV)).length : Int) = V.int (xs.length : Int)) := by
            unfold diffV
            rw [c, d, Bool.true_and, Bool.true_and]
            by_cases nd : (xs.map strV).Nodup
            · rw [decide_eq_true nd, dedT_same nd, List.length_map]
              simp
            · rw [decide_eq_false nd]
              refine (decide_eq_false fun l => nd (dedT_full ?_)).symm
              have l' : ((dedT (xs.map strV)).length : Int) = (xs.length : Int) := by injection l
              rw [List.length_map]
              omega
          show Q (.bl (decide (V.int ((dedT (xs.map strV)).length : Int) = V.int (xs.length : Int)))) _
          rw [← e]
          exact q _ (same_trans s1 z)
      · rw [if_neg d]
        have e : diffV xs n = false := by
          unfold diffV
          rw [Bool.eq_false_iff.mpr d, Bool.false_and, Bool.and_false]
        rw [← e]
        exact q _ s1
end
end Lx

/-! Words: the keys of a dict. -/
namespace Lx
open PySem PySem.Spec PyProof.Rows L2 Fw
theorem op_inK {X : Cx} {K : PySem.W.Frag} (h : X.K = K) : OpR X (compareOp .In) (rIn K false) := h ▸ op_in_seq
def keysV (kvs : List (L2.Key × V)) (ns : List Str) : Bool := (kvs.map fun kv => inV (kV kv.1) (ns.map V.str)).all id && (ns.map fun n => (valV kvs (Sum.inr n)).isSome).all id
/-- a value, and whether it is a dict of just these keys -/
inductive KeysOf (H : Hp) (ns : List Str) : V → Bool → Prop
  | dict {d : Addr} {kvs : List (L2.Key × V)} (e : H d = some (.dK kvs)) (few : kvs.length ≤ 1000) : KeysOf H ns (.ref d) (keysV kvs ns)
  | no {v : V} {n : String} (kn : Kn H v n) (ne : isB n "dict" = false) : KeysOf H ns v false
def spKeys : Sp := fun vs H Q _ => ∃ (v : V) (t : Addr) (ns : List Str) (b : Bool), vs = [v, .ref t] ∧ Rd H t (.tup (ns.map V.str)) ∧ ns.length ≤ 1000 ∧ KeysOf H ns v b ∧ ∀ H', Same H H' → Q (.bl b) H'
abbrev nK : List Str := ["value", "names", "key", "name"]
theorem kV_flat (k : L2.Key) : flatV (kV k) = true := by cases k <;> rfl
theorem strs_flat (ns : List Str) : (ns.map V.str).all flatV = true := by
  rw [List.all_map]
  exact List.all_eq_true.mpr fun _ _ => rfl
section
variable {P : Program} {w : World} {K : PySem.W.Frag} {mg : Str → Option Value} {base : Heap} {gg : Bool}
theorem scKeys : FnScope ["value", "names", "key", "name"] ["value", "names"] (defScope sKeys) := ⟨rfl, rfl, rfl, by decide +kernel, rfl, by decide +kernel, by decide +kernel⟩
theorem ok_keys {f : Addr} {fd : FuncData} (F : Fun K "has_keys" "has_keys" sKeys f fd) (T : TxW K mg) : FnV gg P w K mg base CX0 1 f fd ["value", "names"] spKeys := by
  refine fnV F scKeys (fun vs H Q E h => ?_) (fun cdv Ar fr s H vs Q E hG hr h => ?_)
  · obtain ⟨v, t, ns, b, rfl, _⟩ := h
    rfl
  · obtain ⟨v, t, ns, b, rfl, at_, few, kv, q⟩ := h
    have hu := hr.units
    refine ⟨_, pss_cons (ps_if (pt_not (pt_val (pe_is (t := "dict") (.inr (.inr (.inr (.inr (.inl rfl))))) (by rfl) T.isi (by rfl) T.dict (by decide +kernel) (pv 0) mono_var))) (pss_one (ps_ret pe_bl)) pss_nil)
      (pss_one (ps_ret (pe_and
        (pe_callB (cr_all rfl) (by rfl) T.all (by decide +kernel) (pa_cons (pe_lock
          (pe_lc (own := [("key", 2)]) (g := gName 2) (by rfl) scKeys.nd (pi_keys (pv 0))
            (blkOk_by (N := nK) (sc := defScope sKeys) (own := [("key", 2)]) (by decide +kernel)) (fun _ _ _ _ _ => pg_name (i := 2) scKeys.nd rfl (Or.inl rfl)) (fun _ _ _ _ _ => pts_nil)
            (fun _ _ _ _ _ => pe_cmpR (op_inK (K := K) rfl) (pv 2) (pv 1) (by rfl)))) pa_nil))
        (pe_one (pe_callB (cr_all rfl) (by rfl) T.all (by decide +kernel) (pa_cons
          (pe_lc (own := [("name", 3)]) (g := gName 3) (by rfl) scKeys.nd (pi_tup (pv 1))
            (blkOk_by (N := nK) (sc := defScope sKeys) (own := [("name", 3)]) (by decide +kernel)) (fun _ _ _ _ _ => pg_name (i := 3) scKeys.nd rfl (Or.inl rfl)) (fun _ _ _ _ _ => pts_nil)
            (fun _ _ _ _ _ => pe_cmp (pc_din (by have z := hu; show _ < _; exact Nat.lt_of_le_of_lt (Nat.add_le_add_left (by decide) _) z) (pv 3) (pv 0)))) pa_nil)))))), ?_⟩
    cases kv with
    | no kn ne =>
      refine ⟨_, rfl, _, kn, _, rfl, ?_⟩
      rw [ne]
      exact q _ fun _ _ e => e
    | @dict d kvs e fk =>
      refine ⟨_, rfl, _, .dK e, _, rfl, ?_⟩
      refine ⟨d, _, e, trivial, fun od => ?_⟩
      have dt : d ≠ t := fun z => by
        rcases at_ with h | ⟨o, h⟩ <;> (rw [z, h] at e; cases e)
      refine ⟨_, rfl, d, od, rfl, .inl ⟨kvs, upd_same, fun D nD => ?_⟩⟩
      have nd : D ≠ d := fun z => by
        rw [z, upd_same] at nD
        cases nD
      have nH : H D = none := by
        rw [upd_ne nd] at nD
        exact nD
      refine lc_it walk_keys (fun i Hc => (∀ b o, b ≠ D → (upd H d (.frz od (.dK kvs))) b = some o → Hc b = some o) ∧ Hc D = some (.lst (((kvs.map fun kv => inV (kV kv.1) (ns.map V.str)).take i).map V.bl))) ⟨fun b o n z => by rw [upd_ne n]; exact z, upd_same⟩ (fun i Hc _ z => z.1 d _ nd.symm upd_same) ?_ ?_
      · rintro i x Hc Hc' lt ⟨sm, hD⟩ ⟨rfl, k, v, ek, rfl⟩
        have at' : Rd Hc' t (.tup (ns.map V.str)) := by
          rcases at_ with h | ⟨o, h⟩
          · exact .inl (sm t _ (fun z => by rw [← z, h] at nH; cases nH) (by rw [upd_ne dt.symm]; exact h))
          · exact .inr ⟨o, sm t _ (fun z => by rw [← z, h] at nH; cases nH) (by rw [upd_ne dt.symm]; exact h)⟩
        refine ⟨rfl, _, rfl, _, rfl, t, _, rfl, .inr (Or.inl at'), kV_flat k, strs_flat ns, _, hD, ?_, fun b o n z => ?_, ?_⟩
        · rw [List.length_map, List.length_take, List.length_map]
          exact Nat.lt_of_le_of_lt (Nat.le_trans (Nat.min_le_right _ _) fk) (by decide)
        · rw [upd_ne n]
          exact sm b o n z
        · rw [upd_same]
          refine congrArg (fun l => some (HO.lst l)) ?_
          rw [take_one ek]
          simp
      · rintro Hc ⟨sm, hD⟩
        have atd : Hc d = some (.frz od (.dK kvs)) := sm d _ nd.symm upd_same
        refine ⟨atd, D, kvs.map fun kv => inV (kV kv.1) (ns.map V.str), rfl, ?_, _, rfl, ?_⟩
        · refine SqL.of ?_
          rw [upd_ne nd, hD]
          congr 2
          rw [List.take_of_length_le (by simp)]
        have S : Same H (upd Hc d (.dK kvs)) := fun b o z => by
          by_cases c : b = d
          · rw [c] at z ⊢
            rw [upd_same, ← z, e]
          · rw [upd_ne c]
            refine sm b o (fun y => ?_) (by rw [upd_ne c]; exact z)
            rw [y, nH] at z
            cases z
        have atd2 : (upd Hc d (.dK kvs)) d = some (.dK kvs) := upd_same
        have att : Rd (upd Hc d (.dK kvs)) t (.tup (ns.map V.str)) := rd_same at_ S
        generalize upd Hc d (.dK kvs) = H2 at S atd2 att ⊢
        clear sm hD atd nD nd nH
        cases c1 : (kvs.map fun kv => inV (kV kv.1) (ns.map V.str)).all id with
        | false =>
          have ev : keysV kvs ns = false := by
            unfold keysV
            rw [c1, Bool.false_and]
          rw [if_neg (by decide), ← ev]
          exact q _ S
        | true =>
          rw [if_pos rfl]
          refine ⟨_, rfl, t, rfl, ⟨_, Or.inl att⟩, fun D2 nD => ?_⟩
          refine lc_tup (K := K) (a := t) (xs := ns.map V.str) (fun i Hc => Same H2 Hc ∧ Hc D2 = some (.lst (((ns.map fun n => (valV kvs (Sum.inr n)).isSome).take i).map V.bl))) ⟨same_upd nD, upd_same⟩ (fun i Hc _ z => Or.inl (rd_same att z.1)) ?_ ?_
          · rintro i x Hc hx ⟨sm, hD⟩
            obtain ⟨n, en, rfl⟩ : ∃ n, ns[i]? = some n ∧ x = .str n := by
              rw [List.getElem?_map] at hx
              cases z : ns[i]? with
              | none => rw [z] at hx; cases hx
              | some n => rw [z] at hx; exact ⟨n, rfl, (Option.some.inj hx).symm⟩
            refine ⟨rfl, _, rfl, _, rfl, d, _, rfl, DGet.k (k := Sum.inr n) (sm _ _ atd2), _, hD, ?_, fun b o z => ?_, ?_⟩
            · rw [List.length_map, List.length_take, List.length_map]
              exact Nat.lt_of_le_of_lt (Nat.le_trans (Nat.min_le_right _ _) few) (by decide)
            · have ne : b ≠ D2 := ne_of_none z nD
              rw [upd_ne ne]
              exact sm _ _ z
            · rw [upd_same]
              refine congrArg (fun l => some (HO.lst l)) ?_
              rw [take_one en]
              simp
          · rintro Hc ⟨sm, hD⟩
            refine ⟨D2, ns.map fun n => (valV kvs (Sum.inr n)).isSome, rfl, ?_, ?_⟩
            · refine SqL.of ?_
              rw [hD]
              congr 2
              rw [List.take_of_length_le (by simp)]
            · have ev : keysV kvs ns = (ns.map fun n => (valV kvs (Sum.inr n)).isSome).all id := by
                unfold keysV
                rw [c1, Bool.true_and]
              show Q (.bl ((ns.map fun n => (valV kvs (Sum.inr n)).isSome).all id)) Hc
              rw [← ev]
              exact q _ (same_trans S sm)
end
end Lx

/-! Words: namings. -/
namespace Lx
open PySem PySem.Spec PyProof.Rows L2 Fw
/-- an error class without an __init__ of its own, over ValueError -/
structure ExP (K : PySem.W.Frag) (mg : Str → Option Value) (x : Str) (C : Addr) : Prop where
  gl : mg x = some (.ref C)
  kp : PySem.W.keepIn K (.ref C) = true
  plain : PySem.W.excIn K C [.type "ValueError", .type "Exception", .type "BaseException", .type "object"] "ValueError.__new__" = true
  hs : PySem.W.subIn K (.ref C) (.type "BaseException") = some true
  ty : PySem.W.typeIn K (.ref C) = some (.type "type")
/-- a value, and whether it is a naming of these names -/
inductive NamingOf (H : Hp) (ns : List Str) : V → Bool → Prop
  | dict {d : Addr} {kvs : List (L2.Key × V)} (e : H d = some (.dK kvs)) (few : kvs.length ≤ 1000) (ok : ∀ x ∈ kvs.map (·.2), Vok H x) : NamingOf H ns (.ref d) (keysV kvs ns && diffV (kvs.map (·.2)) 0)
  | no {v : V} {n : String} (kn : Kn H v n) (ne : isB n "dict" = false) : NamingOf H ns v false
def spNaming (C : Addr) : Sp := fun vs H Q E => ∃ (v1 v2 : V) (b : Bool), vs = [v1, v2] ∧ NamesOf H v1 b ∧ (b = false → ∀ H', Same H H' → E (.ref C) none H') ∧
  (b = true → ∃ (t : Addr) (ns : List Str) (r : Bool), v1 = .ref t ∧ Rd H t (.tup (ns.map V.str)) ∧ ns.length ≤ 1000 ∧ NamingOf H ns v2 r ∧ ∀ H', Same H H' → Q (.bl r) H')
section
variable {P : Program} {w : World} {K : PySem.W.Frag} {mg : Str → Option Value} {base : Heap} {gg : Bool}
structure TxN (K : PySem.W.Frag) (mg : Str → Option Value) (fA fN fK fD : Addr) (dA dN dK dD : FuncData) : Prop where
  T : TxW K mg
  set : mg "set" = none
  mA : mg "are_names" = some (.ref fA)
  FA : Fun K "are_names" "are_names" sNames fA dA
  bA : Binds K dA ["value"] []
  mN : mg "is_name" = some (.ref fN)
  FN : Fun K "is_name" "is_name" sName fN dN
  bN : Binds K dN ["value"] []
  mK : mg "has_keys" = some (.ref fK)
  FK : Fun K "has_keys" "has_keys" sKeys fK dK
  bK : Binds K dK ["value", "names"] []
  mD : mg "are_different" = some (.ref fD)
  FD : Fun K "are_different" "are_different" sDifferent fD dD
  bD : Binds K dD ["value", "least"] []
theorem scNaming : FnScope ["names", "value"] ["names", "value"] (defScope sNaming) := ⟨rfl, rfl, rfl, by decide +kernel, rfl, by decide +kernel, by decide +kernel⟩
theorem ok_naming {f C fA fN fK fD : Addr} {fd dA dN dK dD : FuncData} (F : Fun K "is_naming" "is_naming" sNaming f fd) (X : ExP K mg "InvalidPlace" C) (N : TxN K mg fA fN fK fD dA dN dK dD) : FnV gg P w K mg base (L2.CX P w) 4 f fd ["names", "value"] (spNaming C) := by
  have GA : FnV gg P w K mg base CX0 2 fA dA ["value"] spNames := ok_names N.FA N.T N.mN N.FN N.bN
  have GK : FnV gg P w K mg base CX0 1 fK dK ["value", "names"] spKeys := ok_keys N.FK N.T
  have GD : FnV gg P w K mg base CX0 3 fD dD ["value", "least"] spDiff := ok_different N.FD N.T N.set N.mA N.FA N.bA N.mN N.FN N.bN
  refine fnV F scNaming (fun vs H Q E h => ?_) (fun cdv Ar fr s H vs Q E hG hr h => ?_)
  · obtain ⟨v1, v2, b, rfl, _⟩ := h
    rfl
  · obtain ⟨v1, v2, b, rfl, hv, bad, good⟩ := h
    have hr1 := hr.mono (show 1 ≤ 3 by decide)
    have hr2 := hr.mono (show 2 ≤ 3 by decide)
    have tk : Takes (cxOf (L2.CX P w) P w K mg base ["names", "value"] "is_naming" (defScope sNaming) f cdv Ar fr s H E) (fun cls d _ H => E cls d H) := takes_of rfl rfl rfl rfl
    refine ⟨_, pss_cons (ps_if (pt_not (pt_val (pe_callV (E := fun _ _ _ _ => False) hG GA hr2 (by rfl) N.mA N.FA.kp N.bA .nil (fun _ => passAt0) (pa_cons (pv 0) pa_nil))))
        (pss_one (ps_raise rfl tk (pmk_own PySem.F.excBase_ValueError X.plain X.gl X.kp (raises_own X.hs X.ty) (by rfl)))) pss_nil)
      (pss_one (ps_ret (pe_and (pe_callV (E := fun _ _ _ _ => False) hG GK hr1 (by rfl) N.mK N.FK.kp N.bK .nil (fun _ => passAt0) (pa_cons (pv 1) (pa_cons (pv 0) pa_nil)))
        (pe_one (pe_callV (E := fun _ _ _ _ => False) hG GD hr (by rfl) N.mD N.FD.kp N.bD .nil (fun _ => passAt0) (pa_cons (pe_tupVals rfl (pv 1) (by rfl) N.T.tuple) (pa_cons pe_int pa_nil))))))), ?_⟩
    refine ⟨_, rfl, v1, b, rfl, hv, fun H1 s1 => ⟨_, rfl, ?_⟩⟩
    cases b with
    | false => exact bad rfl H1 s1
    | true =>
      obtain ⟨t, ns, r, rfl, at_, few, hn, q⟩ := good rfl
      have at1 := rd_same at_ s1
      cases hn with
      | no kn ne =>
        refine ⟨_, rfl, _, rfl, _, t, ns, false, rfl, at1, few, .no (kn.same s1) ne, fun H2 s2 => ⟨_, rfl, ?_⟩⟩
        rw [if_neg (by decide)]
        exact q _ (same_trans s1 s2)
      | @dict d kvs e fk ok =>
        refine ⟨_, rfl, _, rfl, _, t, ns, keysV kvs ns, rfl, at1, few, .dict (s1 _ _ e) fk, fun H2 s2 => ⟨_, rfl, ?_⟩⟩
        have S := same_trans s1 s2
        cases c : keysV kvs ns with
        | false =>
          rw [if_neg (by decide)]
          rw [c, Bool.false_and] at q
          exact q _ S
        | true =>
          rw [if_pos rfl]
          rw [c, Bool.true_and] at q
          refine ⟨_, rfl, d, kvs, rfl, S _ _ e, fun p np => ?_⟩
          have z := same_upd (o := .tup (kvs.map (·.2))) np
          refine ⟨p, kvs.map (·.2), 0, rfl, Or.inl upd_same, fun x m => ((ok x m).same S).same z, by rw [List.length_map]; exact fk, fun H3 s3 => ?_⟩
          exact q _ (same_trans (same_trans S z) s3)
end
end Lx

/-! Sets of values that are compared by a call (tuples), whatever kind their members are of: the table's search, adding. -/
namespace Fw
open PySem PySem.Spec PyProof.Rows L2
/-- a kind of members: what stands for k, and what is asked of it -/
structure El (P : Program) (w : World) (κ : Type) [DecidableEq κ] where
  is : Heap → κ → Value → Prop
  hash : κ → Int
  room : Around → Prop
  eq : ∀ {A : Around} {E : Value → Shared → Prop} {s : Shared} {k j : κ} {u v : Value} {Q : Bool → Shared → Prop}, room A → is s.heap k u → is s.heap j v → Q (decide (k = j)) s → wpAny (model P w) A (eqBool u v) Q E s
  seen : ∀ {A : Around} {E : Value → Shared → Prop} {s : Shared} {k : κ} {v : Value} {ys : List Value} {Q : Bool → Shared → Prop}, is s.heap k v → (∀ y ∈ ys, ∃ j, is s.heap j y) → Q false s → wpAny (model P w) A (searchCouldBeSeen v ys) Q E s
  byv : ∀ {A : Around} {E : Value → Shared → Prop} {s : Shared} {k : κ} {v : Value} {Q : Bool → Shared → Prop}, is s.heap k v → (∀ b, Q b s) → wpAny (model P w) A (hashByValue 8 v) Q E s
  self_ : ∀ {A : Around} {E : Value → Shared → Prop} {s : Shared} {k : κ} {v : Value} {Q : Bool → Shared → Prop}, is s.heap k v → Q true s → wpAny (model P w) A (isSame v v) Q E s
  slow : ∀ h k v, is h k v → v.scannable = false
  draws : κ → Nat
  hashed : ∀ {A : Around} {E : Value → Shared → Prop} {s : Shared} {k : κ} {v : Value} {Q : Int → Shared → Prop}, room A → is s.heap k v → Q (hash k) { s with toks := s.toks + draws k } → wpAny (model P w) A (pyHash v) Q E s
  kept : ∀ h h' k v, is h k v → (∀ b o, h.get? b = some o → h'.get? b = some o) → is h' k v
section
variable {P : Program} {w : World} {κ : Type} [DecidableEq κ] (D : El P w κ)
def hsE (L : List (Value × κ)) : List Int := L.map fun p => D.hash p.2
def rowsE (L : List (Value × κ)) : List (Int × Value) := L.map fun p => (D.hash p.2, p.1)
def AllE (h : Heap) (L : List (Value × κ)) : Prop := ∀ p ∈ L, D.is h p.2 p.1
/-- what the set's own object tells; L: the members in the table's order -/
structure TabE (h : Heap) (a : Addr) (L : List (Value × κ)) (es : Array (Int × Value)) (ep : Nat) (t : SetTable) : Prop where
  ob : ∃ o, h.get? a = some o ∧ o.ExactSet ∧ o.data = .set es ep t
  rows : es.toList = rowsE D L
  tab : TabOk t (hsE D L)
  nd : (L.map (·.2)).Nodup
  led : w.params.followText "set-order" = true ∨ t.led = true
  room : L.length * 5 < t.mask * 3
  few : L.length < 64
end
section
variable {P : Program} {w : World} {κ : Type} [DecidableEq κ] {D : El P w κ} {h : Heap} {a : Addr} {L : List (Value × κ)} {es : Array (Int × Value)} {ep : Nat} {t : SetTable}
theorem rowsE_len (e : es.toList = rowsE D L) : es.size = L.length := by
  rw [← Array.length_toList, e]
  unfold rowsE
  rw [List.length_map]
theorem rowsE_at (e : es.toList = rowsE D L) {i : Nat} {p : Value × κ} (hp : L[i]? = some p) : es[i]? = some (D.hash p.2, p.1) := by
  rw [← Array.getElem?_toList, e]
  unfold rowsE
  rw [List.getElem?_map, hp]
  rfl
theorem TabE.fits (R : TabE D h a L es ep t) : t.fits es.size = true := by
  have e1 := R.tab.sz
  have e2 := rowsE_len R.rows
  have e3 := R.room
  unfold hsE at e1
  rw [List.length_map] at e1
  unfold SetTable.fits SetTable.fill
  rw [R.tab.dm]
  show (t.place.size == es.size && decide (t.place.size + 0 ≤ t.mask)) = true
  rw [Bool.and_eq_true, beq_iff_eq, decide_eq_true_eq]
  omega
/-- a probe's start, k steps on -/
abbrev prb (t : SetTable) (x : Int) (c : Nat) : SetTable.Probe := nth t.mask (runAt t.mask (SetTable.bits x % (t.mask + 1)) (SetTable.bits x)) c
theorem prb_free (t : SetTable) (x : Int) (c : Nat) : (prb t x c).dummy = none := by
  have step : ∀ (n : Nat) (p : SetTable.Probe), p.dummy = none → (nth t.mask p n).dummy = none := by
    intro n
    induction n with
    | zero => exact fun p e => e
    | succ n ih => exact fun p e => ih _ (by unfold adv; split <;> exact e)
  exact step c _ rfl
theorem prb_add (t : SetTable) (x : Int) (c q : Nat) : nth t.mask (prb t x c) q = prb t x (c + q) := (nth_add t.mask c _ q).symm
/-- what a step of the search finds: an entry of this hash, with none of this hash passed over; or the first free slot -/
theorem meets (R : TabE D h a L es ep t) (x : Int) {K c : Nat} (hK : K < 10 * SetTable.turns t.mask) (free : way t.mask x K ∉ t.place.toList) (full : ∀ q, q < K → way t.mask x q ∈ t.place.toList) (hc : c ≤ K) {st : SetTable.Probe} (hst : st = prb t x c) :
    (∃ q i p, c ≤ q ∧ q < K ∧ L[i]? = some p ∧ t.place.toList[i]? = some (way t.mask x q) ∧ D.hash p.2 = x ∧ (∀ (q' i' : Nat) p', c ≤ q' → q' < q → L[i']? = some p' → t.place.toList[i']? = some (way t.mask x q') → D.hash p'.2 ≠ x) ∧
      t.probe (fun i => (es[i]?.map (·.1)).getD 0) x st = some (.candidate (way t.mask x q) i (prb t x (q + 1)))) ∨
    ((∀ (q' i' : Nat) p', c ≤ q' → q' < K → L[i']? = some p' → t.place.toList[i']? = some (way t.mask x q') → D.hash p'.2 ≠ x) ∧ t.probe (fun i => (es[i]?.map (·.1)).getD 0) x st = some (.empty (way t.mask x K) none)) := by
  subst hst
  have at_ : ∀ q, (nth t.mask (prb t x c) q).j = way t.mask x (c + q) := fun q => congrArg SetTable.Probe.j (prb_add t x c q)
  have val : ∀ (i : Nat) p, L[i]? = some p → (fun i => (es[i]?.map (·.1)).getD 0) i = D.hash p.2 := fun i p e => by
    show (es[i]?.map (·.1)).getD 0 = _
    rw [rowsE_at R.rows e]
    rfl
  have inL : ∀ (i j : Nat), t.place.toList[i]? = some j → ∃ p, L[i]? = some p := fun i j e => by
    have l := (List.getElem?_eq_some_iff.mp e).1
    have z := R.tab.sz
    unfold hsE at z
    rw [List.length_map] at z
    rw [Array.length_toList] at l
    exact ⟨_, List.getElem?_eq_getElem (by omega : i < L.length)⟩
  rcases go_spec t R.tab.ris R.tab.dm (fun i => (es[i]?.map (·.1)).getD 0) x (10 * SetTable.turns t.mask) (K - c) (prb t x c) (prb_free t x c) (by omega)
    (fun q hq => by rw [at_]; exact full _ (by omega)) (by rw [at_, show c + (K - c) = K by omega]; exact free) with ⟨q, i, hq, hi, hh, no, pr⟩ | ⟨no, pr⟩
  · rw [at_] at hi
    obtain ⟨p, hp⟩ := inL _ _ hi
    refine .inl ⟨c + q, i, p, by omega, by omega, hp, hi, ?_, fun q' i' p' l1 l2 e1 e2 => ?_, ?_⟩
    · rw [← val i p hp]
      exact hh
    · rw [← val i' p' e1]
      exact no (q' - c) i' (by omega) (by rw [at_, show c + (q' - c) = q' by omega]; exact e2)
    · have e : SetTable.probe t (fun i => (es[i]?.map (·.1)).getD 0) x (prb t x c) = _ := pr
      rw [e, at_, prb_add, show c + (q + 1) = c + q + 1 by omega]
  · refine .inr ⟨fun q' i' p' l1 l2 e1 e2 => ?_, ?_⟩
    · rw [← val i' p' e1]
      exact no (q' - c) i' (by omega) (by rw [at_, show c + (q' - c) = q' by omega]; exact e2)
    · have e : SetTable.probe t (fun i => (es[i]?.map (·.1)).getD 0) x (prb t x c) = _ := pr
      rw [e, at_, show c + (K - c) = K by omega]
end
end Fw

/-! Sets of values that are compared by a call: a member is found, or a free slot. -/
namespace Fw
open PySem PySem.Spec PyProof.Rows L2
section
variable {P : Program} {w : World} {κ : Type} [DecidableEq κ] {D : El P w κ} {A : Around} {E : Value → Shared → Prop} {s : Shared} {a : Addr} {L : List (Value × κ)} {es : Array (Int × Value)} {ep : Nat} {t : SetTable} {k : κ} {v : Value}
theorem TabE.firm (R : TabE D s.heap a L es ep t) : ¬ t.gaveWay = true := by
  unfold SetTable.gaveWay
  rw [mask_odd R.tab.mok]
  decide
theorem seek (R : TabE D s.heap a L es ep t) (all : AllE D s.heap L) (hv : D.is s.heap k v) (hr : D.room A) {K : Nat} (hK : K < 10 * SetTable.turns t.mask) (free : way t.mask (D.hash k) K ∉ t.place.toList) (full : ∀ q, q < K → way t.mask (D.hash k) q ∈ t.place.toList)
    {Q : SetFound → Shared → Prop} (yes : k ∈ L.map (·.2) → Q (.there none) s) (not_ : k ∉ L.map (·.2) → Q (.free (way t.mask (D.hash k) K) false) s) :
    ∀ (f c : Nat) (st : Option SetTable.Probe), st.getD (t.probeStart (D.hash k)) = prb t (D.hash k) c → c ≤ K → K - c < f →
      (∀ (i : Nat) p, L[i]? = some p → p.2 = k → ∃ q, c ≤ q ∧ q < K ∧ t.place.toList[i]? = some (way t.mask (D.hash k) q)) → wpAny (model P w) A (setSearchFrom a v (D.hash k) true f st) Q E s := by
  obtain ⟨o, ho, hex, hd⟩ := R.ob
  intro f
  induction f with
  | zero => exact fun c st _ _ lt _ => absurd lt (Nat.not_lt_zero _)
  | succ f ih =>
    intro c st hst hc lt ahead
    rw [setSearchFrom_succ]
    refine wpAny_bind (wpAny_setState_of ho hd R.fits ?_)
    dsimp only
    refine wp_if_neg R.firm ?_
    try refine wpAny_bind (wpAny_pure ?_)
    rcases meets R (D.hash k) hK free full hc hst with ⟨q, i, p, q1, q2, hp, hi, hh, passed, pr⟩ | ⟨passed, pr⟩
    · rw [pr]
      dsimp only
      have hm : p ∈ L := List.mem_of_getElem? hp
      have live : t.slot (way t.mask (D.hash k) q) = .live i := slot_live R.tab.ris hi
      have go : wpAny (model P w) A (searchRest a v (D.hash k) true f es t (way t.mask (D.hash k) q) i (prb t (D.hash k) (q + 1))) Q E s := by
        unfold searchRest
        rw [rowsE_at R.rows hp]
        dsimp only
        refine wpAny_bind (wpAny_holding (D.eq hr (all p hm) hv ?_))
        refine wpAny_bind (wpAny_setState_of ho hd R.fits ?_)
        dsimp only
        by_cases e : p.2 = k
        · refine wp_if_pos (by simp [e]) (wpAny_pure (yes ?_))
          exact List.mem_map.mpr ⟨p, hm, e⟩
        · refine wp_if_neg (by simp [e]) ?_
          try refine wpAny_bind (wpAny_pure ?_)
          rw [sameMem]
          dsimp only
          simp only [if_true, live, rowsE_at R.rows hp]
          refine wpAny_bind (D.self_ (all p hm) (wpAny_bind (wpAny_pure ?_)))
          simp only [if_true]
          refine wp_if_neg (by simp [e]) ?_
          refine ih (q + 1) _ rfl (by omega) (by omega) fun j r hj hk => ?_
          obtain ⟨u, u1, u2, u3⟩ := ahead j r hj hk
          rcases Nat.lt_trichotomy u q with z | z | z
          · exact (passed u j r u1 z hj u3 (by rw [hk])).elim
          · rw [z] at u3
            have live2 := slot_live R.tab.ris u3
            rw [live] at live2
            injection live2 with same
            rw [← same, hp] at hj
            exact (e (by rw [Option.some.inj hj]; exact hk)).elim
          · exact ⟨u, z, u2, u3⟩
      by_cases led : t.led = true
      · refine wp_if_neg (by simp [led]) ?_
        try refine wpAny_bind (wpAny_pure ?_)
        exact go
      · refine wp_if_pos (by simp [led]) ?_
        refine wpAny_bind (D.seen hv (fun y hy => ?_) ?_)
        · obtain ⟨x, hx, ex⟩ := List.mem_map.mp hy
          have h1 : x ∈ es ∧ x.1 = D.hash k := by simpa using hx
          have h2 : x ∈ es.toList := by simpa using h1.1
          rw [R.rows] at h2
          obtain ⟨r, hr2, er⟩ := List.mem_map.mp h2
          refine ⟨r.2, ?_⟩
          rw [← ex, ← er]
          exact all r hr2
        · refine wp_if_neg (by decide) ?_
          try refine wpAny_bind (wpAny_pure ?_)
          exact go
    · rw [pr]
      dsimp only
      refine wpAny_pure (not_ fun m => ?_)
      obtain ⟨p, hm, e⟩ := List.mem_map.mp m
      obtain ⟨i, hi, ei⟩ := List.getElem_of_mem hm
      have hp : L[i]? = some p := by rw [List.getElem?_eq_getElem hi, ei]
      obtain ⟨u, u1, u2, u3⟩ := ahead i p hp e
      exact passed u i p u1 u2 hp u3 (by rw [e])
/-- as adding asks -/
theorem seek_add (R : TabE D s.heap a L es ep t) (all : AllE D s.heap L) (hv : D.is s.heap k v) (hr : D.room A) {Q : SetFound → Shared → Prop} (yes : k ∈ L.map (·.2) → Q (.there none) s)
    (not_ : ∀ K, k ∉ L.map (·.2) → way t.mask (D.hash k) K ∉ t.place.toList → (∀ q, q < K → way t.mask (D.hash k) q ∈ t.place.toList) → Q (.free (way t.mask (D.hash k) K) false) s) : wpAny (model P w) A (setSearch a v (D.hash k) true) Q E s := by
  have room := R.room
  obtain ⟨K, lt, free, full⟩ := R.tab.first (by unfold hsE; rw [List.length_map]; omega) (D.hash k)
  have big : 10 * SetTable.turns t.mask ≤ 1420 := by
    unfold SetTable.turns
    rcases R.tab.mok with e | e | e <;> omega
  unfold setSearch
  refine seek R all hv hr lt free full yes (fun n => not_ K n free full) 100000 0 none rfl (Nat.zero_le _) (by omega) fun i p hp e => ?_
  have hi : (hsE D L)[i]? = some (D.hash k) := by
    unfold hsE
    rw [List.getElem?_map, hp, ← e]
    rfl
  have l1 := (List.getElem?_eq_some_iff.mp hp).1
  have l2 := R.tab.sz
  unfold hsE at l2
  rw [List.length_map] at l2
  have hj := List.getElem?_eq_getElem (show i < t.place.toList.length by rw [Array.length_toList]; omega)
  obtain ⟨q, lq, eq⟩ := R.tab.before free hi hj
  exact ⟨q, Nat.zero_le _, lq, by rw [hj, eq]⟩
end
end Fw

/-! Sets of values that are compared by a call: adding, and the table laid anew. -/
namespace Fw
open PySem PySem.Spec PyProof.Rows L2
theorem range_back {α : Type} (L : List α) : (List.range L.length).filterMap (fun i => L[i]?) = L := by
  induction L with
  | nil => rfl
  | cons x r ih =>
    rw [List.length_cons, List.range_succ_eq_map, List.filterMap_cons_some (show (x :: r)[0]? = some x from rfl), List.filterMap_map]
    exact congrArg (x :: ·) ih
section
variable {P : Program} {w : World} {κ : Type} [DecidableEq κ] {D : El P w κ}
theorem order_e {L : List (Value × κ)} {es : Array (Int × Value)} {order : Array Nat} (hr : es.toList = rowsE D L) (hp : order.toList.Perm (List.range L.length)) :
    ∃ M, (order.filterMap (es[·]?)).toList = rowsE D M ∧ M.Perm L ∧ hsE D M = order.toList.map fun i => (es.map (·.1)).getD i 0 := by
  have ent : ∀ i : Nat, es[i]? = (L[i]?).map fun p => (D.hash p.2, p.1) := fun i => by
    rw [← Array.getElem?_toList, hr]
    unfold rowsE
    rw [List.getElem?_map]
  refine ⟨order.toList.filterMap fun i => L[i]?, ?_, ?_, ?_⟩
  · have e : (order.filterMap (es[·]?)).toList = order.toList.filterMap (fun i => es[i]?) := by simp
    rw [e]
    unfold rowsE
    rw [List.map_filterMap]
    exact congrArg (fun g => List.filterMap g order.toList) (funext ent)
  · have z := hp.filterMap fun i => L[i]?
    rwa [range_back] at z
  · have lt : ∀ i ∈ order.toList, i < L.length := fun i m => List.mem_range.mp (hp.mem_iff.mp m)
    generalize order.toList = l at lt
    unfold hsE
    clear hp
    induction l with
    | nil => rfl
    | cons i l ih =>
      have hi := lt i List.mem_cons_self
      have e1 : L[i]? = some L[i] := List.getElem?_eq_getElem hi
      have e2 : (es.map (·.1)).getD i 0 = D.hash L[i].2 := by
        rw [Array.getD_eq_getD_getElem?, Array.getElem?_map, ent, e1]
        rfl
      rw [List.filterMap_cons_some e1, List.map_cons, List.map_cons, ih fun j m => lt j (List.mem_cons_of_mem _ m), e2]
variable {A : Around} {E : Value → Shared → Prop} {s : Shared} {a : Addr} {L : List (Value × κ)} {es : Array (Int × Value)} {ep : Nat} {t : SetTable} {k : κ} {v : Value}
/-- the table laid anew, larger -/
theorem relay_e {o : Obj} (ho : s.heap.get? a = some o) (hex : o.ExactSet) (hd : o.data = .set es ep t) (hr : es.toList = rowsE D L) (sz : t.place.size = es.size) (dm : t.dummies = #[]) (fill : es.size ≤ t.mask) (nd : (L.map (·.2)).Nodup) 
    (led : w.params.followText "set-order" = true ∨ t.led = true) (few : L.length < 64) {want m : Nat} (hw : SetTable.sizeAbove want - 1 = m) (hm : MaskOk m) (hw2 : SetTable.sizeAbove want ≤ 128) (room : L.length * 5 < m * 3) {Q : Unit → Shared → Prop}
    (q : ∀ h' L' es' ep' t', Heap.SameBut a s.heap h' → TabE D h' a L' es' ep' t' → L'.Perm L → Q () { s with heap := h' }) : wpAny (model P w) A (setRelay a want) Q E s := by
  have len := rowsE_len hr
  have fits : t.fits es.size = true := by
    unfold SetTable.fits SetTable.fill
    rw [dm]
    show (t.place.size == es.size && decide (t.place.size + 0 ≤ t.mask)) = true
    rw [Bool.and_eq_true, beq_iff_eq, decide_eq_true_eq]
    omega
  obtain ⟨t2, order, e, op, T, em, el, pe, ed⟩ := relaid_ok t (hs := es.map (·.1)) (wanted := want) hw hm (by rw [Array.size_map, len]; omega)
  rw [Array.size_map, len] at op
  obtain ⟨M, r1, r2, r3⟩ := order_e (D := D) hr op
  rw [← r3] at T
  have same : (order.filterMap (es[·]?)).size = es.size := by
    rw [rowsE_len r1, r2.length_eq, len]
  rw [setRelay_eq]
  refine wpAny_bind (wpAny_setState_of ho hd fits ?_)
  dsimp only
  refine wp_if_neg (by rw [sizeLine_eq]; omega) ?_
  try refine wpAny_bind (wpAny_pure ?_)
  rw [e]
  dsimp only
  refine wpAny_bind ?_
  refine wp_if_neg (by rw [same]; simp) ?_
  try refine wpAny_bind (wpAny_pure ?_)
  refine wpAny_pure ?_
  dsimp only
  refine wpAny_storeSet_of ho hd ?_ (by rw [same, len, sizeLine_eq]; omega)
  refine q _ M (order.filterMap (es[·]?)) (ep + 1) t2 (Heap.SameBut.update ..) ⟨⟨_, laid_at ho hd, ⟨hex.1, hex.2.1, hex.2.2⟩, rfl⟩, r1, T, (r2.map (·.2)).nodup_iff.mpr nd, by rw [el]; exact led, by rw [r2.length_eq, em]; exact room, by rw [r2.length_eq]; exact few⟩ r2
/-- the new entry is stored, and the table laid anew if it is too full -/
theorem add_tail {o : Obj} {es1 : Array (Int × Value)} {t2 : SetTable} {L1 : List (Value × κ)} {n m0 : Nat} (ho : s.heap.get? a = some o) (hex : o.ExactSet) (hd : o.data = .set es ep t) (rows1 : es1.toList = rowsE D L1) (tab1 : TabOk t2 (hsE D L1)) (nd1 : (L1.map (·.2)).Nodup)
    (led1 : w.params.followText "set-order" = true ∨ t2.led = true) (few1 : L1.length < 64) (len1 : L1.length = n) (full : t2.tooFull = decide (n * 5 ≥ t2.mask * 3)) (hm : t2.mask = m0) (before : (n - 1) * 5 < m0 * 3) (pos : 0 < n) {Q : Bool → Shared → Prop}
    (q : ∀ h' L' es' ep' t', Heap.SameBut a s.heap h' → TabE D h' a L' es' ep' t' → L'.Perm L1 → Q true { s with heap := h' }) :
    wpAny (model P w) A (do
        storeSet a es1 t2
        if (!false && t2.tooFull) = true then setRelay a (SetTable.grown n)
        return true) Q E s := by
  have size1 : es1.size = n := by rw [rowsE_len rows1, len1]
  refine wpAny_bind (wpAny_storeSet_of ho hd ?_ (by rw [size1, sizeLine_eq]; omega))
  have but1 := Heap.SameBut.update s.heap a (Obj.putSet es1 t2)
  have ho1 := laid_at (el' := es1) (tb' := t2) ho hd
  generalize s.heap.update a (Obj.putSet es1 t2) = h1 at but1 ho1 ⊢
  have lenH : (hsE D L1).length = n := by
    unfold hsE
    rw [List.length_map, len1]
  have mok : MaskOk m0 := hm ▸ tab1.mok
  by_cases hf : t2.tooFull = true
  · first
      | (refine wpAny_bind ?_; refine wp_if_pos (by simp [hf]) ?_)
      | (refine wp_if_pos (by simp [hf]) ?_; refine wpAny_bind ?_)
    have over : n * 5 ≥ m0 * 3 := by
      have z := hf
      rw [full, decide_eq_true_eq, hm] at z
      exact z
    have sz1 : t2.place.size = es1.size := by rw [tab1.sz, lenH, size1]
    have two : (m0 = 7 ∧ n = 5) ∨ (m0 = 31 ∧ n = 19) := by
      rcases mok with e | e | e
      · exact .inl ⟨e, by omega⟩
      · exact .inr ⟨e, by omega⟩
      · exfalso
        omega
    have go : ∀ m, SetTable.sizeAbove (SetTable.grown n) - 1 = m → MaskOk m → SetTable.sizeAbove (SetTable.grown n) ≤ 128 → n * 5 < m * 3 →
        wpAny (model P w) A (setRelay a (SetTable.grown n)) (fun _ s' => wpAny (model P w) A (pure true) Q E s') E { s with heap := h1 } := fun m w1 w2 w3 w4 =>
      relay_e (s := { s with heap := h1 }) ho1 ⟨hex.1, hex.2.1, hex.2.2⟩ rfl rows1 sz1 tab1.dm (by rw [size1, hm]; rcases two with ⟨e, e2⟩ | ⟨e, e2⟩ <;> omega) nd1 led1 few1 w1 w2 w3 (by rw [len1]; exact w4)
        fun h2 L2 es2 ep2 t3 but2 R2 pm2 => wpAny_pure (q h2 L2 es2 ep2 t3 (but1.trans but2) R2 pm2)
    rcases two with ⟨_, e⟩ | ⟨_, e⟩
    · exact go 31 (by rw [e, size_20]) (.inr (.inl rfl)) (by rw [e, size_20]; decide) (by omega)
    · exact go 127 (by rw [e, size_76]) (.inr (.inr rfl)) (by rw [e, size_76]; decide) (by omega)
  · first
      | refine wp_if_neg (by simp [hf]) ?_
      | (refine wpAny_bind ?_; refine wp_if_neg (by simp [hf]) ?_; refine wpAny_pure ?_)
    refine wpAny_pure (q h1 L1 es1 (ep + 1) t2 but1 ⟨⟨_, ho1, ⟨hex.1, hex.2.1, hex.2.2⟩, rfl⟩, rows1, tab1, nd1, led1, ?_, few1⟩ (List.Perm.refl _))
    rw [full, decide_eq_true_eq] at hf
    omega
/-- adding a member -/
theorem add_e (R : TabE D s.heap a L es ep t) (all : AllE D s.heap L) (hv : D.is s.heap k v) (hr : D.room A) (few : L.length + 1 < 64) {Q : Bool → Shared → Prop}
    (q : ∀ b h' L' es' ep' t', Heap.SameBut a s.heap h' → TabE D h' a L' es' ep' t' → (k ∈ L.map (·.2) → L' = L) → (k ∉ L.map (·.2) → L'.Perm ((v, k) :: L)) → Q b { s with heap := h' }) :
    wpAny (model P w) A (setAddHashed a v (D.hash k)) Q E s := by
  obtain ⟨o, ho, hex, hd⟩ := R.ob
  have len := rowsE_len R.rows
  have room := R.room
  have slow := D.slow _ _ _ hv
  unfold setAddHashed
  refine wpAny_holding ?_
  rw [show (100000 : Nat) = 99999 + 1 from rfl, setAddHashedIn_succ]
  refine wpAny_bind (wpAny_setState_of ho hd R.fits ?_)
  dsimp only
  refine wp_if_neg (by unfold byScan; rw [slow]; simp) ?_
  try refine wpAny_bind (wpAny_pure ?_)
  refine wpAny_bind (seek_add R all hv hr (fun m => ?_) fun K n free full => ?_)
  · dsimp only
    exact wpAny_pure (q false s.heap L es ep t (Heap.SameBut.refl a s.heap) R (fun _ => rfl) fun z => absurd m z)
  dsimp only
  refine wpAny_bind (wpAny_setState_of ho hd R.fits ?_)
  dsimp only
  obtain ⟨q1, q2, q3, q4, q5, q6, q7, q8, q9⟩ := R.tab.put free full
  generalize t.put (way t.mask (D.hash k) K) = pt at q1 q3 q4 q5 q6 q7 q8 q9 ⊢
  obtain ⟨t1, pos⟩ := pt
  dsimp only at q1 q3 q4 q5 q6 q7 q8 q9 ⊢
  subst q1
  generalize hpos : SetTable.below t.place (way t.mask (D.hash k) K) = pos at q2 q3 ⊢
  have rows1 : (SetTable.insertAt es pos (D.hash k, v)).toList = rowsE D (L.take pos ++ (v, k) :: L.drop pos) := by
    rw [SetTable.toList_insertAt, R.rows]
    unfold rowsE
    rw [List.map_append, List.map_cons, List.map_take, List.map_drop]
  have perm1 : (L.take pos ++ (v, k) :: L.drop pos).Perm ((v, k) :: L) := put_perm L pos (v, k)
  have hs1 : hsE D (L.take pos ++ (v, k) :: L.drop pos) = (hsE D L).take pos ++ D.hash k :: (hsE D L).drop pos := by
    unfold hsE
    rw [List.map_append, List.map_cons, List.map_take, List.map_drop]
  rw [← hs1] at q3
  have nd1 : ((L.take pos ++ (v, k) :: L.drop pos).map (·.2)).Nodup := by
    refine (perm1.map (·.2)).nodup_iff.mpr ?_
    rw [List.map_cons]
    exact List.nodup_cons.mpr ⟨n, R.nd⟩
  have len1 : (L.take pos ++ (v, k) :: L.drop pos).length = L.length + 1 := perm1.length_eq
  have lenH : (hsE D L).length = L.length := by
    unfold hsE
    rw [List.length_map]
  rw [len]
  have fin : ∀ t2 : SetTable, TabOk t2 (hsE D (L.take pos ++ (v, k) :: L.drop pos)) → t2.mask = t.mask → t2.led = t.led → t2.tooFull = t1.tooFull →
      wpAny (model P w) A (do
        storeSet a (SetTable.insertAt es pos (D.hash k, v)) t2
        if (!false && t2.tooFull) = true then setRelay a (SetTable.grown (L.length + 1))
        return true) Q E s := fun t2 T2 e1 e2 e3 => by
    refine add_tail ho hex hd rows1 T2 nd1 (by rw [e2]; exact R.led) (by omega) len1 ?_ e1 (by simpa using room) (Nat.succ_pos _) fun h' L' es' ep' t' but R' pm => q true h' L' es' ep' t' but R' (fun z => absurd z n) fun _ => pm.trans perm1
    rw [e3, e1]
    unfold SetTable.tooFull
    rw [q9, q4, lenH]
  have T1 : TabOk { t1 with plain := false } (hsE D (L.take pos ++ (v, k) :: L.drop pos)) := ⟨q3.ris, q3.dm, q3.sz, q3.mok, q3.bd, q3.reach⟩
  by_cases hp : t1.plain = true
  · first
      | (refine wpAny_bind ?_; refine wp_if_pos hp ?_; refine D.byv hv fun b => ?_)
      | refine wp_if_pos hp (wpAny_bind (D.byv hv fun b => ?_))
    cases b with
    | true => exact fin t1 q3 q4 q5 rfl
    | false => exact fin _ T1 q4 q5 rfl
  · first
      | (refine wpAny_bind ?_; refine wp_if_neg hp ?_; refine wpAny_pure ?_)
      | refine wp_if_neg hp (wpAny_bind (wpAny_pure ?_))
    exact fin t1 q3 q4 q5 rfl
end
end Fw

/-! Sets of values that are compared by a call: set(x). -/
namespace Fw
open PySem PySem.Spec PyProof.Rows L2
section
variable {α κ : Type} [DecidableEq κ]
/-- with one more member, if there is none alike -/
def addK (l : List (α × κ)) (p : α × κ) : List (α × κ) := if p.2 ∈ l.map (·.2) then l else l ++ [p]
/-- each member at its first place -/
def dedK (ks : List (α × κ)) : List (α × κ) := ks.foldl addK []
theorem dedK_snoc (ks : List (α × κ)) (p : α × κ) : dedK (ks ++ [p]) = addK (dedK ks) p := by
  unfold dedK
  rw [List.foldl_append]
  rfl
theorem dedK_ind (c : List (α × κ) → List (α × κ) → Prop) (h0 : c [] []) (hs : ∀ ks l p, c ks l → c (ks ++ [p]) (addK l p)) (ks : List (α × κ)) : c ks (dedK ks) := by
  have gen : ∀ (r done l : List (α × κ)), c done l → c (done ++ r) (r.foldl addK l) := by
    intro r
    induction r with
    | nil => intro done l h; simpa using h
    | cons y r ih =>
      intro done l h
      have z := ih (done ++ [y]) (addK l y) (hs _ _ _ h)
      rwa [List.append_assoc] at z
  have z := gen ks [] [] h0
  rwa [List.nil_append] at z
theorem dedK_len (ks : List (α × κ)) : (dedK ks).length ≤ ks.length := dedK_ind (fun ks l => l.length ≤ ks.length) (Nat.le_refl _) (fun ks l p h => by
  unfold addK
  split
  · rw [List.length_append]
    omega
  · rw [List.length_append, List.length_append]
    exact Nat.succ_le_succ h) ks
theorem dedK_sub (ks : List (α × κ)) : ∀ p ∈ dedK ks, p ∈ ks := dedK_ind (fun ks l => ∀ p ∈ l, p ∈ ks) (fun p m => m) (fun ks l p h q m => by
  unfold addK at m
  split at m
  · exact List.mem_append_left _ (h q m)
  · exact (List.mem_append.mp m).elim (fun m => List.mem_append_left _ (h q m)) fun m => List.mem_append_right _ m) ks
theorem dedK_keys (ks : List (α × κ)) (k : κ) : k ∈ (dedK ks).map (·.2) ↔ k ∈ ks.map (·.2) := dedK_ind (fun ks l => k ∈ l.map (·.2) ↔ k ∈ ks.map (·.2)) Iff.rfl (fun ks l p h => by
  rw [List.map_append, List.mem_append, ← h]
  show _ ↔ _ ∨ k ∈ [p.2]
  rw [List.mem_singleton]
  unfold addK
  split
  · rename_i m
    exact ⟨.inl, fun z => z.elim id fun e => e ▸ m⟩
  · rw [List.map_append, List.mem_append]
    show _ ∨ k ∈ [p.2] ↔ _
    rw [List.mem_singleton]) ks
theorem dedK_nodup (ks : List (α × κ)) : ((dedK ks).map (·.2)).Nodup := dedK_ind (fun _ l => (l.map (·.2)).Nodup) List.nodup_nil (fun ks l p h => by
  unfold addK
  split
  · exact h
  · rename_i n
    rw [List.map_append]
    exact List.nodup_append.mpr ⟨h, by simp, fun x hx y hy e => n (by
      have z : y = p.2 := by simpa using hy
      rw [← z, ← e]
      exact hx)⟩) ks
theorem dedK_map {β : Type} (f : α → β) (ks : List (α × κ)) : dedK (ks.map fun p => (f p.1, p.2)) = (dedK ks).map fun p => (f p.1, p.2) := by
  refine dedK_ind (fun ks l => dedK (ks.map fun p => (f p.1, p.2)) = l.map fun p => (f p.1, p.2)) rfl (fun ks l p h => ?_) ks
  rw [List.map_append]
  show dedK (ks.map _ ++ [(f p.1, p.2)]) = _
  rw [dedK_snoc, h]
  have e : (l.map fun p => (f p.1, p.2)).map (·.2) = l.map (·.2) := by rw [List.map_map]; rfl
  unfold addK
  rw [e]
  show (if p.2 ∈ _ then _ else _) = _
  split
  · rfl
  · rw [List.map_append]
    rfl
end
section
variable {P : Program} {w : World} {κ : Type} [DecidableEq κ] (D : El P w κ)
/-- at a stands the set of these members -/
def SetE (h : Heap) (a : Addr) (l : List (Value × κ)) : Prop := ∃ L es ep t, TabE D h a L es ep t ∧ L.Perm l
variable {D} {h h' : Heap} {a : Addr} {l : List (Value × κ)}
theorem SetE.at (R : SetE D h a l) (k : ∀ u, h.get? a = some u → h'.get? a = some u) : SetE D h' a l := by
  obtain ⟨L, es, ep, t, T, p⟩ := R
  obtain ⟨o, ho, ob⟩ := T.ob
  exact ⟨L, es, ep, t, ⟨⟨o, k o ho, ob⟩, T.rows, T.tab, T.nd, T.led, T.room, T.few⟩, p⟩
theorem setE_fresh (new : h.get? a = some (newSet w)) : SetE D h a [] := by
  refine ⟨[], #[], 0, _, ⟨⟨_, new, ⟨rfl, rfl, rfl⟩, rfl⟩, rfl, ⟨List.Pairwise.nil, rfl, rfl, .inl rfl, fun x m => (by cases m), fun i x j e => (by simp [hsE] at e)⟩, List.nodup_nil, ?_, by show 0 * 5 < 7 * 3; decide, by show 0 < 64; decide⟩, List.Perm.refl _⟩
  show _ ∨ (!w.params.followText "set-order") = true
  cases w.params.followText "set-order"
  · exact .inr rfl
  · exact .inl rfl
end
section
variable {P : Program} {w : World} {κ : Type} [DecidableEq κ] {D : El P w κ} {A : Around} {E : Value → Shared → Prop} {s : Shared}
theorem setE_loop {I : Addr} {fp wr : List Addr} {G : Array GenState → Array GenState → Prop} {n : Nat} {Pv : Nat → Value → Prop} {St : Nat → Shared → Prop} {R : Result → Shared → Prop}
    (W : WalksS P w A.in1 I fp wr G n Pv St) (T : Addr) (off : T ∉ fp) (ks : List (Value × κ)) (len : n = ks.length) (few : ks.length + 1 < 64) (val : ∀ i v, Pv i v → ∃ k, ks[i]? = some (v, k))
    (h0 : Heap) (is0 : AllE D h0 ks) (nT : h0.get? T = none) (nW : ∀ b ∈ wr, h0.get? b = none) (hr : D.room A.in1) :
    ∀ (k i : Nat) (s : Shared), n - i = k → i ≤ n → St i s → (∀ b o, h0.get? b = some o → s.heap.get? b = some o) → SetE D s.heap T (dedK (ks.take i)) →
      (∀ s', Moved (T :: wr) G s s' → SetE D s'.heap T (dedK ks) → R (.ok (.ret .none)) s') →
      codeAny (model P w) A (.builtin "set.update.loop" ⟨[.ref T, .ref I], []⟩) R s := by
  have offW : T ∉ wr := fun h => off (W.sub _ h)
  have more : ∀ b ∈ wr, b ∈ T :: wr := fun b m => List.mem_cons_of_mem _ m
  have old : ∀ {s s' : Shared}, Moved wr G s s' → (∀ b o, h0.get? b = some o → s.heap.get? b = some o) → ∀ b o, h0.get? b = some o → s'.heap.get? b = some o := fun mv kp b o e =>
    mv.heap b o (fun m => by rw [nW b m] at e; cases e) (kp b o e)
  intro k
  induction k with
  | zero =>
    intro i s ek le st kp hT fin
    have ei : i = n := by omega
    subst ei
    refine codeAny_builtin PyProof.Rows.F.entry_set_update_loop ?_
    rw [Around.under_plainId PyProof.Rows.F.plain_set_update_loop _]
    show wpAny _ A.in1 (pyNext (.ref I) >>= fun _ => _) _ _ s
    refine wpAny_bind (W.done s _ _ st fun s' mv => ?_)
    show wpAny _ A.in1 (ret Value.none) _ _ s'
    rw [List.take_of_length_le (by omega)] at hT
    exact wpAny_pure (fin s' (mv.mono more) (hT.at fun u e => mv.heap T u offW e))
  | succ k ih =>
    intro i s ek le st kp hT fin
    have lt : i < n := by omega
    refine codeAny_builtin PyProof.Rows.F.entry_set_update_loop ?_
    rw [Around.under_plainId PyProof.Rows.F.plain_set_update_loop _]
    show wpAny _ A.in1 (pyNext (.ref I) >>= fun _ => _) _ _ s
    refine wpAny_bind (W.item i s _ _ lt st fun v s' pv st' mv => ?_)
    obtain ⟨x, ex⟩ := val i v pv
    have kp' := old mv kp
    have hT' : SetE D s'.heap T (dedK (ks.take i)) := hT.at fun u e => mv.heap T u offW e
    obtain ⟨L, es, ep, t, tab, pm⟩ := hT'
    have isx : D.is s'.heap x v := D.kept _ _ _ _ (is0 _ (List.mem_of_getElem? ex)) kp'
    have allL : AllE D s'.heap L := fun p m => D.kept _ _ _ _ (is0 _ (List.mem_of_mem_take (dedK_sub _ p (pm.mem_iff.mp m)))) kp'
    show wpAny _ A.in1 (holding [v] (setAdd T v) >>= fun _ => _) _ _ s'
    refine wpAny_bind (wpAny_holding ?_)
    unfold setAdd
    refine wpAny_holding ?_
    refine wpAny_bind (D.hashed hr isx ?_)
    have short : L.length + 1 < 64 := by
      have z := dedK_len (ks.take i)
      rw [List.length_take] at z
      have z2 := pm.length_eq
      omega
    refine add_e (s := { s' with toks := s'.toks + D.draws x }) tab allL isx hr short fun b h' L' es' ep' t' but tab' c1 c2 => ?_
    have new : SetE D h' T (dedK (ks.take (i + 1))) := by
      refine ⟨L', es', ep', t', tab', ?_⟩
      rw [List.take_add_one, ex]
      show L'.Perm (dedK (ks.take i ++ [(v, x)]))
      rw [dedK_snoc]
      unfold addK
      by_cases m : x ∈ L.map (·.2)
      · rw [c1 m, if_pos ((pm.map (·.2)).mem_iff.mp m)]
        exact pm
      · rw [if_neg fun z => m ((pm.map (·.2)).mem_iff.mpr z)]
        refine (c2 m).trans ((pm.cons _).trans ?_)
        exact (List.perm_append_comm (l₁ := [(v, x)])).trans (List.Perm.refl _)
    have kp2 : ∀ b o, h0.get? b = some o → h'.get? b = some o := fun b o e => (but.2 b (fun z => by rw [z, nT] at e; cases e)).trans (kp' b o e)
    refine wpAny_pure ⟨plainId_quiet PyProof.Rows.F.plain_set_update_loop _, ih (i + 1) _ (by omega) lt (W.frame _ s' _ _ st' (Nat.le_add_right _ _) fun b m u e => ?_) kp2 new fun s'' mv2 hT2 => ?_⟩
    · rw [but.2 b fun q => off (q ▸ m)]
      exact e
    · refine fin s'' (Moved.trans W.gtrans ((mv.mono more).then_heap (Nat.le_add_right _ _) fun b u m e => ?_) mv2) hT2
      rw [but.2 b fun q => m (q ▸ List.mem_cons_self)]
      exact e
end
end Fw

/-! Sets of values that are compared by a call: the call of set. -/
namespace Fw
open PySem PySem.Spec PyProof.Rows L2
section
variable {P : Program} {w : World} {κ : Type} [DecidableEq κ] {D : El P w κ} {A : Around} {E : Value → Shared → Prop} {s : Shared}
set_option maxHeartbeats 8000000 in
/-- set(x), x a list or a tuple of such values -/
theorem call_setE {T : String} {l : Addr} {items : Array Value} (ks : List (Value × κ)) {Q : Value → Shared → Prop} (kind : (T = "list" ∧ s.heap.IsList l items) ∨ (T = "tuple" ∧ s.heap.IsTuple l items)) (hd : A.handled = none) (hit : items.toList = ks.map (·.1)) (few : ks.length + 1 < 64) (isk : AllE D s.heap ks) (hr : D.room A.in1.in1.in1)
    (fin : ∀ (h' : Heap) (tk : Nat), SetE D h' s.heap.objs.size (dedK ks) → (∀ b u, s.heap.get? b = some u → h'.get? b = some u) → Q (.ref s.heap.objs.size) { s with heap := h', toks := tk }) :
    wpAny (model P w) A (call (.type "set") [.ref l]) Q E s := by
  have size : items.size = ks.length := by
    rw [← Array.length_toList, hit, List.length_map]
  obtain ⟨c, tl, hmro⟩ := PySem.F.called_set.mro
  have made := PySem.F.called_set.made
  have sub := PySem.F.called_set.sub
  refine wpAny_call (codeAny_of_tree ?_)
  show wpAny _ _ (callAny (.type "set") _) _ _ s
  refine wpAny_pure ⟨Code.quiet_builtin _ (by decide +kernel), codeAny_builtin PySem.F.entry_type_call ?_⟩
  rw [Around.under_plain (weight_type_call_type "set" [.ref l] []) rfl]
  have notT := PySem.F.called_set.notType
  have can := PySem.F.called_set.canCreate
  have tc := PySem.F.typeCall_set_1 (.ref l)
  repeat (any_goals (first | assumption | wp_step))
  refine codeAny_mono (code_set_led1 (.ref l) (E := E) (Q₁ := fun obj s1 => obj = .ref s.heap.objs.size ∧ s1 = { s with heap := s.heap.push (newSet w) }) ⟨rfl, rfl⟩) fun r s1 hr => ?_
  cases r with
  | error e => exact hr
  | ok fl =>
    cases fl with
    | ret obj =>
      obtain ⟨rfl, rfl⟩ := hr
      have atT : (s.heap.push (newSet w)).get? s.heap.objs.size = some (newSet w) := Heap.get?_push_size _ rfl
      have isT : Shared.TypeIs { s with heap := s.heap.push (newSet w) } (.ref s.heap.objs.size) "set" := ⟨_, atT, rfl⟩
      have look := PySem.F.called_set.init.lookup
      have bind := PySem.F.called_set.init.bind (.ref s.heap.objs.size)
      repeat (any_goals (first | assumption | wp_step))
      refine codeAny_mono (codeAny_call_builtin (R := wants (fun r s2 => r = .none ∧ ∃ h' tk, s2 = { s with heap := h', toks := tk } ∧ SetE D h' s.heap.objs.size (dedK ks) ∧
          (∀ b u, s.heap.get? b = some u → h'.get? b = some u)) E) PySem.F.called_set.init.plain PySem.F.entry_set_init (check_set_init_1 isT ?_)) fun r2 s2 hr2 => ?_
      · have lt0 : l < s.heap.objs.size := by
          rcases kind with ⟨_, ⟨u, e, _⟩⟩ | ⟨_, ⟨u, e, _⟩⟩ <;> exact Heap.lt_size e
        have h3 : A.in1.in1.in1.handled = none := by simp [hd]
        have neI : l ≠ (s.heap.push (newSet w)).objs.size := by
          rw [Heap.size_push]
          exact Nat.ne_of_lt (Nat.lt_succ_of_lt lt0)
        have offT : s.heap.objs.size ∉ [(s.heap.push (newSet w)).objs.size, l] := by
          rw [Heap.size_push]
          simp only [List.mem_cons, List.not_mem_nil, or_false, not_or]
          exact ⟨Nat.ne_of_lt (Nat.lt_succ_self _), fun z => absurd lt0 (by rw [z]; exact Nat.lt_irrefl _)⟩
        have val : ∀ (i : Nat) (v : Value), items[i]? = some v → ∃ k, ks[i]? = some (v, k) := fun i v hv => by
          rw [← Array.getElem?_toList, hit, List.getElem?_map] at hv
          cases e : ks[i]? with
          | none => rw [e] at hv; cases hv
          | some p =>
            rw [e] at hv
            obtain ⟨x, y⟩ := p
            exact ⟨y, by rw [← Option.some.inj hv]⟩
        rcases kind with ⟨_, hl⟩ | ⟨_, hl⟩
        · obtain ⟨ob, hob, cl, nl, dl⟩ := hl
          obtain ⟨kls, dct, dat, slt⟩ := ob
          simp only at cl dl
          subst cl dl
          have hob' : (s.heap.push (newSet w)).get? l = some { cls := .type "list", dict := dct, data := .seq items nl, slots := slt } := Heap.get?_push_of_some _ hob
          have s1 := PySem.F.sub_list_set
          have s2 := PySem.F.sub_list_frozenset
          have s3 : (Value.type "list" == Value.type "dict") = false := by decide
          have hl1 : (s.heap.push (newSet w)).IsList l items := ⟨_, hob', rfl, nl, rfl⟩
          unfold Builtin.«set.__init__» noKeywords Builtin.Frozenset.updateFrom
          generalize ePI : pyIter = PI
          wp_walk
          subst ePI
          refine wpAny_pyIter_list hl1 ?_
          refine wpAny_bind (wpAny_runValue ?_)
          refine setE_loop ((Walks.list h3 _ l neI items).toS) s.heap.objs.size offT ks size few val s.heap isk (Heap.get?_none_of_le (Nat.le_refl _)) (fun b m => by simp only [List.mem_cons, List.not_mem_nil, or_false] at m; rw [m]; exact Heap.get?_none_of_le (by rw [Heap.size_push]; omega)) hr (items.size - 0) 0 _ (by omega) (Nat.zero_le _) ⟨⟨_, Heap.get?_push_size _ rfl, rfl, rfl⟩, hl1.push _⟩ (fun b u e => Heap.get?_push_of_some _ (Heap.get?_push_of_some _ e)) (setE_fresh (Heap.get?_push_of_some _ atT)) fun s' mv hT => ?_
          obtain ⟨h', g', d', tk', os'⟩ := s'
          have eg : g' = s.gens := mv.gens
          have ed : d' = s.drawn := mv.drawn
          have eo : os' = s.os := mv.os
          subst eg ed eo
          show wpAny _ _ (pure ()) _ _ _
          refine wpAny_pure ?_
          show wpAny _ _ (ret Value.none) _ _ _
          refine wpAny_pure ⟨rfl, h', tk', rfl, hT, fun b u e => ?_⟩
          have lt := Heap.lt_size e
          refine mv.heap b u ?_ (Heap.get?_push_of_some _ (Heap.get?_push_of_some _ e))
          rw [Heap.size_push]
          simp only [List.mem_cons, List.not_mem_nil, or_false, not_or]
          exact ⟨Nat.ne_of_lt lt, Nat.ne_of_lt (Nat.lt_succ_of_lt lt)⟩
        · obtain ⟨ob, hob, cl, nl, dl⟩ := hl
          obtain ⟨kls, dct, dat, slt⟩ := ob
          simp only at cl dl
          subst cl dl
          have hob' : (s.heap.push (newSet w)).get? l = some { cls := .type "tuple", dict := dct, data := .seq items nl, slots := slt } := Heap.get?_push_of_some _ hob
          have s1 := PySem.F.sub_tuple_set
          have s2 := PySem.F.sub_tuple_frozenset
          have s3 : (Value.type "tuple" == Value.type "dict") = false := by decide
          have hl1 : (s.heap.push (newSet w)).IsTuple l items := ⟨_, hob', rfl, nl, rfl⟩
          unfold Builtin.«set.__init__» noKeywords Builtin.Frozenset.updateFrom
          generalize ePI : pyIter = PI
          wp_walk
          subst ePI
          refine wpAny_pyIter_tuple hl1 ?_
          refine wpAny_bind (wpAny_runValue ?_)
          refine setE_loop ((Walks.tuple h3 _ l neI items).toS) s.heap.objs.size offT ks size few val s.heap isk (Heap.get?_none_of_le (Nat.le_refl _)) (fun b m => by simp only [List.mem_cons, List.not_mem_nil, or_false] at m; rw [m]; exact Heap.get?_none_of_le (by rw [Heap.size_push]; omega)) hr (items.size - 0) 0 _ (by omega) (Nat.zero_le _) ⟨⟨_, Heap.get?_push_size _ rfl, rfl, rfl⟩, hl1.push _⟩ (fun b u e => Heap.get?_push_of_some _ (Heap.get?_push_of_some _ e)) (setE_fresh (Heap.get?_push_of_some _ atT)) fun s' mv hT => ?_
          obtain ⟨h', g', d', tk', os'⟩ := s'
          have eg : g' = s.gens := mv.gens
          have ed : d' = s.drawn := mv.drawn
          have eo : os' = s.os := mv.os
          subst eg ed eo
          show wpAny _ _ (pure ()) _ _ _
          refine wpAny_pure ?_
          show wpAny _ _ (ret Value.none) _ _ _
          refine wpAny_pure ⟨rfl, h', tk', rfl, hT, fun b u e => ?_⟩
          have lt := Heap.lt_size e
          refine mv.heap b u ?_ (Heap.get?_push_of_some _ (Heap.get?_push_of_some _ e))
          rw [Heap.size_push]
          simp only [List.mem_cons, List.not_mem_nil, or_false, not_or]
          exact ⟨Nat.ne_of_lt lt, Nat.ne_of_lt (Nat.lt_succ_of_lt lt)⟩
      · cases r2 with
        | error e => exact hr2
        | ok fl2 =>
          cases fl2 with
          | ret r =>
            obtain ⟨rfl, h', tk, rfl, hT, kept⟩ := hr2
            repeat (any_goals (first | assumption | wp_step))
            exact fin _ _ hT kept
          | _ => exact hr2.elim
    | _ => exact hr.elim
end
end Fw

/-! Tuples of texts as members of a set. -/
namespace Fw
open PySem PySem.Spec PyProof.Rows L2
section
variable {P : Program} {w : World} {A : Around} {E : Value → Shared → Prop} {s : Shared}
abbrev TxT (P : Program) (w : World) (h : Heap) (k : List Str) (b : Addr) : Prop := IsTupleKey (strKind P w) h k b
theorem txItems {k : List Str} {vs : List Value} (h : ItemsAre (strKind P w) k vs) : ∀ v ∈ vs, ∃ x t, v = Value.str x t := by
  induction h with
  | nil => exact fun v m => by cases m
  | @cons x u ks us e _ ih =>
    intro v m
    rcases List.mem_cons.mp m with z | m
    · obtain ⟨t, e2⟩ := Value.isStrOf_shape e
      exact ⟨x, t, z.trans e2⟩
    · exact ih v m
theorem text_cls (n : Nat) (x : Str) (t : Tok) : ofAClassStatement n (.str x t) = pure false := by cases n <;> rfl
theorem text_val (n : Nat) (x : Str) (t : Tok) : hashByValue n (.str x t) = pure false := hashByValue_scannable (x := .str x t) n rfl
/-- a tuple of texts is of no class statement -/
theorem txt_cls {k : List Str} {b : Addr} {Q : Bool → Shared → Prop} (hk : TxT P w s.heap k b) (q : Q false s) : wpAny (model P w) A (ofAClassStatement 8 (.ref b)) Q E s := by
  have ty := hk.typeIs
  obtain ⟨o, its, n, ho, _, hd, hi⟩ := hk
  unfold ofAClassStatement
  refine wpAny_bind (wpAny_typeOf ty ?_)
  dsimp only
  have e : (("tuple" : String) == "tuple") = true := by decide
  simp only [e, if_true, Bool.not_true, Bool.false_eq_true, if_false]
  try refine wpAny_bind (wpAny_pure ?_)
  try simp only [Bool.not_true, Bool.false_eq_true, if_false]
  show wpAny _ _ (seqItems? (.ref b) >>= fun _ => _) _ _ s
  refine wpAny_bind (wpAny_seqItems ho hd ?_)
  dsimp only
  refine wpAny_bind ?_
  show wpAny _ _ (forIn its _ _) _ _ s
  rw [← Array.forIn_toList]
  refine wpAny_forIn_list _ (fun rest r s' => r.1 = none ∧ s' = s ∧ ∀ v ∈ rest, ∃ x t, v = Value.str x t) _ ?_ ?_ _ _ ⟨rfl, rfl, txItems hi⟩
  · rintro v rest r s' ⟨hr, rfl, each⟩
    obtain ⟨x, t, rfl⟩ := each v List.mem_cons_self
    rw [text_cls]
    refine wpAny_bind (wpAny_pure ?_)
    simp only [Bool.false_eq_true, if_false]
    exact wpAny_pure ⟨rfl, rfl, fun u m => each u (List.mem_cons_of_mem _ m)⟩
  · rintro ⟨r1, r2⟩ s' ⟨hr, rfl, _⟩
    simp only at hr
    subst hr
    exact wpAny_pure q
theorem txt_val {k : List Str} {b : Addr} {Q : Bool → Shared → Prop} (hk : TxT P w s.heap k b) (q : ∀ r, Q r s) : wpAny (model P w) A (hashByValue 8 (.ref b)) Q E s := by
  have ty := hk.typeIs
  obtain ⟨o, its, n, ho, _, hd, hi⟩ := hk
  unfold hashByValue
  refine wpAny_bind (wpAny_specialOf ty PySem.F.slot_tuple_hash.lookup ?_)
  show wpAny _ _ (seqItems? (.ref b) >>= fun _ => _) _ _ s
  refine wpAny_bind (wpAny_seqItems ho hd ?_)
  refine wpAny_bind ?_
  show wpAny _ _ (forIn its _ _) _ _ s
  rw [← Array.forIn_toList]
  refine wpAny_forIn_list _ (fun rest r s' => s' = s ∧ (r.1 = none ∨ r.1 = some false) ∧ ∀ v ∈ rest, ∃ x t, v = Value.str x t) _ ?_ ?_ _ _ ⟨rfl, .inl rfl, txItems hi⟩
  · rintro v rest r s' ⟨rfl, hr, each⟩
    obtain ⟨x, t, rfl⟩ := each v List.mem_cons_self
    rw [text_val]
    refine wpAny_bind (wpAny_pure ?_)
    simp only [Bool.not_false, if_true]
    refine wpAny_pure ?_
    show wpAny _ _ (pure false) _ _ _
    exact wpAny_pure (q _)
  · rintro ⟨r1, r2⟩ s' ⟨rfl, hr, _⟩
    simp only at hr
    rcases hr with hr | hr
    · subst hr
      exact wpAny_pure (q _)
    · subst hr
      show wpAny _ _ (pure false) _ _ _
      exact wpAny_pure (q _)
theorem txt_seen {k : List Str} {b : Addr} {ys : List Value} {Q : Bool → Shared → Prop} (hk : TxT P w s.heap k b) (hy : ∀ y ∈ ys, ∃ j c, y = Value.ref c ∧ TxT P w s.heap j c) (q : Q false s) : wpAny (model P w) A (searchCouldBeSeen (.ref b) ys) Q E s := by
  unfold searchCouldBeSeen
  refine wpAny_bind ?_
  refine wpAny_forIn_list _ (fun rest r s' => r.1 = none ∧ s' = s ∧ ∀ y ∈ rest, ∃ j c, y = Value.ref c ∧ TxT P w s.heap j c) _ ?_ ?_ _ _ ⟨rfl, rfl, hy⟩
  · rintro v rest r s' ⟨hr, rfl, each⟩
    obtain ⟨j, c, rfl, hc⟩ := each v List.mem_cons_self
    have later : ∀ y ∈ rest, ∃ j c, y = Value.ref c ∧ TxT P w s'.heap j c := fun u m => each u (List.mem_cons_of_mem _ m)
    dsimp only
    by_cases e : (b == c || (carriedByValue (.ref b) && carriedByValue (.ref c))) = true
    · exact wp_if_pos e (wpAny_pure ⟨rfl, rfl, later⟩)
    · refine wp_if_neg e (wpAny_bind (wpAny_eqIsQuiet_tuple hk ?_))
      simp only [Bool.not_true, Bool.false_eq_true, if_false]
      refine wpAny_bind (wpAny_eqIsQuiet_tuple hc ?_)
      simp only [Bool.not_true, Bool.false_eq_true, if_false]
      refine wpAny_bind (txt_cls hk ?_)
      simp only [Bool.false_eq_true, if_false]
      refine wpAny_bind (txt_cls hc ?_)
      simp only [Bool.false_eq_true, if_false]
      exact wpAny_pure ⟨rfl, rfl, later⟩
  · rintro ⟨r1, r2⟩ s' ⟨hr, rfl, _⟩
    simp only at hr
    subst hr
    exact wpAny_pure q
end
/-- the kind of a tuple of texts -/
def txE (P : Program) (w : World) : El P w (List Str) where
  is := fun h k v => ∃ b, v = .ref b ∧ TxT P w h k b
  hash := tupleKeyHash (strKind P w)
  room := fun A => A.units < cLine
  eq := fun hu ⟨b, e1, h1⟩ ⟨c, e2, h2⟩ q => by
    subst e1 e2
    exact wpAny_eqBool_tuple hu h1 h2 q
  seen := fun ⟨b, e1, h1⟩ hy q => by
    subst e1
    exact txt_seen h1 hy q
  byv := fun ⟨b, e1, h1⟩ q => by
    subst e1
    exact txt_val h1 q
  self_ := fun ⟨b, e1, h1⟩ q => by
    subst e1
    exact wpAny_isSame_ref_self q
  slow := fun _ _ _ ⟨b, e1, _⟩ => by
    subst e1
    rfl
  draws := fun k => k.length + 1
  hashed := fun hu ⟨b, e1, h1⟩ q => by
    subst e1
    exact wpAny_pyHash_tuple hu h1 q
  kept := fun h h' k v ⟨b, e1, o, its, n, ho, r⟩ keep => ⟨b, e1, o, its, n, keep b o ho, r⟩
end Fw

/-! Small things: comprehensions over a text's signs, lists of texts compared. -/
namespace Fw
open PySem PySem.Spec PyProof.Rows L2
theorem lcSigns {x : Str} {g : TG} {tt : TT} {te : TE} {vs : List Nat} {σ : L2.St} {H1 : Hp} {D : Addr} {Qd : Hp → Prop} (Pv : Nat → Hp → Prop) (first_ : Pv 0 (upd H1 D (.lst [])))
    (turn : ∀ i c H, x.cps[i]? = some c → Pv i H → g (.str ⟨#[c]⟩) (wipe σ vs) H fun σ2 H2 => wipe σ2 vs = wipe σ vs ∧ tt σ2 H2 fun b H3 =>
      if b = true then te σ2 H3 fun y H4 => ∃ acc, H4 D = some (.lst acc) ∧ acc.length < sizeLine ∧ Pv (i + 1) (upd H4 D (.lst (acc ++ [y]))) else Pv (i + 1) H3) (last : ∀ H, Pv x.cps.size H → Qd H) :
    ∃ W : Nat → Nat → Hp → Prop, (∃ m, W 0 m (upd H1 D (.lst []))) ∧ ∀ i m H, W i m H →
      ((Its x).stop i H ∧ Qd H) ∨ ((Its x).go i H ∧ ∃ Nx : Hp → Prop, (∀ H', Nx H' → ∃ m', m' < m ∧ W (i + 1) m' H') ∧ ∀ z H', (Its x).yld i H z H' → g z (wipe σ vs) H' fun σ2 H2 => wipe σ2 vs = wipe σ vs ∧ tt σ2 H2 fun b H3 =>
        if b = true then te σ2 H3 fun y H4 => ∃ acc, H4 D = some (.lst acc) ∧ acc.length < sizeLine ∧ Nx (upd H4 D (.lst (acc ++ [y]))) else Nx H3) := by
  refine ⟨fun i m H => m = x.cps.size - i ∧ i ≤ x.cps.size ∧ Pv i H, ⟨x.cps.size, rfl, Nat.zero_le _, first_⟩, fun i m H hW => ?_⟩
  obtain ⟨e, le, p⟩ := hW
  by_cases c : i < x.cps.size
  · refine .inr ⟨c, fun H' => Pv (i + 1) H', fun H' q => ⟨x.cps.size - (i + 1), by omega, rfl, by omega, q⟩, fun z H' hz => ?_⟩
    obtain ⟨eH, k, hk, ez⟩ := hz
    subst eH ez
    exact turn i k _ hk p
  · have ei : i = x.cps.size := by omega
    subst ei
    exact .inl ⟨Nat.le_refl _, last H p⟩
/-! ### lists of texts as data -/
theorem dpT {K : PySem.W.Frag} {H : Hp} : ∀ ys : List Str, DpAll K H (ys.map V.str) (ys.map PyData.str)
  | [] => .nil
  | y :: ys => .cons (.str y) (dpT ys)
theorem layT : ∀ ys : List Str, (∀ y ∈ ys, PyData.strOk y = true) → PyData.canLayAll0 (ys.map PyData.str) = true ∧ PyData.depthAll (ys.map PyData.str) = 0
  | [], _ => ⟨rfl, rfl⟩
  | y :: ys, h => by
    obtain ⟨a, b⟩ := layT ys fun z m => h z (List.mem_cons_of_mem _ m)
    have c := h y List.mem_cons_self
    constructor
    · show (PyData.strOk y && PyData.canLayAll0 (ys.map PyData.str)) = true
      rw [a, c]
      rfl
    · show max 0 (PyData.depthAll (ys.map PyData.str)) = 0
      rw [b]
      rfl
theorem shapedT {ys : List Str} (h : ∀ y ∈ ys, PyData.strOk y = true) : SeqAt.shaped (.list (ys.map PyData.str)) = true := by
  obtain ⟨a, b⟩ := layT ys h
  show (PyData.canLayAll0 (ys.map PyData.str) && decide (PyData.depthAll (ys.map PyData.str) + 1 ≤ 64)) = true
  rw [a, b]
  rfl
theorem eqv_nilT (ys : List Str) : PyData.eqv (.list (ys.map PyData.str)) (.list []) = ys.isEmpty := by
  cases ys <;> rfl
end Fw

/-! The rules of sets of tuples of texts: made, their length, sorted. -/
namespace Fw
open PySem PySem.Spec PyProof.Rows L2
/-! ### the order of tuples of texts -/
def kT (k : List Str) : List (Int ⊕ List Nat) := k.map fun x => Sum.inr x.cps.toList
/-- j before k -/
def ltT (j k : List Str) : Bool := lexLt itemOrd (kT j) (kT k)
theorem kT_inj : ∀ {j k : List Str}, kT j = kT k → j = k
  | [], [], _ => rfl
  | [], _ :: _, h => by cases h
  | _ :: _, [], h => by cases h
  | x :: j, y :: k, h => by
    have a : (Sum.inr x.cps.toList : Int ⊕ List Nat) = Sum.inr y.cps.toList := (List.cons.inj h).1
    have b : x.cps = y.cps := Array.toList_inj.mp (Sum.inr.inj a)
    have c : x = y := by
      cases x
      cases y
      simp only [Str.mk.injEq]
      exact b
    rw [c, kT_inj (List.cons.inj h).2]
theorem ltT_irrefl (k : List Str) : ltT k k = false := lex_irrefl _
theorem ltT_trans {a b c : List Str} (h1 : ltT a b = true) (h2 : ltT b c = true) : ltT a c = true := lex_trans _ _ _ h1 h2
theorem ltT_total {a b : List Str} (h1 : ltT a b = false) (h2 : ltT b a = false) : a = b := kT_inj (lex_total _ _ h1 h2)
/-- such a set at a: each member's address and its texts -/
def SetPO (P : Program) (w : World) (a : Addr) (l : List (Addr × List Str)) : HO := .ext fun h => SetE (txE P w) h a (l.map fun p => (Value.ref p.1, p.2))
theorem setPO_new {P : Program} {w : World} {H : Hp} {h : Heap} {a : Addr} {l : List (Addr × List Str)} (R : SetE (txE P w) h a (l.map fun p => (Value.ref p.1, p.2))) : ObjOk P w H h a (SetPO P w a l) := by
  have ⟨_, _, _, _, T, _⟩ := R
  obtain ⟨ob, hob, _⟩ := T.ob
  exact ⟨R, ⟨ob, hob⟩, fun h1 h2 p k => SetE.at p k⟩
section
variable {X : Cx} {pins : List (Addr × Obj)} {σ : L2.St} {H : Hp} {s : Shared} {a : Addr} {l : List (Addr × List Str)}
theorem setPO_get (I : Inv X pins σ H s) (ha : H a = some (SetPO X.prog X.w a l)) : SetE (txE X.prog X.w) s.heap a (l.map fun p => (Value.ref p.1, p.2)) := (I.hok a _ ha).1
theorem items_txt {P : Program} {w : World} : ∀ {k : List Str} {us : List Value}, Vals (k.map V.str) us → ItemsAre (strKind P w) k us
  | [], us, r => by
    cases r
    exact .nil
  | x :: k, us, r => by
    cases r with
    | cons r1 r2 =>
      obtain ⟨t, rfl⟩ := r1
      exact .cons (strKind_is P w x t) (items_txt r2)
/-- what stands for a tuple of texts -/
theorem txT_of (I : Inv X pins σ H s) {k : List Str} {b : Addr} (h : Rd H b (.tup (k.map V.str))) : TxT X.prog X.w s.heap k b := by
  obtain ⟨_, its, r, o, h1, h2, n, h3⟩ := (show ObjOk X.prog X.w H s.heap b (.tup (k.map V.str)) from h.ok I.hok)
  exact ⟨o, its.toArray, n, h1, h2, h3, by simpa using items_txt r⟩
theorem vals_refsP : ∀ (ks : List (Addr × List Str)), Vals (ks.map fun p => V.ref p.1) (ks.map fun p => Value.ref p.1)
  | [] => .nil
  | p :: ks => .cons (show RelV (.ref p.1) (.ref p.1) from rfl) (vals_refsP ks)
theorem vals_refsP_inv : ∀ (ks : List (Addr × List Str)) {us : List Value}, Vals (ks.map fun p => V.ref p.1) us → us = ks.map fun p => Value.ref p.1
  | [], us, r => by
    cases r
    rfl
  | p :: ks, us, r => by
    cases r with
    | cons r1 r2 =>
      cases r1
      rw [vals_refsP_inv ks r2]
      rfl
end
section
variable {X : Cx}
/-- set(x), x a list or a tuple of tuples of texts -/
def rSetP (K : PySem.W.Frag) (P : Program) (w : World) : List V → Hp → VK → Prop := fun vs H Q => ∃ (p : Addr) (ks : List (Addr × List Str)), vs = [V.ref p] ∧ (SqL K H p (ks.map fun k => V.ref k.1) ∨ SqT K H p (ks.map fun k => V.ref k.1)) ∧
  (∀ k ∈ ks, Rd H k.1 (.tup (k.2.map V.str))) ∧ ks.length ≤ 62 ∧ ∀ q, H q = none → Q (.ref q) (upd H q (SetPO P w q (dedK ks)))
theorem cr_setP (hc : X.calm = true) (hu : X.A.units + 64 < cLine) : CallR X (.type "set") (rSetP X.K X.prog X.w) := by
  intro pins s σ H vs us Q I r z
  obtain ⟨p, ks, rfl, hp, tup, few, q⟩ := z
  rw [Vals.ref1 r]
  have new : H s.heap.objs.size = none := I.hok.fresh (Nat.le_refl _)
  have room : (txE X.prog X.w).room X.A.in1.in1.in1 := by
    show X.A.units + 1 + 1 + 1 < cLine
    omega
  have isk : AllE (txE X.prog X.w) s.heap (ks.map fun p => (Value.ref p.1, p.2)) := fun x m => by
    obtain ⟨k, mk, rfl⟩ := List.mem_map.mp m
    exact ⟨k.1, rfl, txT_of I (tup k mk)⟩
  have firsts : (ks.map fun p => ((Value.ref p.1, p.2) : Value × List Str)).map (·.1) = ks.map fun p => Value.ref p.1 := by
    rw [List.map_map]
    rfl
  have few' : (ks.map fun p => ((Value.ref p.1, p.2) : Value × List Str)).length + 1 < 64 := by
    rw [List.length_map]
    omega
  have last : ∀ (h' : Heap) (tk : Nat), SetE (txE X.prog X.w) h' s.heap.objs.size (dedK (ks.map fun p => ((Value.ref p.1, p.2) : Value × List Str))) → (∀ b u, s.heap.get? b = some u → h'.get? b = some u) → EP X pins σ Q (.ref s.heap.objs.size) { s with heap := h', toks := tk } := fun h' tk R k => by
    rw [dedK_map (fun a => Value.ref a) ks] at R
    exact ⟨.ref s.heap.objs.size, upd H s.heap.objs.size (SetPO X.prog X.w s.heap.objs.size (dedK ks)), I.laid (t' := tk) k (Nat.le_refl _) (setPO_new R), rfl, q _ new⟩
  rcases hp with hp | hp
  · obtain ⟨its, rv, pl, _⟩ := I.list hp
    exact call_setE (T := "list") (items := its.toArray) _ (.inl ⟨rfl, pl.isList⟩) (I.ok.hd hc) (by rw [firsts, ← vals_refsP_inv ks rv]) few' isk room last
  · obtain ⟨its, rv, pl, _⟩ := I.tuple hp
    exact call_setE (T := "tuple") (items := its.toArray) _ (.inr ⟨rfl, pl⟩) (I.ok.hd hc) (by rw [firsts, ← vals_refsP_inv ks rv]) few' isk room last
/-- len of such a set -/
def rLenP (P : Program) (w : World) : List V → Hp → VK → Prop := fun vs H Q => ∃ (p : Addr) (l : List (Addr × List Str)), vs = [V.ref p] ∧ H p = some (SetPO P w p l) ∧ Q (.int (l.length : Int)) H
theorem cr_lenP : CallR X (.builtin "len") (rLenP X.prog X.w) := by
  intro pins s σ H vs us Q I r z
  obtain ⟨p, l, rfl, hp, q⟩ := z
  rw [Vals.ref1 r]
  obtain ⟨L, es, ep, t, T, pm⟩ := setPO_get I hp
  obtain ⟨ob, hob, xs, dat⟩ := T.ob
  have n : es.size = l.length := by rw [rowsE_len T.rows, pm.length_eq, List.length_map]
  have few := T.few
  refine call_len_set hob xs dat T.fits ?_ ⟨.int l.length, H, I.tok _, ⟨_, by rw [n]⟩, q⟩
  rw [rowsE_len T.rows]
  omega
end
end Fw

/-! sorted(x), x a set, a list or a tuple of tuples of texts. -/
namespace Fw
open PySem PySem.Spec PyProof.Rows L2
abbrev allT : Nat → Bool := fun _ => true
section
variable {P : Program} {w : World} {h : Heap}
theorem tupItems_txt : ∀ {k : List Str} {us : List Value} (i : Nat), ItemsAre (strKind P w) k us → tupItems allT i us = some (kT k)
  | [], _, i, .nil => rfl
  | x :: k, _, i, .cons e r => by
    obtain ⟨t, rfl⟩ := Value.isStrOf_shape e
    show (if allT i = true then (tupItems allT (i + 1) _).map (Sum.inr x.cps.toList :: ·) else none) = _
    rw [if_pos rfl, tupItems_txt (i + 1) r]
    rfl
theorem keyC_txt {k : List Str} {b : Addr} (T : TxT P w h k b) : G.tupKeyC h allT (.ref b) = some (kT k) := by
  obtain ⟨o, its, n, ho, hc, hd, hi⟩ := T
  have e1 : G.isTupObj h (.ref b) = true := by
    simp only [G.isTupObj, ho, hc]
    rfl
  unfold G.tupKeyC
  rw [if_pos e1]
  simp only [tupKey, ho, hd]
  exact tupItems_txt 0 hi
theorem tupOf_txt {k : List Str} {b : Addr} (T : TxT P w h k b) (ne : k ≠ []) : ∃ f, TupOf h allT (.ref b) f := by
  obtain ⟨o, its, n, ho, hc, hd, hi⟩ := T
  cases e : its.toList with
  | nil =>
    rw [e] at hi
    cases hi
    exact absurd rfl ne
  | cons v r =>
    rw [e] at hi
    cases hi with
    | @cons x _ ks _ a b =>
      obtain ⟨t, rfl⟩ := Value.isStrOf_shape a
      refine ⟨Value.str x t, _, o, its, n, rfl, ho, hc, hd, ?_, fun z => absurd (show true = false from z) (by decide), fun _ => ⟨x, t, rfl⟩⟩
      rw [← Array.getElem?_toList, e]
      rfl
theorem tupsOf_txt : ∀ (l : List (Addr × List Str)), (∀ p ∈ l, TxT P w h p.2 p.1 ∧ p.2 ≠ []) → ∃ fs, TupsOf h allT (l.map fun p => Value.ref p.1) fs
  | [], _ => ⟨_, .nil⟩
  | p :: l, H => by
    obtain ⟨T, ne⟩ := H p List.mem_cons_self
    obtain ⟨f, F⟩ := tupOf_txt T ne
    obtain ⟨fs, FS⟩ := tupsOf_txt l fun q m => H q (List.mem_cons_of_mem _ m)
    exact ⟨_, .cons F FS⟩
theorem zip_self_map {α β : Type} (f : α → β) : ∀ l : List α, (l.map f).zip (l.map f) = l.map fun p => (f p, f p)
  | [] => rfl
  | p :: l => by
    rw [List.map_cons, List.zip_cons_cons, zip_self_map f l]
    rfl
/-- what the sort leaves -/
theorem sorted_txt {l : List (Addr × List Str)} (ok : ∀ p ∈ l, TxT P w h p.2 p.1) {arr : Array Keyed} (pm : arr.Perm (pairsOf (l.map fun p => Value.ref p.1))) (so : SortedToK (G.tupKindC h allT) arr (pairsOf (l.map fun p => Value.ref p.1)).size) :
    ∃ ys : List (Addr × List Str), ys.Perm l ∧ (arr.map (·.2)).toList = ys.map (fun p => Value.ref p.1) ∧ ys.Pairwise (fun p q => ltT q.2 p.2 = false) := by
  have pl : arr.toList.Perm (l.map fun p => (Value.ref p.1, Value.ref p.1)) := by
    have z := Array.perm_iff_toList_perm.mp pm
    rwa [pairsOf_toList, zip_self_map] at z
  obtain ⟨ys, py, ey⟩ := perm_lift (fun p : Addr × List Str => ((Value.ref p.1, Value.ref p.1) : Keyed)) pl l rfl
  refine ⟨ys, py, ?_, ?_⟩
  · rw [Array.toList_map, ← ey, List.map_map]
    rfl
  · rw [List.pairwise_iff_getElem]
    intro i j hi hj hij
    have key : ∀ (i : Nat) (hi : i < ys.length), KK (G.tupKindC h allT) arr i = kT (ys[i]).2 := fun i hi => by
      have e : arr[i]? = some (Value.ref (ys[i]).1, Value.ref (ys[i]).1) := by
        rw [← Array.getElem?_toList, ← ey, List.getElem?_map, List.getElem?_eq_getElem hi]
        rfl
      have kk := keyC_txt (ok ys[i] (py.mem_iff.mp (List.getElem_mem hi)))
      unfold KK
      rw [e]
      show (G.tupKeyC h allT (Value.ref (ys[i]).1)).getD [] = _
      rw [kk]
      rfl
    have sz : j < (pairsOf (l.map fun p => Value.ref p.1)).size := by
      rw [pairsOf_size, List.length_map, ← py.length_eq]
      exact hj
    have z := so i j (Nat.le_of_lt hij) sz
    rw [key i hi, key j hj] at z
    exact z
/-- without two alike -/
theorem strict_txt {ys : List (Addr × List Str)} (nd : (ys.map (·.2)).Nodup) (so : ys.Pairwise (fun p q => ltT q.2 p.2 = false)) : ys.Pairwise (fun p q => ltT p.2 q.2 = true) := by
  have nd' : ys.Pairwise fun p q => p.2 ≠ q.2 := List.pairwise_map.mp nd
  refine (nd'.and so).imp fun {p q} z => ?_
  cases e : ltT p.2 q.2 with
  | true => rfl
  | false => exact absurd (ltT_total e z.2) z.1
end
section
variable {P : Program} {w : World} {A : Around} {E : Value → Shared → Prop} {s : Shared} {a : Addr} {l : List (Addr × List Str)}
theorem sorted_setE {Q : Value → Shared → Prop} (R : SetE (txE P w) s.heap a (l.map fun p => (Value.ref p.1, p.2))) (hd : A.handled = none) (ok : ∀ p ∈ l, TxT P w s.heap p.2 p.1) (ne : ∀ p ∈ l, p.2 ≠ [])
    (fin : ∀ s' p (out : Array Value) (c : Nat) (ys : List (Addr × List Str)), (∀ b u, s.heap.get? b = some u → s'.heap.get? b = some u) → s'.gens = s.gens → s'.os = s.os → s.heap.objs.size ≤ p →
      s'.heap.get? p = some (seqObj "list" out c) → out.toList = ys.map (fun p => Value.ref p.1) → ys.Perm l → ys.Pairwise (fun p q => ltT p.2 q.2 = true) → Q (.ref p) s') :
    wpAny (model P w) A (call (.builtin "sorted") [.ref a]) Q E s := by
  obtain ⟨L, es, ep, t, T, pm⟩ := R
  obtain ⟨ob, hob, xs, dat⟩ := T.ob
  have n0 : L.length = l.length := by rw [pm.length_eq, List.length_map]
  have few := T.few
  have nd : (l.map (·.2)).Nodup := by
    have z := (pm.map (·.2)).nodup_iff.mp T.nd
    rwa [List.map_map] at z
  refine Calls.call_function_entry kind_sorted plain_sorted entry_sorted (args_sorted1 _) ?_
  unfold Builtin.«sorted»
  refine wpAny_bind (m := checkCount "sorted" 1 1 _) (wpAny_pure ?_)
  refine wpAny_bind (collect_set (A := A.in1) hd ⟨ob, hob, xs.1, dat⟩ T.fits (by rw [rowsE_len T.rows]; exact Nat.lt_of_lt_of_le few (by decide)) T.tab.ris T.led fun s1 vs keep1 size1 gens1 os1 p1 => ?_)
  have p2 : vs.Perm (l.map fun p => Value.ref p.1) := by
    rw [T.rows] at p1
    unfold rowsE at p1
    rw [List.map_map] at p1
    have z := pm.map (·.1)
    rw [List.map_map] at z
    exact p1.trans z
  obtain ⟨l1, pl, el⟩ := perm_lift (fun p : Addr × List Str => Value.ref p.1) p2 l rfl
  subst el
  have n : (l1.map fun p => Value.ref p.1).length = l.length := by rw [List.length_map, pl.length_eq]
  refine wpAny_bind (wpAny_newList ?_ (by rw [n, sizeLine_eq]; omega))
  have atL : (s1.heap.push (seqObj "list" (l1.map fun p => Value.ref p.1).toArray 0)).get? s1.heap.objs.size = some (seqObj "list" (l1.map fun p => Value.ref p.1).toArray 0) := Heap.get?_push_size _ rfl
  have ok1 : ∀ p ∈ l1, TxT P w (s1.heap.push (seqObj "list" (l1.map fun p => Value.ref p.1).toArray 0)) p.2 p.1 := fun p m => by
    obtain ⟨o, its, n, ho, r⟩ := ok p (pl.mem_iff.mp m)
    exact ⟨o, its, n, Heap.get?_push_of_some _ (keep1 _ _ ho), r⟩
  obtain ⟨fs, FS⟩ := tupsOf_txt l1 fun p m => ⟨ok1 p m, ne p (pl.mem_iff.mp m)⟩
  refine wpAny_bind (wpAny_holding (wpAny_call_entry PyProof.Rows.slot_list_sort ⟨_, atL, rfl⟩ PyProof.Rows.entry_list_sort
    (G.list_sort_tups (shape := allT) (fs := fs) (s := { s1 with heap := s1.heap.push (seqObj "list" (l1.map fun p => Value.ref p.1).toArray 0) }) atL FS (fun v m => by
      obtain ⟨p, mp, rfl⟩ := List.mem_map.mp m
      exact ⟨_, keyC_txt (ok1 p mp)⟩) (by rw [n, sizeLine_eq]; omega) fun st p3 so _ => ?_) (PyProof.Rows.args_list_sort _)))
  obtain ⟨ys, g1, g2, g3⟩ := sorted_txt ok1 p3 so
  refine ⟨_, rfl, ?_⟩
  obtain ⟨c, hc⟩ := sortedHeap_at (vs := l1.map fun p => Value.ref p.1) (out := (arrOf st).map (·.2)) atL
  refine wpAny_pure ⟨_, rfl, fin _ s1.heap.objs.size _ c ys (fun b u e => ?_) gens1 os1 size1 hc g2 (g1.trans pl) (strict_txt (((g1.trans pl).map (·.2)).nodup_iff.mpr nd) g3)⟩
  have e1 := keep1 b u e
  have lt := Heap.lt_size e1
  show (sortedHeap (s1.heap.push (seqObj "list" (l1.map fun p => Value.ref p.1).toArray 0)) s1.heap.objs.size (l1.map fun p => Value.ref p.1) _).get? b = some u
  rw [sortedHeap_old (Nat.ne_of_lt lt) (by rw [Heap.size_push]; exact Nat.lt_succ_of_lt lt)]
  exact Heap.get?_push_of_some _ e1
end
section
variable {X : Cx}
/-- sorted of such a set -/
def rSortedP (P : Program) (w : World) : List V → Hp → VK → Prop := fun vs H Q => ∃ (p : Addr) (l : List (Addr × List Str)), vs = [V.ref p] ∧ H p = some (SetPO P w p l) ∧ (∀ k ∈ l, Rd H k.1 (.tup (k.2.map V.str)) ∧ k.2 ≠ []) ∧
  ∀ (ys : List (Addr × List Str)) (q : Addr), ys.Perm l → ys.Pairwise (fun p q => ltT p.2 q.2 = true) → H q = none → Q (.ref q) (upd H q (.lst (ys.map fun k => V.ref k.1)))
theorem cr_sortedP (hc : X.calm = true) : CallR X (.builtin "sorted") (rSortedP X.prog X.w) := by
  intro pins s σ H vs us Q I r z
  obtain ⟨a, l, rfl, ha, tup, q⟩ := z
  rw [Vals.ref1 r]
  have R := setPO_get I ha
  have few : l.length < 64 := by
    obtain ⟨L, es, ep, t, T, pm⟩ := R
    have z := T.few
    rwa [pm.length_eq, List.length_map] at z
  refine sorted_setE R (I.ok.hd hc) (fun p m => txT_of I (tup p m).1) (fun p m => (tup p m).2) fun s' p out c ys keep gens os size at_ are pm so => ?_
  have short : (ys.map fun k => V.ref k.1).length ≤ sizeLine := by
    rw [List.length_map, pm.length_eq, sizeLine_eq]
    omega
  have new : H p = none := I.hok.fresh size
  have J : Inv X pins σ (upd H p (.lst (ys.map fun k => V.ref k.1))) { s with heap := s'.heap, gens := s'.gens, drawn := s'.drawn, toks := s'.toks } :=
    I.call (ch := []) (Un.laid keep size new) (I.hok.laid keep size ⟨short, out.toList, c, by rw [are]; exact vals_refsP ys, at_⟩) (by rw [gens]; exact I.bare) (fun _ y => nomatch y)
  have same : s' = { s with heap := s'.heap, gens := s'.gens, drawn := s'.drawn, toks := s'.toks } := by
    cases s'
    cases s
    cases os
    rfl
  rw [same]
  exact ⟨.ref p, _, J, rfl, q ys p pm so new⟩
end
end Fw

/-! t < u, tuples of texts. -/
namespace Fw
open PySem PySem.Spec PyProof.Rows L2 PySem.W
theorem toks_txt : ∀ (j k : List Str), PyProof.Rows.lexLt itemOrd (keyToksAll (j.map PyData.str)) (keyToksAll (k.map PyData.str)) = ltT j k
  | [], [] => by
    show PyProof.Rows.lexLt itemOrd [.inl 0] [.inl 0] = PyProof.Rows.lexLt itemOrd [] []
    rw [lex_irrefl, lex_irrefl]
  | [], y :: k => rfl
  | x :: j, [] => rfl
  | x :: j, y :: k => by
    show PyProof.Rows.lexLt itemOrd (Sum.inl 1 :: Sum.inr x.cps.toList :: keyToksAll (j.map PyData.str)) (Sum.inl 1 :: Sum.inr y.cps.toList :: keyToksAll (k.map PyData.str)) = PyProof.Rows.lexLt itemOrd (Sum.inr x.cps.toList :: kT j) (Sum.inr y.cps.toList :: kT k)
    rw [lex_self]
    by_cases e : (Sum.inr x.cps.toList : Int ⊕ List Nat) = Sum.inr y.cps.toList
    · rw [e, lex_self, lex_self]
      exact toks_txt j k
    · rw [lex_diff e, lex_diff e]
theorem alike_txt : ∀ (j k : List Str), alikeAll (j.map PyData.str) (k.map PyData.str) = true
  | [], [] => by simp [alikeAll]
  | [], y :: k => by simp [alikeAll]
  | x :: j, [] => by simp [alikeAll]
  | x :: j, y :: k => by
    show alikeAll (PyData.str x :: j.map PyData.str) (PyData.str y :: k.map PyData.str) = true
    rw [alikeAll, alike_txt j k]
    simp [alike]
theorem reads_txt {h : Heap} : ∀ {k : List Str} {us : List Value}, Vals (k.map V.str) us → ReadsAll h us (k.map PyData.str) []
  | [], us, r => by
    cases r
    exact .nil
  | x :: k, us, r => by
    cases r with
    | cons r1 r2 =>
      obtain ⟨t, rfl⟩ := r1
      exact .cons (Reads.str x t) (reads_txt r2)
theorem flat_txt : ∀ k : List Str, PyData.depthAll (k.map PyData.str) = 0
  | [] => rfl
  | x :: k => by
    show max 0 (PyData.depthAll (k.map PyData.str)) = 0
    rw [flat_txt k]
    rfl
section
variable {X : Cx}
def rLtX (K : PySem.W.Frag) : R2 := fun x y H Q => ∃ (a b : Addr) (j k : List Str), x = .ref a ∧ y = .ref b ∧ SqT K H a (j.map V.str) ∧ SqT K H b (k.map V.str) ∧ Q (.bl (ltT j k)) H
theorem op_ltX (hu : X.A.units + 64 < cLine) : OpR X (compareOp .Lt) (rLtX X.K) := by
  intro pins s σ H x y v u Q I rx ry h
  obtain ⟨a, b, j, k, rfl, rfl, ha, hb, q⟩ := h
  cases rx
  cases ry
  obtain ⟨its, r1, ⟨o1, h1, c1, n1, d1⟩, _⟩ := I.tuple ha
  obtain ⟨its2, r2, ⟨o2, h2, c2, n2, d2⟩, _⟩ := I.tuple hb
  have z := rcLt_alike (.tuple (j.map PyData.str)) (.tuple (k.map PyData.str)) X.A s (.ref a) (.ref b) _ _ (Reads.tuple h1 c1 d1 (by simpa using reads_txt r1)) (Reads.tuple h2 c2 d2 (by simpa using reads_txt r2)) (by rw [alike]; exact alike_txt j k) (by intro z; cases z) (by
    show X.A.units + min (PyData.depthAll (j.map PyData.str) + 1) (PyData.depthAll (k.map PyData.str) + 1) < cLine
    rw [flat_txt, flat_txt]
    omega)
  rw [dataLt_tuple, toks_txt] at z
  exact z X.prog X.w _ _ ⟨.bl (ltT j k), H, I, rfl, q⟩
end
end Fw

/-! Words: ascending rows. -/
namespace Lx
open PySem PySem.Spec PyProof.Rows L2 Fw RZ
theorem walk_zipT {K : PySem.W.Frag} {a b : Addr} {xs ys : List V} {n : Nat} (hn : n = min xs.length ys.length) : Walk (ItzT K a b) n (fun H => SqT K H a xs ∧ SqT K H b ys) (YPair (fun i => xs[i]?) (fun i => ys[i]?)) := by
  subst hn
  refine ⟨fun i _ hi q => ?_, fun _ q => ⟨xs, ys, q.1, q.2, by omega⟩, fun i H v H' _ q y => ?_⟩
  · have h1 : i < xs.length := by omega
    have h2 : i < ys.length := by omega
    exact ⟨xs, ys, xs[i], ys[i], q.1, q.2, by simp [h1], by simp [h2]⟩
  · obtain ⟨T, x, z, h1, h2, h3, h4, h5⟩ := y
    exact ⟨T, x, z, h1, h2, h3, h4 xs q.1, h5 ys q.2⟩
theorem cut1 (xs : List V) : cutV xs (some 1) none = xs.drop 1 := by
  cases xs with
  | nil => rfl
  | cons x xs =>
    unfold cutV
    have e1 : HT.sIx (x :: xs).length 0 (some 1) = 1 := by
      simp [HT.sIx]
    have e2 : HT.sIx (x :: xs).length (x :: xs).length none = (x :: xs).length := by
      simp [HT.sIx]
    rw [e1, e2]
    exact List.take_of_length_le (by simp)
/-- x before y -/
def LtV (H : Hp) (x y : V) (b : Bool) : Prop := (∃ i j : Str, x = .str i ∧ y = .str j ∧ b = decide (i.cps.toList < j.cps.toList)) ∨
  ∃ (a c : Addr) (j k : List Str), x = .ref a ∧ y = .ref c ∧ Rd H a (.tup (j.map V.str)) ∧ Rd H c (.tup (k.map V.str)) ∧ b = ltT j k
theorem LtV.same {H H' : Hp} {x y : V} {b : Bool} (h : LtV H x y b) (s : Same H H') : LtV H' x y b := by
  rcases h with ⟨i, j, e1, e2, e3⟩ | ⟨a, c, j, k, e1, e2, e3, e4, e5⟩
  · exact .inl ⟨i, j, e1, e2, e3⟩
  · exact .inr ⟨a, c, j, k, e1, e2, rd_same e3 s, rd_same e4 s, e5⟩
section
variable {X : Cx}
def rLtV : R2 := fun x y H Q => ∃ b, LtV H x y b ∧ Q (.bl b) H
theorem op_ltV (hu : X.A.units + 64 < cLine) : OpR X (compareOp .Lt) rLtV := by
  intro pins s σ H x y v u Q I rx ry h
  obtain ⟨b, ⟨i, j, rfl, rfl, rfl⟩ | ⟨a, c, j, k, rfl, rfl, e3, e4, rfl⟩, q⟩ := h
  · exact op_lt_str pins s σ H _ _ v u Q I rx ry ⟨i, j, rfl, rfl, q⟩
  · exact op_ltX hu pins s σ H _ _ v u Q I rx ry ⟨a, c, j, k, rfl, rfl, Or.inl e3, Or.inl e4, q⟩
end
/-- asked of a tuple -/
def spAsc : Sp := fun vs H Q _ => ∃ (a : Addr) (xs : List V) (bs : List Bool), vs = [.ref a] ∧ Rd H a (.tup xs) ∧ xs.length ≤ 1000 ∧ bs.length = xs.length - 1 ∧
  (∀ (i : Nat) x y b, xs[i]? = some x → xs[i + 1]? = some y → bs[i]? = some b → LtV H x y b) ∧ ∀ H', Same H H' → Q (.bl (bs.all id)) H'
abbrev nA : List Str := ["row", "one", "other"]
section
variable {P : Program} {w : World} {K : PySem.W.Frag} {mg : Str → Option Value} {base : Heap} {gg : Bool}
theorem scAsc : FnScope nA ["row"] (defScope sAscending) := ⟨rfl, rfl, rfl, by decide +kernel, rfl, by decide +kernel, by decide +kernel⟩
theorem ok_asc {f : Addr} {fd : FuncData} (F : Fun K "is_ascending" "is_ascending" sAscending f fd) (mAll : mg "all" = none) (mZip : mg "zip" = none) : FnV gg P w K mg base CX0 1 f fd ["row"] spAsc := by
  refine fnV F scAsc (fun vs H Q E h => ?_) (fun cdv Ar fr s H vs Q E hG hr h => ?_)
  · obtain ⟨a, xs, bs, rfl, _⟩ := h
    rfl
  · obtain ⟨a, xs, bs, rfl, at_, few, lb, lts, q⟩ := h
    have hu := hr.units
    refine ⟨_, pss_one (ps_ret (pe_callB (cr_all rfl) (by rfl) mAll (by decide +kernel) (pa_cons
        (pe_lc (own := [("one", 1), ("other", 2)]) (g := gTup K 2 (gCons (gName 1) (gCons (gName 2) gNil))) (by rfl) scAsc.nd (pi_zipA (by rfl) mZip (pa_cons (pv 0) (pa_cons (pe_slice sl_tupA (pv 0) (po_some pe_int) po_none) pa_nil)))
          (blkOk_by (N := nA) (sc := defScope sAscending) (own := [("one", 1), ("other", 2)]) (by decide +kernel)) (fun _ _ _ _ _ => pg_tup rfl (pgs_cons (pg_name (i := 1) scAsc.nd rfl (Or.inl rfl)) (pgs_cons (pg_name (i := 2) scAsc.nd rfl (Or.inl rfl)) pgs_nil))) (fun _ _ _ _ _ => pts_nil)
          (fun _ _ _ _ _ => pe_cmpR (op_ltV (by exact hu)) (pv 1) (pv 2) (nomark _))) pa_nil))), ?_⟩
    refine ⟨_, rfl, _, rfl, 1, rfl, a, xs, rfl, Or.inl at_, fun hw => ?_, fun hw p np => ?_⟩
    · have e0 : xs = [] := by
        cases xs with
        | nil => rfl
        | cons x xs =>
          have z := hw.1
          have e1 : HT.sIx (x :: xs).length 0 (some 1) = 1 := by simp [HT.sIx]
          rw [e1] at z
          cases z
      subst e0
      have eb : bs = [] := List.length_eq_zero_iff.mp lb
      subst eb
      refine ⟨a, a, [], [], rfl, .inr ⟨Or.inl at_, Or.inl at_, fun D nD => ?_⟩⟩
      refine lc_it (walk_zipT (n := 0) rfl) (fun i Hc => Same H Hc ∧ Hc D = some (.lst (([] : List Bool).map V.bl))) ⟨same_upd nD, upd_same⟩ (fun i Hc _ z => ⟨Or.inl (rd_same at_ z.1), Or.inl (rd_same at_ z.1)⟩) (fun i x Hc Hc' lt => absurd lt (Nat.not_lt_zero _)) ?_
      rintro Hc ⟨sm, hD⟩
      exact ⟨D, [], rfl, SqL.of hD, q _ sm⟩
    · have sp := same_upd (o := .tup (cutV xs (some 1) none)) np
      have atp : (upd H p (.tup (cutV xs (some 1) none))) p = some (.tup (xs.drop 1)) := by rw [upd_same, cut1]
      have ata := rd_same at_ sp
      generalize upd H p (.tup (cutV xs (some 1) none)) = H1 at sp atp ata ⊢
      refine ⟨a, p, xs, xs.drop 1, rfl, .inr ⟨Or.inl ata, SqT.of atp, fun D nD => ?_⟩⟩
      have ln : min xs.length (xs.drop 1).length = bs.length := by
        rw [List.length_drop, lb]
        omega
      refine lc_it (walk_zipT ln.symm) (fun i Hc => Same H1 Hc ∧ Hc D = some (.lst ((bs.take i).map V.bl))) ⟨same_upd nD, upd_same⟩ (fun i Hc _ z => ⟨Or.inl (rd_same ata z.1), SqT.of (z.1 _ _ atp)⟩) ?_ ?_
      · rintro i x Hc Hc' lt ⟨sm, hD⟩ ⟨T, u, v, rfl, nT, rfl, eu, ev⟩
        have ev' : xs[i + 1]? = some v := by
          have ev2 : (xs.drop 1)[i]? = some v := ev
          rw [List.getElem?_drop] at ev2
          rw [Nat.add_comm]
          exact ev2
        have lv := lts i u v bs[i] eu ev' (List.getElem?_eq_getElem lt)
        have st := same_upd (o := .tup [u, v]) nT
        refine ⟨T, [u, v], rfl, SqT.of upd_same, rfl, _, _, rfl, _, _, rfl, rfl, rfl, ?_⟩
        refine ⟨_, rfl, _, rfl, _, ((lv.same sp).same sm).same st, _, st _ _ hD, ?_, ?_, ?_⟩
        · rw [List.length_map, List.length_take, lb]
          exact Nat.lt_of_le_of_lt (Nat.le_trans (Nat.min_le_right _ _) (Nat.le_trans (Nat.sub_le _ _) few)) (by decide)
        · intro b o e
          rw [upd_ne (ne_of_none e nD)]
          exact st _ _ (sm _ _ e)
        · rw [upd_same]
          refine congrArg (fun l => some (HO.lst l)) ?_
          rw [List.map_take, List.map_take]
          exact (take_one (List.getElem?_eq_getElem lt)).symm
      · rintro Hc ⟨sm, hD⟩
        rw [List.take_length] at hD
        exact ⟨D, bs, rfl, SqL.of hD, q _ (same_trans sp sm)⟩
end
end Lx

/-! Webs: one tie. -/
namespace Lx
open PySem PySem.Spec PyProof.Rows L2 Fw
def ltS (x y : Str) : Bool := decide (x.cps.toList < y.cps.toList)
def pairT (x y : Str) : List Str := if ltS x y = true then [x, y] else [y, x]
def spPair : Sp := fun vs H Q _ => ∃ x y : Str, vs = [.str x, .str y] ∧ ∀ p, H p = none → Q (.ref p) (upd H p (.tup ((pairT x y).map V.str)))
/-- an ascending pair of names -/
def tieV : List V → Bool
  | [.str x, .str y] => nameS x && nameS y && ltS x y
  | _ => false
def spIsTie : Sp := fun vs H Q _ => ∃ (a : Addr) (xs : List V), vs = [.ref a] ∧ Rd H a (.tup xs) ∧ (∀ x ∈ xs, Vok H x) ∧ xs.length ≤ 1000 ∧ ∀ H', Same H H' → Q (.bl (tieV xs)) H'
theorem ltS_ne {x y : Str} (h : ltS x y = true) : x ≠ y := fun e => by
  subst e
  have z : decide (x.cps.toList < x.cps.toList) = true := h
  exact absurd (of_decide_eq_true z) (List.lt_irrefl _)
theorem tie_shape : ∀ {xs : List V}, xs.all nameV = true → xs.length = 2 → ∃ x y, xs = [.str x, .str y] ∧ nameS x = true ∧ nameS y = true
  | [u, v], h, _ => by
    have h' : (nameV u && (nameV v && true)) = true := h
    obtain ⟨a, b⟩ := Bool.and_eq_true_iff.mp h'
    obtain ⟨b, _⟩ := Bool.and_eq_true_iff.mp b
    cases u with
    | str x =>
      cases v with
      | str y => exact ⟨x, y, rfl, a, b⟩
      | _ => cases b
    | _ => cases a
theorem tie_diff : ∀ {xs : List V}, tieV xs = true → diffV xs 2 = true ∧ xs.length = 2
  | [.str x, .str y], h => by
    have h' : (nameS x && nameS y && ltS x y) = true := h
    obtain ⟨a, c⟩ := Bool.and_eq_true_iff.mp h'
    obtain ⟨a, b⟩ := Bool.and_eq_true_iff.mp a
    refine ⟨?_, rfl⟩
    have n : ([x, y] : List Str).Nodup := by simp [ltS_ne c]
    show (nameS x && (nameS y && true) && (decide ((2 : Int) ≤ 2) && decide ([x, y] : List Str).Nodup)) = true
    rw [a, b, decide_eq_true n]
    rfl
section
variable {P : Program} {w : World} {K : PySem.W.Frag} {mg : Str → Option Value} {base : Heap} {gg : Bool}
theorem scPair : FnScope ["a", "b"] ["a", "b"] (defScope sPairOf) := ⟨rfl, rfl, rfl, by decide +kernel, rfl, by decide +kernel, by decide +kernel⟩
theorem ok_pair {f : Addr} {fd : FuncData} (F : Fun K "pair_of" "pair_of" sPairOf f fd) : FnV gg P w K mg base CX0 1 f fd ["a", "b"] spPair := by
  refine fnV F scPair (fun vs H Q E h => ?_) (fun cdv Ar fr s H vs Q E hG hr h => ?_)
  · obtain ⟨x, y, rfl, _⟩ := h
    rfl
  · obtain ⟨x, y, rfl, q⟩ := h
    refine ⟨_, pss_one (ps_ret (pe_ifExp (pt_cmpR op_lt_str (pv 0) (pv 1) (nomark _)) (pe_tup (pa_cons (pv 0) (pa_cons (pv 1) pa_nil))) (pe_tup (pa_cons (pv 1) (pa_cons (pv 0) pa_nil))))), ?_⟩
    refine ⟨_, rfl, _, rfl, x, y, rfl, rfl, _, rfl, ?_⟩
    dsimp only
    by_cases c : ltS x y = true
    · rw [if_pos (by exact c)]
      refine ⟨_, rfl, _, rfl, by show 2 ≤ sizeLine; decide, fun p np => ?_⟩
      have e : pairT x y = [x, y] := if_pos c
      have z := q p np
      rw [e] at z
      exact z
    · rw [if_neg (by exact c)]
      refine ⟨_, rfl, _, rfl, by show 2 ≤ sizeLine; decide, fun p np => ?_⟩
      have e : pairT x y = [y, x] := if_neg c
      have z := q p np
      rw [e] at z
      exact z
theorem scIsTie : FnScope ["value"] ["value"] (defScope sIsTie) := ⟨rfl, rfl, rfl, by decide +kernel, rfl, by decide +kernel, by decide +kernel⟩
theorem ok_istie {f fA fN fK fD : Addr} {fd dA dN dK dD : FuncData} (F : Fun K "is_tie" "is_tie" sIsTie f fd) (N : TxN K mg fA fN fK fD dA dN dK dD) : FnV gg P w K mg base CX0 4 f fd ["value"] spIsTie := by
  have GD : FnV gg P w K mg base CX0 3 fD dD ["value", "least"] spDiff := ok_different N.FD N.T N.set N.mA N.FA N.bA N.mN N.FN N.bN
  refine fnV F scIsTie (fun vs H Q E h => ?_) (fun cdv Ar fr s H vs Q E hG hr h => ?_)
  · obtain ⟨a, xs, rfl, _⟩ := h
    rfl
  · obtain ⟨a, xs, rfl, at_, ok, few, q⟩ := h
    refine ⟨_, pss_one (ps_ret (pe_and (pe_callV (E := fun _ _ _ _ => False) hG GD hr (by rfl) N.mD N.FD.kp N.bD .nil (fun _ => passAt0) (pa_cons (pv 0) (pa_cons pe_int pa_nil)))
      (pe_and (pe_cmpR op_eq (pe_callB call_len_seq (by rfl) N.T.len PySem.boot_len (pa_cons (pv 0) pa_nil)) pe_int (nomark _))
        (pe_one (pe_cmpR op_lt_str (pe_ix ix_tup (pv 0) pe_int (fun _ _ => rfl)) (pe_ix ix_tup (pv 0) pe_int (fun _ _ => rfl)) (nomark _)))))), ?_⟩
    refine ⟨_, rfl, a, xs, 2, rfl, at_, ok, few, fun H1 s1 => ?_⟩
    have at1 := rd_same at_ s1
    refine ⟨_, rfl, ?_⟩
    cases c : diffV xs 2 with
    | false =>
      have e : tieV xs = false := Bool.eq_false_iff.mpr fun z => by
        rw [(tie_diff z).1] at c
        cases c
      rw [if_neg (by decide), ← e]
      exact q _ s1
    | true =>
      rw [if_pos rfl]
      refine ⟨_, rfl, a, xs, rfl, .inr (Or.inl at1), ?_⟩
      refine ⟨rfl, _, rfl, ?_⟩
      by_cases d : xs.length = 2
      · have al : xs.all nameV = true := by
          have c' := c
          unfold diffV at c'
          exact (Bool.and_eq_true_iff.mp c').1
        obtain ⟨x, y, rfl, nx, ny⟩ := tie_shape al d
        rw [if_pos (by rfl)]
        refine ⟨_, rfl, a, _, 0, .str x, rfl, rfl, Or.inl at1, by rfl, ?_⟩
        refine ⟨_, rfl, a, _, 1, .str y, rfl, rfl, Or.inl at1, by rfl, ?_⟩
        refine ⟨x, y, rfl, rfl, ?_⟩
        have e : tieV [.str x, .str y] = ltS x y := by
          show (nameS x && nameS y && ltS x y) = _
          rw [nx, ny]
          rfl
        show Q (.bl (ltS x y)) H1
        rw [← e]
        exact q _ s1
      · have ne : ¬ V.int (xs.length : Int) = V.int 2 := fun z => d (by
          have z' : (xs.length : Int) = 2 := by injection z
          omega)
        have e : tieV xs = false := Bool.eq_false_iff.mpr fun z => d (tie_diff z).2
        rw [if_neg (by rw [decide_eq_false ne]; decide), ← e]
        exact q _ s1
end
end Lx

/-! Webs: places and ties that make one. -/
namespace Lx
open PySem PySem.Spec PyProof.Rows L2 Fw
/-- next to next, before? -/
def stepsS : List Str → List Bool
  | x :: y :: r => ltS x y :: stepsS (y :: r)
  | _ => []
def stepsT : List (List Str) → List Bool
  | x :: y :: r => ltT x y :: stepsT (y :: r)
  | _ => []
theorem stepsS_len : ∀ ns : List Str, (stepsS ns).length = ns.length - 1
  | [] => rfl
  | [_] => rfl
  | x :: y :: r => by
    show (stepsS (y :: r)).length + 1 = _
    rw [stepsS_len (y :: r)]
    rfl
theorem stepsT_len : ∀ ns : List (List Str), (stepsT ns).length = ns.length - 1
  | [] => rfl
  | [_] => rfl
  | x :: y :: r => by
    show (stepsT (y :: r)).length + 1 = _
    rw [stepsT_len (y :: r)]
    rfl
theorem stepsS_at : ∀ {ns : List Str} {i : Nat} {x y : Str} {b : Bool}, ns[i]? = some x → ns[i + 1]? = some y → (stepsS ns)[i]? = some b → b = ltS x y
  | u :: v :: r, 0, x, y, b, h1, h2, h3 => by
    cases h1
    cases h2
    cases h3
    rfl
  | u :: v :: r, i + 1, x, y, b, h1, h2, h3 => stepsS_at (ns := v :: r) (i := i) h1 h2 h3
  | [u], i, x, y, b, h1, h2, h3 => by cases h3
  | [], i, x, y, b, h1, h2, h3 => by cases h3
theorem stepsT_at : ∀ {ns : List (List Str)} {i : Nat} {x y : List Str} {b : Bool}, ns[i]? = some x → ns[i + 1]? = some y → (stepsT ns)[i]? = some b → b = ltT x y
  | u :: v :: r, 0, x, y, b, h1, h2, h3 => by
    cases h1
    cases h2
    cases h3
    rfl
  | u :: v :: r, i + 1, x, y, b, h1, h2, h3 => stepsT_at (ns := v :: r) (i := i) h1 h2 h3
  | [u], i, x, y, b, h1, h2, h3 => by cases h3
  | [], i, x, y, b, h1, h2, h3 => by cases h3
def placesB (ns : List Str) : Bool := ns.all nameS && (decide (1 ≤ ns.length) && decide (ns.length ≤ 12) && (stepsS ns).all id)
theorem names_all : ∀ ns : List Str, (ns.map V.str).all nameV = ns.all nameS
  | [] => rfl
  | x :: ns => by
    show (nameS x && (ns.map V.str).all nameV) = (nameS x && ns.all nameS)
    rw [names_all ns]
theorem vok_strs {H : Hp} {ns : List Str} (sm : ∀ x ∈ ns, x.length ≤ 1000) : ∀ v ∈ ns.map V.str, Vok H v := fun v m => by
  obtain ⟨x, mx, rfl⟩ := List.mem_map.mp m
  exact ⟨⟨_, .str x⟩, fun y e => by cases e; exact sm x mx⟩
def spPlaces : Sp := fun vs H Q _ => ∃ (a : Addr) (ns : List Str), vs = [.ref a] ∧ Rd H a (.tup (ns.map V.str)) ∧ (∀ x ∈ ns, x.length ≤ 1000) ∧ ns.length ≤ 1000 ∧ ∀ H', Same H H' → Q (.bl (placesB ns)) H'
structure TxB (K : PySem.W.Frag) (mg : Str → Option Value) (fC fT : Addr) (dC dT : FuncData) : Prop where
  zip : mg "zip" = none
  maxP : ∃ t, mg "MAX_PLACES" = some (.int 12 t)
  maxT : ∃ t, mg "MAX_TIES" = some (.int 40 t)
  mC : mg "is_ascending" = some (.ref fC)
  FC : Fun K "is_ascending" "is_ascending" sAscending fC dC
  bC : Binds K dC ["row"] []
  mT : mg "is_tie" = some (.ref fT)
  FT : Fun K "is_tie" "is_tie" sIsTie fT dT
  bT : Binds K dT ["value"] []
section
variable {P : Program} {w : World} {K : PySem.W.Frag} {mg : Str → Option Value} {base : Heap} {gg : Bool}
theorem scPlaces : FnScope ["value"] ["value"] (defScope sArePlaces) := ⟨rfl, rfl, rfl, by decide +kernel, rfl, by decide +kernel, by decide +kernel⟩
theorem ok_places {f fA fN fK fD fC fT : Addr} {fd dA dN dK dD dC dT : FuncData} (F : Fun K "_are_places" "_are_places" sArePlaces f fd) (N : TxN K mg fA fN fK fD dA dN dK dD) (B : TxB K mg fC fT dC dT) : FnV gg P w K mg base CX0 3 f fd ["value"] spPlaces := by
  have GA : FnV gg P w K mg base CX0 2 fA dA ["value"] spNames := ok_names N.FA N.T N.mN N.FN N.bN
  have GC : FnV gg P w K mg base CX0 1 fC dC ["row"] spAsc := ok_asc B.FC N.T.all B.zip
  obtain ⟨tm, mM⟩ := B.maxP
  refine fnV F scPlaces (fun vs H Q E h => ?_) (fun cdv Ar fr s H vs Q E hG hr h => ?_)
  · obtain ⟨a, ns, rfl, _⟩ := h
    rfl
  · obtain ⟨a, ns, rfl, at_, sm, few, q⟩ := h
    refine ⟨_, pss_one (ps_ret (pe_and (pe_callV (E := fun _ _ _ _ => False) hG GA hr (by rfl) N.mA N.FA.kp N.bA .nil (fun _ => passAt0) (pa_cons (pv 0) pa_nil))
      (pe_and (pe_chain op_le op_le pe_int (pe_callB call_len_seq (by rfl) N.T.len PySem.boot_len (pa_cons (pv 0) pa_nil)) (pe_glob (v := .int 12) (by rfl) mM ⟨tm, rfl⟩))
        (pe_one (pe_callV (E := fun _ _ _ _ => False) hG GC (hr.mono (by decide)) (by rfl) B.mC B.FC.kp B.bC .nil (fun _ => passAt0) (pa_cons (pv 0) pa_nil)))))), ?_⟩
    refine ⟨_, rfl, .ref a, _, rfl, .tup at_ (vok_strs sm) (by rw [List.length_map]; exact few), fun H1 s1 => ⟨_, rfl, ?_⟩⟩
    have at1 := rd_same at_ s1
    rw [names_all]
    cases c : ns.all nameS with
    | false =>
      have e : placesB ns = false := by
        unfold placesB
        rw [c, Bool.false_and]
      rw [if_neg (by decide), ← e]
      exact q _ s1
    | true =>
      rw [if_pos rfl]
      have eb : placesB ns = (decide (1 ≤ ns.length) && decide (ns.length ≤ 12) && (stepsS ns).all id) := by
        unfold placesB
        rw [c, Bool.true_and]
      have ln : ((ns.map V.str).length : Int) = (ns.length : Int) := by rw [List.length_map]
      refine ⟨_, rfl, a, _, rfl, .inr (Or.inl at1), 1, _, rfl, rfl, _, rfl, ?_⟩
      by_cases d1 : 1 ≤ ns.length
      · have e1 : decide ((1 : Int) ≤ ((ns.map V.str).length : Int)) = true := decide_eq_true (by rw [ln]; omega)
        rw [if_pos e1]
        refine ⟨_, _, rfl, rfl, _, rfl, ?_⟩
        by_cases d2 : ns.length ≤ 12
        · have e2 : decide (((ns.map V.str).length : Int) ≤ 12) = true := decide_eq_true (by rw [ln]; omega)
          rw [if_pos e2]
          refine ⟨_, rfl, a, ns.map V.str, stepsS ns, rfl, at1, by rw [List.length_map]; exact few, by rw [stepsS_len, List.length_map], fun i x y b hx hy hb => ?_, fun H2 s2 => ?_⟩
          · rw [List.getElem?_map] at hx hy
            cases h1 : ns[i]? with
            | none => rw [h1] at hx; cases hx
            | some u =>
              cases h2 : ns[i + 1]? with
              | none => rw [h2] at hy; cases hy
              | some v =>
                rw [h1] at hx
                rw [h2] at hy
                exact .inl ⟨u, v, (Option.some.inj hx).symm, (Option.some.inj hy).symm, stepsS_at h1 h2 hb⟩
          · have e : placesB ns = (stepsS ns).all id := by
              rw [eb, decide_eq_true d1, decide_eq_true d2]
              rfl
            rw [← e]
            exact q _ (same_trans s1 s2)
        · have e2 : decide (((ns.map V.str).length : Int) ≤ 12) = false := decide_eq_false (by rw [ln]; omega)
          have e : placesB ns = false := by
            rw [eb, decide_eq_false d2, Bool.and_false, Bool.false_and]
          rw [if_neg (by rw [e2]; decide), ← e]
          exact q _ s1
      · have e1 : decide ((1 : Int) ≤ ((ns.map V.str).length : Int)) = false := decide_eq_false (by rw [ln]; omega)
        have e : placesB ns = false := by
          rw [eb, decide_eq_false d1, Bool.false_and, Bool.false_and]
        rw [if_neg (by rw [e1]; decide)]
        refine ⟨_, rfl, ?_⟩
        rw [if_neg (by decide), ← e]
        exact q _ s1
end
end Lx

/-! Webs: ties that make one with places. -/
namespace Lx
open PySem PySem.Spec PyProof.Rows L2 Fw
theorem ix_tupK {X : Cx} {K : PySem.W.Frag} (h : X.K = K) : IxR X (rIxT K) := h ▸ ix_tup
def tieIn (ns : List Str) : List Str → Bool
  | [x, y] => tieV [.str x, .str y] && (inV (.str x) (ns.map V.str) && inV (.str y) (ns.map V.str))
  | _ => false
def tiesB (ns : List Str) (ts : List (List Str)) : Bool := decide (ts.length ≤ 40) && (ts.all (tieIn ns) && (stepsT ts).all id)
/-- a row of tuples of texts -/
structure RowT (H : Hp) (a : Addr) (ks : List (Addr × List Str)) : Prop where
  at_ : Rd H a (.tup (ks.map fun k => V.ref k.1))
  each : ∀ k ∈ ks, Rd H k.1 (.tup (k.2.map V.str)) ∧ (∀ x ∈ k.2, x.length ≤ 1000) ∧ k.2.length ≤ 1000
  few : ks.length ≤ 1000
theorem RowT.same {H H' : Hp} {a : Addr} {ks : List (Addr × List Str)} (R : RowT H a ks) (s : Same H H') : RowT H' a ks :=
  ⟨rd_same R.at_ s, fun k m => ⟨rd_same (R.each k m).1 s, (R.each k m).2⟩, R.few⟩
theorem asc_row {H : Hp} {a : Addr} {ks : List (Addr × List Str)} (R : RowT H a ks) {Q : VK} {E : XK} (q : ∀ H', Same H H' → Q (.bl ((stepsT (ks.map (·.2))).all id)) H') : spAsc [.ref a] H Q E :=
  ⟨a, _, stepsT (ks.map (·.2)), rfl, R.at_, by rw [List.length_map]; exact R.few, by rw [stepsT_len, List.length_map, List.length_map], fun i x y b hx hy hb => by
    rw [List.getElem?_map] at hx hy
    cases h1 : ks[i]? with
    | none => rw [h1] at hx; cases hx
    | some u =>
      cases h2 : ks[i + 1]? with
      | none => rw [h2] at hy; cases hy
      | some v =>
        rw [h1] at hx
        rw [h2] at hy
        have b1 : (ks.map (·.2))[i]? = some u.2 := by rw [List.getElem?_map, h1]; rfl
        have b2 : (ks.map (·.2))[i + 1]? = some v.2 := by rw [List.getElem?_map, h2]; rfl
        exact .inr ⟨u.1, v.1, u.2, v.2, (Option.some.inj hx).symm, (Option.some.inj hy).symm, (R.each u (List.mem_of_getElem? h1)).1, (R.each v (List.mem_of_getElem? h2)).1, stepsT_at b1 b2 hb⟩, q⟩
def spTies : Sp := fun vs H Q _ => ∃ (t a : Addr) (ns : List Str) (ks : List (Addr × List Str)), vs = [.ref t, .ref a] ∧ Rd H t (.tup (ns.map V.str)) ∧ RowT H a ks ∧ ∀ H', Same H H' → Q (.bl (tiesB ns (ks.map (·.2)))) H'
abbrev nT : List Str := ["places", "value", "tie"]
theorem tie_two {ns k : List Str} (h : tieV (k.map V.str) = true) : ∃ x y, k = [x, y] ∧ tieIn ns k = (inV (.str x) (ns.map V.str) && inV (.str y) (ns.map V.str)) := by
  have l := (tie_diff h).2
  rw [List.length_map] at l
  match k, l, h with
  | [x, y], _, h =>
    refine ⟨x, y, rfl, ?_⟩
    have h' : tieV [.str x, .str y] = true := h
    show (tieV [.str x, .str y] && _) = _
    rw [h', Bool.true_and]
theorem tie_not {ns k : List Str} (h : tieV (k.map V.str) = false) : tieIn ns k = false := by
  match k, h with
  | [x, y], h =>
    have h' : tieV [.str x, .str y] = false := h
    show (tieV [.str x, .str y] && _) = _
    rw [h', Bool.false_and]
  | [], _ => rfl
  | [_], _ => rfl
  | _ :: _ :: _ :: _, _ => rfl
section
variable {P : Program} {w : World} {K : PySem.W.Frag} {mg : Str → Option Value} {base : Heap} {gg : Bool}
theorem scTies : FnScope nT ["places", "value"] (defScope sAreTies) := ⟨rfl, rfl, rfl, by decide +kernel, rfl, by decide +kernel, by decide +kernel⟩
theorem ok_ties {f fA fN fK fD fC fT : Addr} {fd dA dN dK dD dC dT : FuncData} (F : Fun K "_are_ties" "_are_ties" sAreTies f fd) (N : TxN K mg fA fN fK fD dA dN dK dD) (B : TxB K mg fC fT dC dT) : FnV gg P w K mg base CX0 5 f fd ["places", "value"] spTies := by
  have GT : FnV gg P w K mg base CX0 4 fT dT ["value"] spIsTie := ok_istie B.FT N
  have GC : FnV gg P w K mg base CX0 1 fC dC ["row"] spAsc := ok_asc B.FC N.T.all B.zip
  obtain ⟨tm, mM⟩ := B.maxT
  refine fnV F scTies (fun vs H Q E h => ?_) (fun cdv Ar fr s H vs Q E hG hr h => ?_)
  · obtain ⟨t, a, ns, ks, rfl, _⟩ := h
    rfl
  · obtain ⟨t, a, ns, ks, rfl, att, R, q⟩ := h
    refine ⟨_, pss_cons (ps_if (PW.pt (pw_or (pt_not (pt_val (pe_is (t := "tuple") (.inr (.inr (.inr (.inl rfl)))) (by rfl) N.T.isi (by rfl) N.T.tuple (by decide +kernel) (pv 1) mono_var)))
        (pw_or1 (pt_cmpR op_gt (pe_callB call_len_seq (by rfl) N.T.len PySem.boot_len (pa_cons (pv 1) pa_nil)) (pe_glob (v := .int 40) (by rfl) mM ⟨tm, rfl⟩) (nomark _)))))
        (pss_one (ps_ret pe_bl)) pss_nil)
      (pss_cons (ps_if (pt_not (pt_val (pe_callB (cr_all rfl) (by rfl) N.T.all (by decide +kernel) (pa_cons
        (pe_lc (own := [("tie", 2)]) (g := gName 2) (by rfl) scTies.nd (pi_tup (pv 1))
          (blkOk_by (N := nT) (sc := defScope sAreTies) (own := [("tie", 2)]) (by decide +kernel)) (fun _ _ _ _ _ => pg_name (i := 2) scTies.nd rfl (Or.inl rfl)) (fun _ _ _ _ _ => pts_nil)
          (fun _ _ _ _ _ => pe_and (pe_callV (E := fun _ _ _ _ => False) hG GT hr (by rfl) B.mT B.FT.kp B.bT .nil (fun _ => passAt0) (pa_cons (pv 2) pa_nil))
            (pe_and (pe_cmpR (op_inK (K := K) rfl) (pe_ix (ix_tupK (K := K) rfl) (pv 2) pe_int (fun _ _ => rfl)) (pv 0) (by rfl))
              (pe_one (pe_cmpR (op_inK (K := K) rfl) (pe_ix (ix_tupK (K := K) rfl) (pv 2) pe_int (fun _ _ => rfl)) (pv 0) (by rfl)))))) pa_nil)))) (pss_one (ps_ret pe_bl)) pss_nil)
        (pss_one (ps_ret (pe_callV (E := fun _ _ _ _ => False) hG GC (hr.mono (by decide)) (by rfl) B.mC B.FC.kp B.bC .nil (fun _ => passAt0) (pa_cons (pv 1) pa_nil))))), ?_⟩
    refine ⟨_, rfl, _, Kn.rd R.at_, _, rfl, ?_⟩
    dsimp only
    rw [if_neg (by decide)]
    refine ⟨_, rfl, a, _, rfl, .inr (Or.inl R.at_), _, _, rfl, rfl, _, rfl, ?_⟩
    dsimp only
    have ln : ((ks.map fun k => V.ref k.1).length : Int) = ((ks.map (·.2)).length : Int) := by rw [List.length_map, List.length_map]
    by_cases d : (ks.map (·.2)).length ≤ 40
    · have e1 : decide (((ks.map fun k => V.ref k.1).length : Int) > 40) = false := decide_eq_false (by rw [ln]; omega)
      rw [if_neg (by rw [e1]; decide)]
      have eb : tiesB ns (ks.map (·.2)) = ((ks.map (·.2)).all (tieIn ns) && (stepsT (ks.map (·.2))).all id) := by
        unfold tiesB
        rw [decide_eq_true d, Bool.true_and]
      refine ⟨_, rfl, a, rfl, ⟨_, Or.inl R.at_⟩, fun D nD => ?_⟩
      refine lc_tup (K := K) (a := a) (xs := ks.map fun k => V.ref k.1) (fun i Hc => Same H Hc ∧ Hc D = some (.lst (((ks.map fun k => tieIn ns k.2).take i).map V.bl))) ⟨same_upd nD, upd_same⟩ (fun i Hc _ z => Or.inl (rd_same R.at_ z.1)) ?_ ?_
      · rintro i x Hc hx ⟨sm, hD⟩
        rw [List.getElem?_map] at hx
        cases ek : ks[i]? with
        | none => rw [ek] at hx; cases hx
        | some k =>
          rw [ek] at hx
          obtain rfl : V.ref k.1 = x := Option.some.inj hx
          obtain ⟨ka, ksm, kfew⟩ := R.each k (List.mem_of_getElem? ek)
          have last : ∀ H2, Same Hc H2 → ∀ b, b = tieIn ns k.2 → ∃ acc, H2 D = some (.lst acc) ∧ acc.length < sizeLine ∧ Same H (upd H2 D (.lst (acc ++ [.bl b]))) ∧ (upd H2 D (.lst (acc ++ [.bl b]))) D = some (.lst (((ks.map fun k => tieIn ns k.2).take (i + 1)).map V.bl)) := fun H2 s2 b eb => by
            refine ⟨_, s2 _ _ hD, ?_, fun c o e => ?_, ?_⟩
            · rw [List.length_map, List.length_take, List.length_map]
              exact Nat.lt_of_le_of_lt (Nat.le_trans (Nat.min_le_right _ _) R.few) (by decide)
            · rw [upd_ne (ne_of_none e nD)]
              exact s2 _ _ (sm _ _ e)
            · rw [upd_same, eb]
              refine congrArg (fun l => some (HO.lst l)) ?_
              rw [take_one ek, List.map_append]
              rfl
          refine ⟨rfl, _, rfl, k.1, _, rfl, rd_same ka sm, vok_strs ksm, by rw [List.length_map]; exact kfew, fun H2 s2 => ⟨_, rfl, ?_⟩⟩
          have ka2 := rd_same (rd_same ka sm) s2
          have att2 := rd_same (rd_same att sm) s2
          cases c : tieV (k.2.map V.str) with
          | false =>
            rw [if_neg (by decide)]
            exact last H2 s2 false (tie_not c).symm
          | true =>
            rw [if_pos rfl]
            obtain ⟨x, y, exy, et⟩ := tie_two (ns := ns) c
            rw [exy] at ka2
            refine ⟨_, rfl, k.1, _, 0, .str x, rfl, rfl, Or.inl ka2, by rfl, _, rfl, t, _, rfl, .inr (Or.inl att2), rfl, strs_flat ns, _, rfl, ?_⟩
            by_cases c1 : inV (.str x) (ns.map V.str) = true
            · rw [if_pos (by exact c1)]
              refine ⟨_, rfl, k.1, _, 1, .str y, rfl, rfl, Or.inl ka2, by rfl, _, rfl, t, _, rfl, .inr (Or.inl att2), rfl, strs_flat ns, ?_⟩
              exact last H2 s2 _ (by rw [et, c1]; rfl)
            · rw [if_neg (by exact c1)]
              exact last H2 s2 false (by rw [et, Bool.eq_false_iff.mpr c1]; rfl)
      · rintro Hc ⟨sm, hD⟩
        rw [List.take_of_length_le (by simp)] at hD
        refine ⟨D, ks.map fun k => tieIn ns k.2, rfl, SqL.of hD, _, rfl, ?_⟩
        have ea : (ks.map fun k => tieIn ns k.2).all id = (ks.map (·.2)).all (tieIn ns) := by
          rw [List.all_map, List.all_map]
          rfl
        rw [ea]
        dsimp only
        cases c : (ks.map (·.2)).all (tieIn ns) with
        | false =>
          rw [if_pos (by decide)]
          rw [c, Bool.false_and] at eb
          rw [eb] at q
          exact q _ sm
        | true =>
          rw [if_neg (by decide)]
          rw [c, Bool.true_and] at eb
          refine ⟨_, rfl, asc_row (E := fun _ _ _ => False) (R.same sm) fun H2 s2 => ?_⟩
          rw [← eb]
          exact q _ (same_trans sm s2)
    · have e1 : decide (((ks.map fun k => V.ref k.1).length : Int) > 40) = true := decide_eq_true (by rw [ln]; omega)
      have eb : tiesB ns (ks.map (·.2)) = false := by
        unfold tiesB
        rw [decide_eq_false d, Bool.false_and]
      rw [if_pos e1]
      rw [eb] at q
      exact q _ fun _ _ e => e
end
end Lx

/-! Tuples known to their object: tuple(xs), t.m(..). -/
namespace Fw
open PySem PySem.Spec PyProof.Rows L2
/-- at a stands a tuple of these, of no dict -/
def TupK (H : Hp) (a : Addr) (xs : List V) : Prop := ∃ o : Obj, o.dict = none ∧ H a = some (.frz o (.tup xs))
theorem TupK.rd {H : Hp} {a : Addr} {xs : List V} (h : TupK H a xs) : Rd H a (.tup xs) := by
  obtain ⟨o, _, e⟩ := h
  exact .inr ⟨o, e⟩
theorem TupK.same {H H' : Hp} {a : Addr} {xs : List V} (h : TupK H a xs) (s : Same H H') : TupK H' a xs := by
  obtain ⟨o, d, e⟩ := h
  exact ⟨o, d, s _ _ e⟩
theorem TupK.new {H : Hp} {a : Addr} {o : Obj} {xs : List V} (d : o.dict = none) : TupK (upd H a (.frz o (.tup xs))) a xs := ⟨o, d, upd_same⟩
section
variable {X : Cx}
/-- tuple(xs): the new one is known to its object -/
def rTupF (K : PySem.W.Frag) : List V → Hp → VK → Prop := fun vs H Q => ∃ p ys, vs = [.ref p] ∧ ((SqL K H p ys ∧ ∀ l (o : Obj), H l = none → o.dict = none → Q (.ref l) (upd H l (.frz o (.tup ys)))) ∨ (SqT K H p ys ∧ Q (.ref p) H))
theorem cr_tupF : CallR X (.type "tuple") (rTupF X.K) := by
  intro pins s σ H vs us Q I r z
  obtain ⟨p, ys, rfl, z⟩ := z
  rw [Vals.ref1 r]
  rcases z with ⟨hq, q⟩ | ⟨hq, q⟩
  · obtain ⟨its, rv, pl, hz⟩ := I.list hq
    have len := rv.length
    refine call_tuple_list pl.isList (fun h' kp => ?_) (by rw [List.size_toArray]; omega)
    have J : Inv X pins σ H { s with heap := h' } := I.kept (t' := s.toks) kp
    let o : Obj := { cls := .type "tuple", data := .seq its.toArray }
    have J2 : Inv X pins σ (upd H h'.objs.size (.frz o (.tup ys))) { s with heap := h'.push o } :=
      J.laid (t' := s.toks) (fun b u e => Heap.get?_push_of_some _ e) (Nat.le_refl _) ⟨Heap.get?_push_size _ rfl, hz, its, rv, IsTup.new _ _⟩
    exact ⟨.ref h'.objs.size, _, J2, rfl, q _ o (J.hok.fresh (Nat.le_refl _)) rfl⟩
  · obtain ⟨its, rv, pl, hz⟩ := I.tuple hq
    exact call_tuple_same pl ⟨.ref p, H, I, rfl, q⟩
/-- t.m(e, ..), t a tuple known to its object -/
def tBMF (r : V → List V → Hp → VK → Prop) (to : TE) (t : TA) : TE := fun σ H Q => to σ H fun x H1 => (∃ a xs, x = .ref a ∧ TupK H1 a xs) ∧ t σ H1 fun vs H2 => r x vs H2 Q
variable {o e : Expr} {es : List Expr} {to : TE} {t : TA} {name : Str} {apos cpos : Pos} {id : String} {r : V → List V → Hp → VK → Prop}
theorem pe_bmF (pa : PlainAttrs "tuple") (slot : Slot "tuple" name id) (hty : typeOf (.builtin id) = pure (.type "method_descriptor")) (hm : MtR X id r) (ho : PE X o to) (ha : PA X (e :: es) t)
    (hb : attributeBase o name X.env (eval o X.env) = eval o X.env := by rfl)
    (hf : ((backTo cpos (starEach (e :: es) X.env)).all (fun x => !x.1) && (backToKw cpos (keywordEach [] X.env)).all (fun x => x.1.isSome) && decide ((e :: es).length + ([] : List Keyword).length + (if ([] : List Keyword).isEmpty then 0 else 1) < 30)) = true := by rfl)
    (hl : (apos.endLine == cpos.line) = true := by rfl) (hs : starEach (e :: es) X.env = (false, eval e X.env) :: starEach es X.env := by rfl) (hp : (backTo cpos (starEach es X.env)).any (·.1) = false := by rfl) :
    PE X (.Call (.Attribute o name apos) (e :: es) [] cpos) (tBMF r to t) := by
  refine ⟨fun pins s σ H Q I h => ?_⟩
  refine wpAny_Call_method_late hb hf hl rfl (thn (ho.run pins s σ H _ I h) fun v s1 ⟨x, H1, I1, r1, ty, q1⟩ => ?_)
  obtain ⟨a, xs, rfl, ob, hd, at_⟩ := ty
  cases r1
  obtain ⟨e1, _, its, _, o2, e2, c, _⟩ := I1.hok a _ at_
  obtain rfl : ob = o2 := Option.some.inj (e1.symm.trans e2)
  refine ⟨"tuple", id, pa, slot, hty, ⟨ob, e1, c⟩, fun b z => ?_, ?_⟩
  · cases z
    exact ⟨ob, e1, hd⟩
  · have A := ha.run cpos pins s1 σ H1 _ I1 q1
    rw [hs] at A ⊢
    exact Calls.callWith_builtin (by show (false || (backTo cpos (starEach es X.env)).any (·.1)) = false; rw [hp]; rfl) (Calls.evalArgs_plain (thn A fun us s2 ⟨vs, H2, I2, r2, q2⟩ => hm pins s2 σ H2 (.ref a) vs (.ref a) us Q I2 (show RelV (.ref a) (.ref a) from rfl) r2 q2))
end
end Fw

/-! Strictly ascending lists are told by their members. -/
namespace Fw
open PySem PySem.Spec PyProof.Rows L2
theorem asc_head {α : Type} {R : α → α → Prop} (irr : ∀ a, ¬ R a a) (tr : ∀ a b c, R a b → R b c → R a c) {x y : α} {l m : List α} (h1 : (x :: l).Pairwise R) (h2 : (y :: m).Pairwise R) (same : ∀ z, z ∈ x :: l ↔ z ∈ y :: m) : x = y := by
  obtain ⟨a1, _⟩ := List.pairwise_cons.mp h1
  obtain ⟨a2, _⟩ := List.pairwise_cons.mp h2
  rcases List.mem_cons.mp ((same x).mp List.mem_cons_self) with e | m1
  · exact e
  · rcases List.mem_cons.mp ((same y).mpr List.mem_cons_self) with e | m2
    · exact e.symm
    · exact absurd (tr _ _ _ (a1 y m2) (a2 x m1)) (irr x)
theorem asc_unique {α : Type} {R : α → α → Prop} (irr : ∀ a, ¬ R a a) (tr : ∀ a b c, R a b → R b c → R a c) : ∀ {l m : List α}, l.Pairwise R → m.Pairwise R → (∀ z, z ∈ l ↔ z ∈ m) → l = m
  | [], [], _, _, _ => rfl
  | [], y :: m, _, _, h => absurd ((h y).mpr List.mem_cons_self) (by simp)
  | x :: l, [], _, _, h => absurd ((h x).mp List.mem_cons_self) (by simp)
  | x :: l, y :: m, h1, h2, h => by
    have e := asc_head irr tr h1 h2 h
    subst e
    obtain ⟨a1, b1⟩ := List.pairwise_cons.mp h1
    obtain ⟨a2, b2⟩ := List.pairwise_cons.mp h2
    refine congrArg (x :: ·) (asc_unique irr tr b1 b2 fun z => ⟨fun m1 => ?_, fun m1 => ?_⟩)
    · rcases List.mem_cons.mp ((h z).mp (List.mem_cons_of_mem _ m1)) with e | m2
      · exact absurd (e ▸ a1 z m1) (irr _)
      · exact m2
    · rcases List.mem_cons.mp ((h z).mpr (List.mem_cons_of_mem _ m1)) with e | m2
      · exact absurd (e ▸ a2 z m1) (irr _)
      · exact m2
/-- strictly ascending rows of texts, of tuples of texts -/
def AscN (ns : List Str) : Prop := ns.Pairwise fun x y => x.cps.toList < y.cps.toList
def AscT (ts : List (List Str)) : Prop := ts.Pairwise fun x y => ltT x y = true
theorem AscN.same {l m : List Str} (a : AscN l) (b : AscN m) (h : ∀ z, z ∈ l ↔ z ∈ m) : l = m := asc_unique (R := fun (x y : Str) => x.cps.toList < y.cps.toList) (fun a => List.lt_irrefl _) (fun a b c => List.lt_trans) a b h
theorem AscT.same {l m : List (List Str)} (a : AscT l) (b : AscT m) (h : ∀ z, z ∈ l ↔ z ∈ m) : l = m :=
  asc_unique (R := fun (x y : List Str) => ltT x y = true) (fun a z => by rw [ltT_irrefl] at z; cases z) (fun a b c => ltT_trans) a b h
theorem str_of_cps {x y : Str} (h : x.cps.toList = y.cps.toList) : x = y := by
  have c : x.cps = y.cps := Array.toList_inj.mp h
  cases x
  cases y
  simp only [Str.mk.injEq]
  exact c
/-- what sorted leaves of different texts -/
theorem rising_asc : ∀ (r : List Str) (x : Str), risingS x r = true → (x :: r).Nodup → (∀ y ∈ r, x.cps.toList < y.cps.toList) ∧ AscN r
  | [], x, _, _ => ⟨fun y m => absurd m (by simp), List.Pairwise.nil⟩
  | y :: r, x, h, nd => by
    have h' : (!ltCps y.cps.toList x.cps.toList && risingS y r) = true := h
    obtain ⟨h1, h2⟩ := Bool.and_eq_true_iff.mp h'
    obtain ⟨n1, n2⟩ := List.nodup_cons.mp nd
    obtain ⟨b1, b2⟩ := rising_asc r y h2 n2
    have le : ¬ y.cps.toList < x.cps.toList := fun l => by
      rw [ltCps_eq, decide_eq_true l] at h1
      cases h1
    have lt : x.cps.toList < y.cps.toList := by
      by_cases c : x.cps.toList < y.cps.toList
      · exact c
      · exact absurd (str_of_cps (List.le_antisymm (List.not_lt.mp le) (List.not_lt.mp c))) fun z => n1 (z ▸ List.mem_cons_self)
    refine ⟨fun z m => ?_, List.pairwise_cons.mpr ⟨b1, b2⟩⟩
    rcases List.mem_cons.mp m with e | m
    · rw [e]
      exact lt
    · exact List.lt_trans lt (b1 z m)
theorem ascN_of {ys : List Str} (so : sortedS ys = true) (nd : ys.Nodup) : AscN ys := by
  cases ys with
  | nil => exact List.Pairwise.nil
  | cons x r =>
    obtain ⟨a, b⟩ := rising_asc r x so nd
    exact List.pairwise_cons.mpr ⟨a, b⟩
end Fw

/-! t in ts: a tuple of texts among such tuples. A def that is called by what it takes (FnR), without a star. -/
namespace Fw
open PySem PySem.Spec PyProof.Rows L2 PySem.W PySem.SeqAt
theorem eqv_txt : ∀ j k : List Str, PyData.eqvAll (j.map PyData.str) (k.map PyData.str) = decide (j = k)
  | [], [] => rfl
  | [], y :: k => rfl
  | x :: j, [] => rfl
  | x :: j, y :: k => by
    show (x == y && PyData.eqvAll (j.map PyData.str) (k.map PyData.str)) = _
    rw [eqv_txt j k]
    by_cases a : x = y
    · subst a
      by_cases b : j = k
      · subst b
        simp
      · simp [b]
    · simp [a]
/-- is the value one of these addresses, of these texts? -/
def isAt (ks : List (Addr × List Str)) (j : List Str) (v : Value) : Bool := ks.any fun k => (match v with | .ref a => a == k.1 | _ => false) && decide (k.2 = j)
theorem strs_inj : ∀ {j k : List Str}, j.map V.str = k.map V.str → j = k
  | [], [], _ => rfl
  | [], _ :: _, h => by cases h
  | _ :: _, [], h => by cases h
  | x :: j, y :: k, h => by
    obtain ⟨a, b⟩ := List.cons.inj h
    cases a
    rw [strs_inj b]
theorem rd_inj {H : Hp} {a : Addr} {xs ys : List V} (h : Rd H a (.tup xs)) (h' : Rd H a (.tup ys)) : xs = ys := by
  rcases h with h | ⟨o, h⟩ <;> rcases h' with h' | ⟨o', h'⟩ <;> (rw [h] at h'; cases h') <;> rfl
section
variable {X : Cx}
def rInX (K : PySem.W.Frag) (neg : Bool) : R2 := fun x y H Q => ∃ (a b : Addr) (j : List Str) (ks : List (Addr × List Str)), x = .ref a ∧ y = .ref b ∧ Rd H a (.tup (j.map V.str)) ∧ SqT K H b (ks.map fun k => V.ref k.1) ∧ (∀ k ∈ ks, Rd H k.1 (.tup (k.2.map V.str))) ∧
  Q (.bl (if neg then !decide (j ∈ ks.map (·.2)) else decide (j ∈ ks.map (·.2)))) H
theorem inX_run (hu : X.A.units + 64 < cLine) {pins : List (Addr × Obj)} {σ : L2.St} {H : Hp} {s : Shared} {a b : Addr} {j : List Str} {ks : List (Addr × List Str)} (I : Inv X pins σ H s) (ha : Rd H a (.tup (j.map V.str))) (hb : SqT X.K H b (ks.map fun k => V.ref k.1)) (each : ∀ k ∈ ks, Rd H k.1 (.tup (k.2.map V.str))) :
    ∃ items : Array Value, s.heap.IsTuple b items ∧ (∀ y, y ∈ items → EqAt X.A.in1 s y (.ref a) (isAt ks j y)) ∧ items.any (isAt ks j) = decide (j ∈ ks.map (·.2)) := by
  obtain ⟨its, rv, pl, _⟩ := I.tuple hb
  have eits := vals_refsP_inv ks rv
  subst eits
  obtain ⟨its2, r2, ⟨o2, h2, c2, n2, d2⟩, _⟩ := I.tuple (show SqT X.K H a (j.map V.str) from .inl ha)
  refine ⟨_, pl, fun y m => ?_, ?_⟩
  · obtain ⟨k, mk, rfl⟩ := List.mem_map.mp (show y ∈ ks.map fun p => Value.ref p.1 from List.mem_toArray.mp m)
    obtain ⟨its1, r1, ⟨o1, h1, c1, n1, d1⟩, _⟩ := I.tuple (show SqT X.K H k.1 (k.2.map V.str) from .inl (each k mk))
    have z := eqAt_alike (.tuple (k.2.map PyData.str)) (.tuple (j.map PyData.str)) X.A.in1 s (.ref k.1) (.ref a) _ _ (Reads.tuple h1 c1 d1 (by simpa using reads_txt r1)) (Reads.tuple h2 c2 d2 (by simpa using reads_txt r2)) (by rw [alike]; exact alike_txt k.2 j) (by
      show X.A.units + 1 + min (PyData.depthAll (k.2.map PyData.str) + 1) (PyData.depthAll (j.map PyData.str) + 1) < cLine
      rw [flat_txt, flat_txt]
      omega)
    have e1 : PyData.eqv (.tuple (k.2.map PyData.str)) (.tuple (j.map PyData.str)) = isAt ks j (.ref k.1) := by
      show PyData.eqvAll _ _ = _
      rw [eqv_txt]
      by_cases c : k.2 = j
      · rw [decide_eq_true c]
        exact (List.any_eq_true.mpr ⟨k, mk, by simp [c]⟩).symm
      · rw [decide_eq_false c]
        refine (Bool.eq_false_iff.mpr fun t => ?_).symm
        obtain ⟨k', mk', t'⟩ := List.any_eq_true.mp t
        obtain ⟨t1, t2⟩ := Bool.and_eq_true_iff.mp t'
        have ea : k.1 = k'.1 := by simpa using t1
        have e3 := each k' mk'
        rw [← ea] at e3
        exact c ((strs_inj (rd_inj (each k mk) e3)).trans (of_decide_eq_true t2))
    rw [← e1]
    exact z
  · by_cases c : j ∈ ks.map (·.2)
    · rw [decide_eq_true c]
      obtain ⟨k, mk, e⟩ := List.mem_map.mp c
      rw [← Array.any_toList]
      exact List.any_eq_true.mpr ⟨.ref k.1, List.mem_map.mpr ⟨k, mk, rfl⟩, List.any_eq_true.mpr ⟨k, mk, by simp [e]⟩⟩
    · rw [decide_eq_false c, ← Array.any_toList]
      refine Bool.eq_false_iff.mpr fun t => ?_
      obtain ⟨v, _, t'⟩ := List.any_eq_true.mp t
      obtain ⟨k, mk, t2⟩ := List.any_eq_true.mp t'
      exact c (List.mem_map.mpr ⟨k, mk, of_decide_eq_true (Bool.and_eq_true_iff.mp t2).2⟩)
theorem op_inX (hu : X.A.units + 64 < cLine) : OpR X (compareOp .In) (rInX X.K false) := by
  intro pins s σ H x y v u Q I rx ry h
  obtain ⟨a, b, j, ks, rfl, rfl, ha, hb, each, q⟩ := h
  cases rx
  cases ry
  obtain ⟨items, e1, e2, e3⟩ := inX_run hu I ha hb each
  exact in_tupleAt (isAt ks j) e1 e2 ⟨.bl _, H, I, rfl, by rw [e3]; exact q⟩
theorem op_notInX (hu : X.A.units + 64 < cLine) : OpR X (compareOp .NotIn) (rInX X.K true) := by
  intro pins s σ H x y v u Q I rx ry h
  obtain ⟨a, b, j, ks, rfl, rfl, ha, hb, each, q⟩ := h
  cases rx
  cases ry
  obtain ⟨items, e1, e2, e3⟩ := inX_run hu I ha hb each
  exact notIn_tupleAt (isAt ks j) e1 e2 ⟨.bl _, H, I, rfl, by rw [e3]; exact q⟩
variable {CX : CXT} {k : Nat} {f : Addr} {sp : Sp} {E : XK} {x : Str} {p pos : Pos} {e : Expr} {es : List Expr} {t : TA}
/-- f(e, ..), said by what f takes -/
theorem pe_callR (F : FnR X.prog X.w X.K X.mg X.base CX k f sp) (hr : Room k X.A) (hg : Gl X x) (hm : X.mg x = some (.ref f)) (hk : PySem.W.keepIn X.K (.ref f) = true) (hx : Passes CX X E) (ha : PA X (e :: es) t) (hd : (x == ("__debug__" : Str)) = false := by decide)
    (he : starEach (e :: es) X.env = (false, eval e X.env) :: starEach es X.env := by rfl) (hp : (backTo pos (starEach es X.env)).any (·.1) = false := by rfl) :
    PE X (.Call (.Name x p) (e :: es) [] pos) (fun σ H Q => t σ H fun vs H1 => sp vs H1 Q E) :=
  ⟨fun pins s σ H Q I h => wpAny_Call_Name_kw (ld_glob I hg hm (PySem.W.callWith_K (h₀ := X.base) I.ok.mod.kin hk (thn (ha.run pos pins s σ H _ I h) fun us s1 ⟨vs, H1, I1, r, q⟩ => ⟨I1.kIn, wpAny_call (run_fnR F hr hx I1 r q)⟩) he hp) hd)⟩
end
end Fw

/-! for i, x in enumerate(t), t a tuple. -/
namespace Fw
open PySem PySem.Spec PyProof.Rows L2
set_option maxHeartbeats 1000000 in
theorem meets_enumT {v : Value} {o : Obj} {H : Heap → Prop} (B : Begins v o H) :
    Meets (Builtin.«enumerate.__new__» ⟨[.type "enumerate", v], []⟩) (fun _ R s => H s.heap ∧
      R (.ok (.ret (.ref (s.heap.push o).objs.size))) { s with heap := (s.heap.push o).push { cls := .type "enumerate", data := .fields #[.none, .bool false, .ref s.heap.objs.size, rawInt 0, .none, .none] } }) :=
  .of_wp fun prog w A R s z => by
    obtain ⟨h0, z⟩ := z
    obtain ⟨hp, g, d, tk, os⟩ := s
    have sb := sub_enumerate
    have go : ∀ {A' : Around} {E : Value → Shared → Prop} {Q : Value → Shared → Prop}, Q (.ref hp.objs.size) ⟨hp.push o, g, d, tk, os⟩ → wpAny (model prog w) A' (pyIter v) Q E ⟨hp, g, d, tk, os⟩ :=
      fun y => B.iter prog w _ _ ⟨hp, g, d, tk, os⟩ _ h0 y
    wp_walk using go
    refine wpAny_stack_any fun st => wpAny_pure ?_
    split
    · rename_i c _ _ _ _ _
      cases (c == Value.type "enumerate") <;> (wp_walk using go) <;> exact ⟨_, rfl, z⟩
    · wp_walk using go
      exact ⟨_, rfl, z⟩
section
variable {prog : Program} {w : World} {A : Around} {E : Value → Shared → Prop} {s : Shared}
/-- enumerate(v): its two new cells -/
theorem call_enumT {v : Value} {o : Obj} {H : Heap → Prop} {Q : Value → Shared → Prop} (B : Begins v o H) (h0 : H s.heap)
    (q : ∀ h', IsEnum h' (s.heap.objs.size + 1) s.heap.objs.size 0 .none → h'.get? s.heap.objs.size = some o → (∀ b u, s.heap.get? b = some u → h'.get? b = some u) → Q (.ref (s.heap.objs.size + 1)) { s with heap := h' }) :
    wpAny (model prog w) A (call (.type "enumerate") [v]) Q E s := by
  refine callType_new F.called_enumerate (by decide) (F.typeCall_enumerate_1 _) (F.newCall_enumerate_1 _) (fun obj => F.args_object_init_2 obj _) F.entry_enumerate_new (meets_enumT B) ⟨h0, ?_⟩
  have sz : (s.heap.push o).objs.size = s.heap.objs.size + 1 := Heap.size_push ..
  show _ ∧ _
  rw [sz]
  have at_ : IsEnum ((s.heap.push o).push { cls := .type "enumerate", data := .fields #[.none, .bool false, .ref s.heap.objs.size, rawInt 0, .none, .none] }) (s.heap.objs.size + 1) s.heap.objs.size 0 .none := by
    have y := Heap.get?_push_size (s.heap.push o) (o := { cls := .type "enumerate", data := .fields #[.none, .bool false, .ref s.heap.objs.size, rawInt 0, .none, .none] }) rfl
    rwa [sz] at y
  exact ⟨⟨_, at_, rfl⟩, q _ at_ (Heap.get?_push_of_some _ (Heap.get?_push_size _ B.free)) fun b u e => Heap.get?_push_of_some _ (Heap.get?_push_of_some _ e)⟩
end
/-- the tuple at a, each item in a new pair with its place -/
def IteT (K : PySem.W.Frag) (a : Addr) : It :=
  ⟨fun i H => ∃ (xs : List V) (x : V), SqT K H a xs ∧ xs[i]? = some x, fun i H v H' => ∃ T x, v = .ref T ∧ H T = none ∧ H' = upd H T (.tup [.int (i : Nat), x]) ∧ ∀ xs, SqT K H a xs → xs[i]? = some x, fun i H => ∃ xs : List V, SqT K H a xs ∧ xs.length = i⟩
theorem turn_enumT {P : Program} {w : World} {K : PySem.W.Frag} {elts : List Expr} {kk : Nat} {tpos : Pos} (a e it : Addr) :
    Turn P w K (.Tuple elts kk tpos) (IteT K a) [e, it] e (fun i h => (∃ old, IsEnum h e it ((i : Nat) : Int) old) ∧ h.IsTupleIter it a i ∧ e ≠ it ∧ a ≠ it ∧ a ≠ e) where
  mem := by simp
  obj := fun i h st b hb => by
    obtain ⟨⟨old, he⟩, ⟨o, ho, hc, hd⟩, _⟩ := st
    rcases (show b = e ∨ b = it by simpa using hb) with z | z
    · rw [z]
      exact ⟨_, he, fun v q => nomatch q⟩
    · rw [z]
      exact ⟨o, ho, fun v q => by rw [hd] at q; cases q⟩
  keep := fun i h h' st k => by
    obtain ⟨⟨old, he⟩, hi, n1, n2, n3⟩ := st
    exact ⟨⟨old, k e (by simp) _ he⟩, hi.at fun o q => k it (by simp) o q, n1, n2, n3⟩
  item := by
    intro X hP hw hK hc i pins s σ H E I hf st hg
    subst hP hw hK
    obtain ⟨⟨old, he⟩, hit, n1, n2, n3⟩ := st
    obtain ⟨xs, x, hq, hx⟩ := hg
    obtain ⟨its, rv, p, _⟩ := I.tuple hq
    obtain ⟨u, hu, ru⟩ := rv.get hx
    have le : e < s.heap.objs.size := Heap.lt_size he
    have li : it < s.heap.objs.size := by
      obtain ⟨_, q, _⟩ := hit
      exact Heap.lt_size q
    have D := Draws.tuple (prog := X.prog) (w := X.w) (A := X.A.in1) (by simpa using I.ok.hd hc) it a n2 its.toArray
    have lt : i < its.toArray.size := by
      have z := (List.getElem?_eq_some_iff.mp hu).1
      simpa using z
    refine wpAny_pyNext_enum_itemD D he ⟨hit, p⟩ lt n1 (by simp [n1, n3.symm]) fun y h' tk py ho st' hT sz hk => ?_
    have ey : y = u := by
      have z : its.toArray[i]? = some u := by simpa using hu
      rw [z] at py
      exact (Option.some.inj py).symm
    subst ey
    refine ⟨_, rfl, wpAny_letOwnedTupleGo_enum (s := { s with heap := h', toks := tk + 1 }) ho fun h'' he' sb => ?_⟩
    have hT2 : h''.get? s.heap.objs.size = some { cls := .type "tuple", data := .seq #[.int i tk, y] } := (sb.2 _ (Nat.ne_of_gt le)).trans hT
    have new : ObjOk X.prog X.w (upd H s.heap.objs.size (.tup [.int (i : Nat), x])) h'' s.heap.objs.size (.tup [.int (i : Nat), x]) :=
      ⟨by show 2 ≤ sizeLine; decide, [.int i tk, y], .cons ⟨_, rfl⟩ (.cons ru .nil), ⟨_, hT2, rfl, _, rfl⟩⟩
    have J : Inv X pins σ (upd H s.heap.objs.size (.tup [.int (i : Nat), x])) { s with heap := h'', toks := tk + 1 } :=
      I.turnedNew (ch := [e, it]) (fun b o hb q => (sb.2 b (fun z => hb (by simp [z]))).trans (hk b o (fun z => hb (by simp [z])) (fun z => hb (by simp [z])) q)) hf (Nat.le_refl _) new
    refine ⟨.ref s.heap.objs.size, _, J, rfl, ⟨_, x, rfl, I.hok.fresh (Nat.le_refl _), rfl, fun ys hy => by rw [I.tuple_inj hy hq]; exact hx⟩, ⟨⟨y, ?_⟩, st'.1.at fun o q => (sb.2 it n1.symm).trans q, n1, n2, n3⟩, fun b hb => ?_⟩
    · rw [show ((i + 1 : Nat) : Int) = (i : Int) + 1 by omega]
      exact he'
    · have lb : b < s.heap.objs.size := by
        rcases (show b = e ∨ b = it by simpa using hb) with z | z
        · rw [z]; exact le
        · rw [z]; exact li
      rw [upd_ne (Nat.ne_of_lt lb)]
      exact (hf b hb).1
  done := by
    intro X hP hw hK hc i pins s σ H E I hf st hg
    subst hP hw hK
    obtain ⟨⟨old, he⟩, hit, n1, n2, n3⟩ := st
    obtain ⟨xs, hq, hx⟩ := hg
    obtain ⟨its, rv, p, _⟩ := I.tuple hq
    obtain ⟨f0, f1, f2, f3, f4, f5⟩ := hf it (by simp)
    have D := Draws.tuple (prog := X.prog) (w := X.w) (A := X.A.in1) (by simpa using I.ok.hd hc) it a n2 its.toArray
    have ei : i = its.toArray.size := by
      rw [List.size_toArray, ← rv.length]
      exact hx.symm
    exact wpAny_pyNext_enum_endD D he ⟨ei ▸ hit, p⟩ fun h' eb => ⟨rfl, I.turned (t' := s.toks) (fun b o hb q => eb b o hb q) f0 f1 f3 f4 f5⟩
  self := fun A i s Q E st h => by
    obtain ⟨⟨_, he⟩, _⟩ := st
    exact wpAny_pyIter_enum he h
theorem walk_enumT {K : PySem.W.Frag} {a : Addr} {xs : List V} : Walk (IteT K a) xs.length (fun H => SqT K H a xs) (YPair (fun i => some (.int (i : Nat))) (fun i => xs[i]?)) := by
  refine ⟨fun i _ hi q => ⟨xs, xs[i], q, by simp [hi]⟩, fun _ q => ⟨xs, q, rfl⟩, fun i H v H' _ q y => ?_⟩
  obtain ⟨T, x, h1, h2, h3, h4⟩ := y
  exact ⟨T, .int (i : Nat), x, h1, h2, h3, rfl, h4 xs q⟩
def iEnumT (K : PySem.W.Frag) (ta : TA) : TI := fun σ H R => ta σ H fun vs H1 => ∃ a xs, vs = [.ref a] ∧ SqT K H1 a xs ∧ R (IteT K a) H1
theorem pi_enumT {X : Cx} {e : Expr} {ta : TA} {p pos tpos : Pos} {elts : List Expr} {kk : Nat} (hg : Gl X "enumerate") (hm : X.mg "enumerate" = none) (ha : PA X [e] ta) (hs : starEach [e] X.env = [(false, eval e X.env)] := by rfl) :
    PI X (.Tuple elts kk tpos) (.Call (.Name "enumerate" p) [e] [] pos) (iEnumT X.K ta) := by
  refine ⟨fun pins s σ H R I h => ?_⟩
  refine Call_ (ld_blt I hg hm boot_enumerate (PyProof.Rows.callWith_type1 (thn (ha.run pos pins s σ H _ I h) fun us s1 ⟨vs, H1, I1, r1, q1⟩ => ?_) hs rfl))
  obtain ⟨a, xs, ex, hq, q⟩ := q1
  subst ex
  rw [Vals.ref1 r1]
  obtain ⟨its, rv, p', _⟩ := I1.tuple hq
  have la : a < s1.heap.objs.size := by
    obtain ⟨o, ho, _⟩ := id p'
    exact Heap.lt_size ho
  refine call_enumT (begins_tuple a its.toArray) p' fun h' he hit hk => wpAny_pyIter_enum he ?_
  have I2 : Inv X pins σ H1 { s1 with heap := h' } := I1.kept (t' := s1.toks) hk
  refine ⟨s1.heap.objs.size + 1, [s1.heap.objs.size + 1, s1.heap.objs.size], _, _, H1, rfl, I2, turn_enumT a (s1.heap.objs.size + 1) s1.heap.objs.size, ⟨⟨.none, he⟩, ⟨_, hit, rfl, rfl⟩, Nat.succ_ne_self _, Nat.ne_of_lt la, Nat.ne_of_lt (Nat.lt_succ_of_lt la)⟩, fun b hb => ?_, q⟩
  have ge : s1.heap.objs.size ≤ b := by
    rcases (show b = s1.heap.objs.size + 1 ∨ b = s1.heap.objs.size by simpa using hb) with z | z
    · rw [z]; exact Nat.le_add_right _ _
    · rw [z]; exact Nat.le_refl _
  exact I1.fpOk ge (I1.hok.fresh ge)
end Fw

/-! d = {k: v for .. in ..}: a dict comprehension that is stored in a local at once; over what is walked in n turns. -/
namespace Fw
open PySem PySem.Spec PyProof.Rows L2
section
variable {X : Cx} {kx vx tgt src : Expr} {tests : List Expr} {sc : Scope} {mine : List (Str × Nat)} {dpos apos npos : Pos} {y : Str} {wi : TI} {g : TG} {tt : TT} {tk tv : TE}
theorem swapsDc {l : Nat} {env : Env} {gs : List Comprehension} (kd : env.scope.kind = .function) (loc : env.scope.names.lookup y = some .local) (line : (npos.line == dpos.line) = true)
    (out : (sc.names.any fun (n, k) => n == y && (k == .local || k == .cell)) = false) : swapsWith (.DictComp kx vx gs sc dpos) (some (.Name y npos)) l env = pure true := by
  have a : env.kindOf y = some .local := loc
  have b : env.blockKind = .function := by unfold Env.blockKind; rw [kd]; rfl
  unfold swapsWith
  simp only [b, a, out, Expr.pos, line]
  rfl
theorem ps_setDc {i : Nat} (calm : X.calm = true) (nd : X.N.Nodup) (at_ : X.N[i]? = some y) (loc : X.env.scope.names.lookup y = some .local)
    (sw : swapsWith (.DictComp kx vx [⟨tgt, src, tests, 0⟩] sc dpos) (some (.Name y npos)) apos.line X.env = pure true) (walk : PI X tgt src wi) (blk : BlkOk X.N X.env.scope sc mine)
    (rg : ∀ (s : Shared) (H : Hp) (C : Addr) (cl : List (Str × Addr)) (fp : List Addr), PG (X.blk s H sc (compEnvC sc cl C X.env) fp) tgt g) (rt : ∀ (s : Shared) (H : Hp) (C : Addr) (cl : List (Str × Addr)) (fp : List Addr), PTs (X.blk s H sc (compEnvC sc cl C X.env) fp) tests tt)
    (rk : ∀ (s : Shared) (H : Hp) (C : Addr) (cl : List (Str × Addr)) (fp : List Addr), PE (X.blk s H sc (compEnvC sc cl C X.env) fp) kx tk)
    (rv : ∀ (s : Shared) (H : Hp) (C : Addr) (cl : List (Str × Addr)) (fp : List Addr), PE (X.blk s H sc (compEnvC sc cl C X.env) fp) vx tv) (fold : ∀ x, foldedSetIterable src X.env x = pure x := by intro _; rfl) :
    PS X (.Assign [.Name y npos] (.DictComp kx vx [⟨tgt, src, tests, 0⟩] sc dpos) apos) (tAsg (tDc wi g tt tk tv (mine.map (·.2))) (gName i)) := by
  refine ⟨fun pins s σ H D inv goal => ?_⟩
  rw [exec_Assign_Name_used (hs := sw)]
  refine wpAny_bind (wpAny_standAt (wpAny_bind ?_))
  show wpAny _ X.A (do
    let _ ← comprehension (.DictComp kx vx [⟨tgt, src, tests, 0⟩] sc dpos) sc X.env (firstIterPos [⟨tgt, src, tests, 0⟩] dpos) newDict false (eval src X.env) (some (assign (.Name y npos) X.env))) _ _ s
  have goal' : tDc wi g tt tk tv (mine.map (·.2)) σ H (fun x H1 => gName i x σ H1 D.nx) := goal
  refine wpAny_bind (thn (dc_core (Qf := fun _ t => SP X pins D .next t) calm nd inv walk blk rg rt rk rv fold goal' fun L C t m J invJ q lo fr => ?_) fun _ t z => wpAny_pure (wpAny_pure z))
  obtain ⟨n0, n1, n2, n3, n4, n5⟩ := fr
  show wpAny _ _ (assign (.Name y npos) X.env (.ref L)) _ _ _
  refine wpAny_assign_Name (store_ok2 (v := V.ref L) invJ nd at_ (.inl loc) rfl (fun t2 inv2 ⟨a, sb, ha⟩ => ?_) (.inr loc))
  have ne : C ≠ a := by
    rcases ha with z | z
    · rw [z]; exact n1
    · exact fun e => n4 y a z e.symm
  exact ⟨m, lo.sameBut sb ne, fun h3 sb3 => ⟨_, J, inv2.turned (t' := t2.toks) (fun b o nb z => (sb3.2 b nb).trans z) n0 n1 n3 n4 n5, q⟩⟩
end
section
variable {J : It} {n : Nat} {G : Hp → Prop} {Y : Nat → Hp → V → Hp → Prop}
/-- a dict comprehension over it: Pv by the turn and the heap (the new dict at D within) -/
theorem dc_it (wk : Walk J n G Y) {g : TG} {tt : TT} {tk tv : TE} {vs : List Nat} {σ : L2.St} {H1 : Hp} {D : Addr} {Qd : Hp → Prop} (Pv : Nat → Hp → Prop) (start : Pv 0 (upd H1 D (.dK []))) (stays : ∀ i H, i ≤ n → Pv i H → G H)
    (turn : ∀ i x H H', i < n → Pv i H → Y i H x H' → g x (wipe σ vs) H' fun σ2 H2 => wipe σ2 vs = wipe σ vs ∧ tt σ2 H2 fun b H3 =>
      if b = true then tk σ2 H3 fun y H4 => tv σ2 H4 fun z H5 => ∃ kvs k, y = kV k ∧ H5 D = some (.dK kvs) ∧ kvs.length < sizeLine ∧ Pv (i + 1) (upd H5 D (.dK (putK kvs k z))) else Pv (i + 1) H3) (after : ∀ H, Pv n H → Qd H) :
    ∃ W : Nat → Nat → Hp → Prop, (∃ m, W 0 m (upd H1 D (.dK []))) ∧ ∀ i m H, W i m H →
      (J.stop i H ∧ Qd H) ∨ (J.go i H ∧ ∃ Nx : Hp → Prop, (∀ H', Nx H' → ∃ m', m' < m ∧ W (i + 1) m' H') ∧ ∀ x H', J.yld i H x H' → g x (wipe σ vs) H' fun σ2 H2 => wipe σ2 vs = wipe σ vs ∧ tt σ2 H2 fun b H3 =>
        if b = true then tk σ2 H3 fun y H4 => tv σ2 H4 fun z H5 => ∃ kvs k, y = kV k ∧ H5 D = some (.dK kvs) ∧ kvs.length < sizeLine ∧ Nx (upd H5 D (.dK (putK kvs k z))) else Nx H3) := by
  refine ⟨fun i m H => (m = n - i ∧ i ≤ n) ∧ Pv i H, ⟨n, ⟨by simp, Nat.zero_le _⟩, start⟩, ?_⟩
  rintro i m H ⟨⟨rfl, le⟩, pv⟩
  have st := stays i H le pv
  by_cases lt : i < n
  · exact .inr ⟨wk.goes i H lt st, Pv (i + 1), fun H' pv' => ⟨n - (i + 1), by omega, ⟨rfl, lt⟩, pv'⟩, fun x H' y => turn i x H H' lt pv (wk.yields i H x H' lt st y)⟩
  · obtain rfl : i = n := by omega
    exact .inl ⟨wk.stops H st, after H pv⟩
end
end Fw

/-! Webs: is_web_of; the marks of neighbours. -/
namespace Lx
open PySem PySem.Spec PyProof.Rows L2 Fw
def webB (ns : List Str) (ts : List (List Str)) : Bool := placesB ns && tiesB ns ts
def spWebOf : Sp := fun vs H Q _ => ∃ (t a : Addr) (ns : List Str) (ks : List (Addr × List Str)), vs = [.ref t, .ref a] ∧ Rd H t (.tup (ns.map V.str)) ∧ (∀ x ∈ ns, x.length ≤ 1000) ∧ ns.length ≤ 1000 ∧ RowT H a ks ∧ ∀ H', Same H H' → Q (.bl (webB ns (ks.map (·.2)))) H'
structure TxO (K : PySem.W.Frag) (mg : Str → Option Value) (fL fM : Addr) (dL dM : FuncData) : Prop where
  mL : mg "_are_places" = some (.ref fL)
  FL : Fun K "_are_places" "_are_places" sArePlaces fL dL
  bL : Binds K dL ["value"] []
  mM : mg "_are_ties" = some (.ref fM)
  FM : Fun K "_are_ties" "_are_ties" sAreTies fM dM
  bM : Binds K dM ["places", "value"] []
section
variable {P : Program} {w : World} {K : PySem.W.Frag} {mg : Str → Option Value} {base : Heap} {gg : Bool}
theorem scWebOf : FnScope ["places", "ties"] ["places", "ties"] (defScope sWebOf) := ⟨rfl, rfl, rfl, by decide +kernel, rfl, by decide +kernel, by decide +kernel⟩
theorem ok_webof {f fA fN fK fD fC fT fL fM : Addr} {fd dA dN dK dD dC dT dL dM : FuncData} (F : Fun K "is_web_of" "is_web_of" sWebOf f fd) (N : TxN K mg fA fN fK fD dA dN dK dD) (B : TxB K mg fC fT dC dT) (O : TxO K mg fL fM dL dM) :
    FnV gg P w K mg base CX0 6 f fd ["places", "ties"] spWebOf := by
  have GL : FnV gg P w K mg base CX0 3 fL dL ["value"] spPlaces := ok_places O.FL N B
  have GM : FnV gg P w K mg base CX0 5 fM dM ["places", "value"] spTies := ok_ties O.FM N B
  refine fnV F scWebOf (fun vs H Q E h => ?_) (fun cdv Ar fr s H vs Q E hG hr h => ?_)
  · obtain ⟨t, a, ns, ks, rfl, _⟩ := h
    rfl
  · obtain ⟨t, a, ns, ks, rfl, att, sm, few, R, q⟩ := h
    refine ⟨_, pss_one (ps_ret (pe_and (pe_callV (E := fun _ _ _ _ => False) hG GL (hr.mono (by decide)) (by rfl) O.mL O.FL.kp O.bL .nil (fun _ => passAt0) (pa_cons (pv 0) pa_nil))
      (pe_one (pe_callV (E := fun _ _ _ _ => False) hG GM hr (by rfl) O.mM O.FM.kp O.bM .nil (fun _ => passAt0) (pa_cons (pv 0) (pa_cons (pv 1) pa_nil)))))), ?_⟩
    refine ⟨_, rfl, t, ns, rfl, att, sm, few, fun H1 s1 => ⟨_, rfl, ?_⟩⟩
    cases c : placesB ns with
    | false =>
      have e : webB ns (ks.map (·.2)) = false := by
        unfold webB
        rw [c, Bool.false_and]
      rw [if_neg (by decide), ← e]
      exact q _ s1
    | true =>
      rw [if_pos rfl]
      have e : webB ns (ks.map (·.2)) = tiesB ns (ks.map (·.2)) := by
        unfold webB
        rw [c, Bool.true_and]
      rw [e] at q
      exact ⟨_, rfl, _, rfl, t, a, ns, ks, rfl, rd_same att s1, R.same s1, fun H2 s2 => q _ (same_trans s1 s2)⟩
end
/-! ### the marks -/
def markAt (L : List Int) (i j : Nat) : List Int := L.set i (Builtin.bitOr (L.getD i 0) (1 * 2 ^ j))
def nearStep (ns : List Str) (L : List Int) (k : List Str) : List Int :=
  let i := ns.idxOf (k.getD 0 Str.empty)
  let j := ns.idxOf (k.getD 1 Str.empty)
  markAt (markAt L i j) j i
def nearL (ns : List Str) (ts : List (List Str)) : List Int := ts.foldl (nearStep ns) (List.replicate ns.length 0)
theorem nearStep_len (ns : List Str) (L : List Int) (k : List Str) : (nearStep ns L k).length = L.length := by
  show ((L.set _ _).set _ _).length = _
  rw [List.length_set, List.length_set]
theorem near_len (ns : List Str) : ∀ (ts : List (List Str)) (L : List Int), (ts.foldl (nearStep ns) L).length = L.length
  | [], L => rfl
  | k :: ts, L => by
    show (ts.foldl (nearStep ns) (nearStep ns L k)).length = _
    rw [near_len ns ts, nearStep_len]
theorem idx_first {ns : List Str} {x : Str} (m : x ∈ ns) : ns[ns.idxOf x]? = some x ∧ ∀ i, i < ns.idxOf x → ns[i]? ≠ some x := by
  have lt := List.idxOf_lt_length_of_mem m
  refine ⟨?_, fun i hi e => ?_⟩
  · rw [List.getElem?_eq_getElem lt, List.getElem_idxOf lt]
  · obtain ⟨h1, h2⟩ := List.getElem?_eq_some_iff.mp e
    have z := List.not_of_lt_findIdx (p := (· == x)) (xs := ns) hi
    rw [h2] at z
    have y : (x == x) = false := z
    rw [beq_self_eq_true x] at y
    cases y
def spNear : Sp := fun vs H Q _ => ∃ (t a : Addr) (ns : List Str) (ks : List (Addr × List Str)), vs = [.ref t, .ref a] ∧ TupK H t (ns.map V.str) ∧ ns.Nodup ∧ ns.length ≤ 1000 ∧ RowT H a ks ∧ (∀ k ∈ ks, ∃ x y, k.2 = [x, y] ∧ x ∈ ns ∧ y ∈ ns) ∧
  ∀ H' D, Same H H' → H D = none → H' D = some (.lst ((nearL ns (ks.map (·.2))).map V.int)) → Q (.ref D) H'
abbrev nM : List Str := ["places", "ties", "at", "near", "a", "b", "i", "j", "place", "k", "_"]
/-- the first i places are told their indices -/
def Told (ns : List Str) (i : Nat) (kvs : List (L2.Key × V)) : Prop := kvs.length ≤ i ∧ ∀ j z, j < i → ns[j]? = some z → valV kvs (Sum.inr z) = some (.int ((j : Nat) : Int))
theorem Told.step {ns : List Str} {i : Nat} {kvs : List (L2.Key × V)} {y : Str} (h : Told ns i kvs) (nd : ns.Nodup) (ey : ns[i]? = some y) : Told ns (i + 1) (putK kvs (Sum.inr y) (.int ((i : Nat) : Int))) := by
  refine ⟨Nat.le_trans (length_putK ..) (Nat.succ_le_succ h.1), fun j z hj ez => ?_⟩
  rw [valV_put]
  obtain ⟨li, ei⟩ := List.getElem?_eq_some_iff.mp ey
  obtain ⟨lj, ej⟩ := List.getElem?_eq_some_iff.mp ez
  by_cases c : j = i
  · subst c
    rw [ey] at ez
    obtain rfl : y = z := Option.some.inj ez
    rw [if_pos rfl]
  · rw [if_neg (fun e => ?_)]
    · exact h.2 j z (by omega) ez
    · have e1 : z = y := Sum.inr.inj e
      have e2 : ns[j] = ns[i] := by rw [ej, ei, e1]
      exact List.pairwise_iff_getElem.mp nd j i lj li (by omega) e2
theorem Told.get {ns : List Str} {kvs : List (L2.Key × V)} {x : Str} (h : Told ns ns.length kvs) (m : x ∈ ns) : valV kvs (Sum.inr x) = some (.int ((ns.idxOf x : Nat) : Int)) :=
  h.2 _ x (List.idxOf_lt_length_of_mem m) (idx_first m).1
section
variable {P : Program} {w : World} {K : PySem.W.Frag} {mg : Str → Option Value} {base : Heap} {gg : Bool}
theorem scNear : FnScope nM ["places", "ties"] (defScope sNear) := ⟨rfl, rfl, rfl, by decide +kernel, rfl, by decide +kernel, by decide +kernel⟩
theorem ok_near {f : Addr} {fd : FuncData} (F : Fun K "near_marks" "near_marks" sNear f fd) (mE : mg "enumerate" = none) : FnV gg P w K mg base CX0 1 f fd ["places", "ties"] spNear := by
  refine fnV F scNear (fun vs H Q E h => ?_) (fun cdv Ar fr s H vs Q E hG hr h => ?_)
  · obtain ⟨t, a, ns, ks, rfl, _⟩ := h
    rfl
  · obtain ⟨t, a, ns, ks, rfl, att, nd, few, R, each, q⟩ := h
    have hu := hr.units
    refine ⟨_, pss_cons (ps_setDc (i := 2) (mine := [("place", 8), ("k", 9)]) (g := gTup K 2 (gCons (gName 9) (gCons (gName 8) gNil))) (by rfl) scNear.nd rfl rfl (swapsDc rfl rfl rfl (by decide +kernel)) (pi_enumT (by rfl) mE (pa_cons (pv 0) pa_nil))
          (blkOk_by (N := nM) (sc := defScope sNear) (own := [("place", 8), ("k", 9)]) (by decide +kernel)) (fun _ _ _ _ _ => pg_tup rfl (pgs_cons (pg_name (i := 9) scNear.nd rfl (Or.inl rfl)) (pgs_cons (pg_name (i := 8) scNear.nd rfl (Or.inl rfl)) pgs_nil))) (fun _ _ _ _ _ => pts_nil) (fun _ _ _ _ _ => pv 8) (fun _ _ _ _ _ => pv 9))
      (pss_cons (ps_setLc (i := 3) (own := [("_", 10)]) (g := gName 10) (by rfl) scNear.nd rfl rfl (sw_true rfl rfl rfl (by decide +kernel)) (pi_tup (pv 0))
          (blkOk_by (N := nM) (sc := defScope sNear) (own := [("_", 10)]) (by decide +kernel)) (fun _ _ _ _ _ => pg_name (i := 10) scNear.nd rfl (Or.inl rfl)) (fun _ _ _ _ _ => pts_nil) (fun _ _ _ _ _ => pe_int))
      (pss_cons (ps_for (passes_of rfl) rfl (pi_tup (pv 1)) (pg_tup rfl (pgs_cons (pg_name (i := 4) scNear.nd rfl (Or.inl rfl)) (pgs_cons (pg_name (i := 5) scNear.nd rfl (Or.inl rfl)) pgs_nil)))
          (pss_cons (ps_par (i := 6) (j := 7) (by rfl) scNear.nd rfl rfl (by decide) rfl rfl (pa_cons (pe_dget (by have z := hu; exact Nat.lt_of_le_of_lt (Nat.add_le_add_left (by decide) _) z) (pv 2) (pv 4) (fun _ _ => rfl)) (pa_cons (pe_dget (by have z := hu; exact Nat.lt_of_le_of_lt (Nat.add_le_add_left (by decide) _) z) (pv 2) (pv 5) (fun _ _ => rfl)) pa_nil)) (by rfl))
              (pss_cons (ps_asg (pe_op op_or (pe_ix ix_list (pv 3) (pv 6) (fun _ _ => rfl)) (pe_op op_shl pe_int (pv 7))) (pg_sub (pv 3) (pv 6) set_list))
                (pss_one (ps_asg (pe_op op_or (pe_ix ix_list (pv 3) (pv 7) (fun _ _ => rfl)) (pe_op op_shl pe_int (pv 6))) (pg_sub (pv 3) (pv 7) set_list))))))
        (pss_one (ps_ret (pv 3))))), ?_⟩
    refine ⟨_, rfl, t, _, rfl, .inl att.rd, fun d nD0 => ?_⟩
    refine dc_it (walk_enumT (K := K) (a := t) (xs := ns.map V.str)) (fun i Hc => Same H Hc ∧ ∃ kvs, Hc d = some (.dK kvs) ∧ Told ns i kvs) ⟨same_upd nD0, [], upd_same, Nat.zero_le _, fun j z hj => absurd hj (Nat.not_lt_zero j)⟩ (fun i Hc _ z => .inl (att.same z.1).rd) ?_ ?_
    · rintro i x Hc Hc' lt ⟨sm, kvs, hD, tl⟩ ⟨T, u, v, rfl, nT, rfl, eu, ev⟩
      cases eu
      have st := same_upd (o := .tup [.int (i : Nat), v]) nT
      obtain ⟨y, ey, rfl⟩ : ∃ y, ns[i]? = some y ∧ V.str y = v := by
        have ev' : (ns.map V.str)[i]? = some v := ev
        rw [List.getElem?_map] at ev'
        cases z : ns[i]? with
        | none => rw [z] at ev'; cases ev'
        | some y => rw [z] at ev'; exact ⟨y, rfl, Option.some.inj ev'⟩
      refine ⟨T, _, rfl, SqT.of upd_same, rfl, _, _, rfl, _, _, rfl, rfl, rfl, ?_⟩
      have st1 := same_trans sm st
      have hD1 := st _ _ hD
      rw [List.length_map] at lt
      generalize upd Hc T (.tup [.int (i : Nat), V.str y]) = H1 at st1 hD1 ⊢
      refine ⟨_, rfl, _, rfl, kvs, Sum.inr y, rfl, hD1, Nat.lt_of_le_of_lt tl.1 (Nat.lt_of_lt_of_le lt (Nat.le_trans few (by decide))), fun b o e => ?_, _, upd_same, tl.step nd ey⟩
      rw [upd_ne (ne_of_none e nD0)]
      exact st1 _ _ e
    rintro H0 ⟨s0, kvs, hd0, tl⟩
    rw [List.length_map] at tl
    have att0 := att.same s0
    refine ⟨_, rfl, t, rfl, ⟨_, Or.inl att0.rd⟩, fun D nD => ?_⟩
    have nHD : H D = none := by
      cases e : H D with
      | none => rfl
      | some u =>
        rw [s0 _ _ e] at nD
        cases nD
    have nDd : D ≠ d := fun z => by
      rw [z, hd0] at nD
      cases nD
    refine lc_tup (K := K) (a := t) (xs := ns.map V.str) (fun i Hc => Same H0 Hc ∧ Hc D = some (.lst ((List.replicate i (0 : Int)).map V.int))) ⟨same_upd nD, upd_same⟩ (fun i Hc _ z => Or.inl (att0.same z.1).rd) ?_ ?_
    · rintro i x Hc hx ⟨sm, hD⟩
      have li : i < (ns.map V.str).length := (List.getElem?_eq_some_iff.mp hx).1
      rw [List.length_map] at li
      refine ⟨rfl, _, hD, ?_, fun c o e => ?_, ?_⟩
      · rw [List.length_map, List.length_replicate]
        exact Nat.lt_of_lt_of_le (Nat.lt_of_lt_of_le li few) (by decide)
      · rw [upd_ne (ne_of_none e nD)]
        exact sm _ _ e
      · rw [upd_same]
        refine congrArg (fun l => some (HO.lst l)) ?_
        rw [List.replicate_succ', List.map_append]
        rfl
    · rintro Hc ⟨smc, hD⟩
      rw [List.length_map] at hD
      have sm := same_trans s0 smc
      have hdc := smc _ _ hd0
      have Rc := R.same sm
      refine ⟨_, rfl, a, rfl, ⟨_, Or.inl Rc.at_⟩, ?_⟩
      refine for_tup (K := K) (a := a) (xs := ks.map fun k => V.ref k.1) (fun i σ H' => (∃ u1 u2 u3 u4 u5 u6 u7, σ = [some (.ref t), some (.ref a), some (.ref d), some (.ref D), u1, u2, u3, u4, u5, u6, u7]) ∧ Same H H' ∧ H' d = some (.dK kvs) ∧ H' D = some (.lst ((((ks.map (·.2)).take i).foldl (nearStep ns) (List.replicate ns.length 0)).map V.int)))
        ⟨⟨_, _, _, _, _, _, _, rfl⟩, sm, hdc, hD⟩ (fun i σ H' _ z => Or.inl (rd_same R.at_ z.2.1)) ?_ ?_
      · rintro i x σ H' hx ⟨⟨u1, u2, u3, u4, u5, u6, u7, rfl⟩, sm, hd, hD⟩
        rw [List.getElem?_map] at hx
        cases ek : ks[i]? with
        | none => rw [ek] at hx; cases hx
        | some k =>
          rw [ek] at hx
          obtain rfl : V.ref k.1 = x := Option.some.inj hx
          have mk := List.mem_of_getElem? ek
          obtain ⟨x, y, exy, mx, my⟩ := each k mk
          have ka := rd_same (R.each k mk).1 sm
          rw [exy] at ka
          have step : ((ks.map (·.2)).take (i + 1)).foldl (nearStep ns) (List.replicate ns.length 0) = nearStep ns (((ks.map (·.2)).take i).foldl (nearStep ns) (List.replicate ns.length 0)) [x, y] := by
            rw [take_one ek, List.foldl_append, exy]
            rfl
          have ll := near_len ns ((ks.map (·.2)).take i) (List.replicate ns.length 0)
          rw [List.length_replicate] at ll
          generalize ((ks.map (·.2)).take i).foldl (nearStep ns) (List.replicate ns.length 0) = L at hD step ll
          have gx := tl.get mx
          have gy := tl.get my
          have lx := List.idxOf_lt_length_of_mem mx
          have ly := List.idxOf_lt_length_of_mem my
          have est : nearStep ns L [x, y] = markAt (markAt L (ns.idxOf x) (ns.idxOf y)) (ns.idxOf y) (ns.idxOf x) := rfl
          rw [est] at step
          generalize ns.idxOf x = p at gx lx step
          generalize ns.idxOf y = r at gy ly step
          refine ⟨k.1, [.str x, .str y], rfl, Or.inl ka, rfl, _, _, rfl, _, _, rfl, rfl, ?_⟩
          have dx : DGet H' d (.str x) (some (.int (p : Int))) := gx ▸ DGet.k (k := Sum.inr x) hd
          have dy : DGet H' d (.str y) (some (.int (r : Int))) := gy ▸ DGet.k (k := Sum.inr y) hd
          refine ⟨_, rfl, _, rfl, d, _, rfl, dx, _, rfl, _, rfl, d, _, rfl, dy, _, _, rfl, ?_⟩
          have get : ∀ (M : List Int) (j : Nat), j < M.length → (M.map V.int)[j]? = some (.int (M.getD j 0)) := fun M j h => by
            rw [List.getElem?_map, List.getElem?_eq_getElem h, List.getD_eq_getElem?_getD, List.getElem?_eq_getElem h]
            rfl
          have ixn : ∀ (n j : Nat), j < n → ixN n (j : Int) = some j := fun n j h => by
            unfold ixN
            rw [if_pos (Int.natCast_nonneg j), if_pos (by omega)]
            rfl
          refine ⟨_, rfl, _, rfl, D, L.map V.int, p, .int (L.getD p 0), rfl, rfl, SqL.of hD, atI_nat (get L p (by omega)), _, rfl, _, _, rfl, rfl, ⟨by omega, by omega, by decide⟩, _, _, rfl, rfl, ?_⟩
          refine ⟨_, rfl, _, rfl, D, L.map V.int, p, p, rfl, rfl, hD, ixn _ _ (by rw [List.length_map]; omega), ?_⟩
          have set1 : ∀ (M : List Int) (c d : Nat), (M.map V.int).set c (.int (Builtin.bitOr (M.getD c 0) (1 * 2 ^ ((d : Nat) : Int).toNat))) = (markAt M c d).map V.int := fun M c d => by
            unfold markAt
            rw [List.map_set, Int.toNat_natCast]
          have ndD : d ≠ D := Ne.symm nDd
          have hD1 : (upd H' D (.lst ((L.map V.int).set p (.int (Builtin.bitOr (L.getD p 0) (1 * 2 ^ ((r : Nat) : Int).toNat)))))) D = some (.lst ((markAt L p r).map V.int)) := by rw [upd_same, set1]
          have hd1 : (upd H' D (.lst ((L.map V.int).set p (.int (Builtin.bitOr (L.getD p 0) (1 * 2 ^ ((r : Nat) : Int).toNat)))))) d = some (.dK kvs) := by rw [upd_ne ndD]; exact hd
          have S1 : Same H (upd H' D (.lst ((L.map V.int).set p (.int (Builtin.bitOr (L.getD p 0) (1 * 2 ^ ((r : Nat) : Int).toNat)))))) := fun c o e => by
            rw [upd_ne (ne_of_none e nHD)]
            exact sm c o e
          generalize upd H' D (.lst ((L.map V.int).set p (.int (Builtin.bitOr (L.getD p 0) (1 * 2 ^ ((r : Nat) : Int).toNat))))) = H2 at hD1 hd1 S1 ⊢
          have ll2 : (markAt L p r).length = ns.length := by
            unfold markAt
            rw [List.length_set, ll]
          generalize markAt L p r = M at hD1 ll2 step ⊢
          refine ⟨_, rfl, _, rfl, D, M.map V.int, r, .int (M.getD r 0), rfl, rfl, SqL.of hD1, atI_nat (get M r (by omega)), _, rfl, _, _, rfl, rfl, ⟨by omega, by omega, by decide⟩, _, _, rfl, rfl, ?_⟩
          refine ⟨_, rfl, _, rfl, D, M.map V.int, r, r, rfl, rfl, hD1, ixn _ _ (by rw [List.length_map]; omega), ?_⟩
          refine ⟨⟨_, _, _, _, _, _, _, rfl⟩, fun c o e => ?_, ?_, ?_⟩
          · rw [upd_ne (ne_of_none e nHD)]
            exact S1 c o e
          · rw [upd_ne ndD]
            exact hd1
          · rw [upd_same, set1, step]
      · rintro σ H' ⟨⟨u1, u2, u3, u4, u5, u6, u7, rfl⟩, sm, hd, hD⟩
        rw [List.take_of_length_le (by simp)] at hD
        exact ⟨_, rfl, q _ D sm nHD hD⟩
end
end Lx

/-! Webs: the instance. -/
namespace Lx
open PySem PySem.Spec PyProof.Rows L2 Fw
def meth (i : Nat) : Stmt := match top 23 with
  | .ClassDef (body := b) .. => b.getD i (.Pass ⟨0, 0, 0, 0⟩)
  | _ => .Pass ⟨0, 0, 0, 0⟩
abbrev sInit : Stmt := meth 0
theorem in_mem {x : Str} {ns : List Str} (h : inV (.str x) (ns.map V.str) = true) : x ∈ ns := by
  unfold inV at h
  rw [List.any_map] at h
  obtain ⟨y, m, e⟩ := List.any_eq_true.mp h
  have e' : eqV (.str y) (.str x) = true := e
  have z : y = x := by simpa [eqV] using e'
  exact z ▸ m
theorem ties_in {ns : List Str} {ts : List (List Str)} (h : webB ns ts = true) : ∀ k ∈ ts, ∃ x y, k = [x, y] ∧ x ∈ ns ∧ y ∈ ns := fun k m => by
  unfold webB tiesB at h
  have h1 := (Bool.and_eq_true_iff.mp h).2
  have h2 := (Bool.and_eq_true_iff.mp (Bool.and_eq_true_iff.mp h1).2).1
  have h3 := List.all_eq_true.mp h2 k m
  cases c : tieV (k.map V.str) with
  | false => rw [tie_not c] at h3; cases h3
  | true =>
    obtain ⟨x, y, e, et⟩ := tie_two (ns := ns) c
    rw [et] at h3
    obtain ⟨a, b⟩ := Bool.and_eq_true_iff.mp h3
    exact ⟨x, y, e, in_mem a, in_mem b⟩
theorem stepsS_asc : ∀ {ns : List Str}, (stepsS ns).all id = true → AscN ns
  | [], _ => List.Pairwise.nil
  | [x], _ => List.pairwise_singleton _ _
  | x :: y :: r, h => by
    have h' : (ltS x y && (stepsS (y :: r)).all id) = true := h
    obtain ⟨a, b⟩ := Bool.and_eq_true_iff.mp h'
    have ih := stepsS_asc b
    obtain ⟨i1, i2⟩ := List.pairwise_cons.mp ih
    refine List.pairwise_cons.mpr ⟨fun z m => ?_, ih⟩
    have a' : x.cps.toList < y.cps.toList := of_decide_eq_true a
    rcases List.mem_cons.mp m with e | m
    · rw [e]
      exact a'
    · exact List.lt_trans a' (i1 z m)
theorem web_nodup {ns : List Str} {ts : List (List Str)} (h : webB ns ts = true) : ns.Nodup := by
  unfold webB placesB at h
  have a := stepsS_asc (Bool.and_eq_true_iff.mp (Bool.and_eq_true_iff.mp (Bool.and_eq_true_iff.mp h).1).2).2
  refine List.Pairwise.imp (S := fun (x y : Str) => x ≠ y) ?_ a
  intro x y l e
  rw [e] at l
  exact List.lt_irrefl _ l
/-- an instance: its places, its ties, its marks -/
structure WebAt (C : Addr) (H : Hp) (x : Addr) (t a : Addr) (ns : List Str) (ks : List (Addr × List Str)) : Prop where
  ins : ∃ dx D, H x = some (.ins C dx [("_places", .ref t), ("_ties", .ref a), ("_near", .ref D)]) ∧ H dx = some (.own x) ∧ H D = some (.lst ((nearL ns (ks.map (·.2))).map V.int))
  tup : TupK H t (ns.map V.str)
  row : RowT H a ks
  sm : ∀ x ∈ ns, x.length ≤ 1000
  ok : webB ns (ks.map (·.2)) = true
theorem WebAt.same {C : Addr} {H H' : Hp} {x t a : Addr} {ns : List Str} {ks : List (Addr × List Str)} (W : WebAt C H x t a ns ks) (s : Same H H') : WebAt C H' x t a ns ks := by
  obtain ⟨⟨dx, D, e1, e2, e3⟩, tu, ro, sm, ok⟩ := W
  exact ⟨⟨dx, D, s _ _ e1, s _ _ e2, s _ _ e3⟩, tu.same s, ro.same s, sm, ok⟩
/-- all but x stands -/
def Save (x : Addr) (H H' : Hp) : Prop := ∀ b o, b ≠ x → H b = some o → H' b = some o
theorem Save.of {x : Addr} {H H1 H2 : Hp} (a : Same H H1) (b : Save x H1 H2) : Save x H H2 := fun c o n e => b c o n (a c o e)
theorem Save.upd {x : Addr} {H : Hp} {o : HO} : Save x H (upd H x o) := fun c u n e => by
  rw [upd_ne n]
  exact e
theorem Save.trans {x : Addr} {H H1 H2 : Hp} (a : Save x H H1) (b : Save x H1 H2) : Save x H H2 := fun c o n e => b c o n (a c o n e)
theorem Save.same {x : Addr} {H H1 H2 : Hp} (a : Save x H H1) (b : Same H1 H2) : Save x H H2 := fun c o n e => b c o (a c o n e)
theorem rd_save {x C dx b : Addr} {fs : List (Str × V)} {xs : List V} {H H' : Hp} (h : Rd H b (.tup xs)) (hx : H x = some (.ins C dx fs)) (s : Save x H H') : Rd H' b (.tup xs) := by
  rcases h with h | ⟨o, h⟩
  · exact .inl (s _ _ (fun z => by rw [z, hx] at h; cases h) h)
  · exact .inr ⟨o, s _ _ (fun z => by rw [z, hx] at h; cases h) h⟩
theorem tupK_save {x C dx b : Addr} {fs : List (Str × V)} {xs : List V} {H H' : Hp} (h : TupK H b xs) (hx : H x = some (.ins C dx fs)) (s : Save x H H') : TupK H' b xs := by
  obtain ⟨o, d, h⟩ := h
  exact ⟨o, d, s _ _ (fun z => by rw [z, hx] at h; cases h) h⟩
theorem row_save {x C dx a : Addr} {fs : List (Str × V)} {ks : List (Addr × List Str)} {H H' : Hp} (R : RowT H a ks) (hx : H x = some (.ins C dx fs)) (s : Save x H H') : RowT H' a ks :=
  ⟨rd_save R.at_ hx s, fun k m => ⟨rd_save (R.each k m).1 hx s, (R.each k m).2⟩, R.few⟩
def spInit (C CW : Addr) : Sp := fun vs H Q E => ∃ (x dx t a : Addr) (ns : List Str) (ks : List (Addr × List Str)), vs = [.ref x, .ref t, .ref a] ∧ H x = some (.ins C dx []) ∧ H dx = some (.own x) ∧ TupK H t (ns.map V.str) ∧ (∀ x ∈ ns, x.length ≤ 1000) ∧ ns.length ≤ 1000 ∧ RowT H a ks ∧
  (webB ns (ks.map (·.2)) = false → ∀ H', Same H H' → E (.ref CW) none H') ∧ (webB ns (ks.map (·.2)) = true → ∀ H', Save x H H' → WebAt C H' x t a ns ks → Q .non H')
/-- the marks of the web at x stand elsewhere than at p -/
def Apart (H : Hp) (x p : Addr) : Prop := ∀ C dx v1 v2 D, H x = some (.ins C dx [("_places", v1), ("_ties", v2), ("_near", .ref D)]) → D ≠ p
theorem Apart.of {H H' : Hp} {x p : Addr} (a : Apart H x p) (e : ∀ C dx fs, H' x = some (.ins C dx fs) → H x = some (.ins C dx fs)) : Apart H' x p := fun C dx v1 v2 D z => a C dx v1 v2 D (e _ _ _ z)
/-- .. and the marks are new -/
def spInitD (C CW : Addr) : Sp := fun vs H Q E => ∃ (x dx t a : Addr) (ns : List Str) (ks : List (Addr × List Str)), vs = [.ref x, .ref t, .ref a] ∧ H x = some (.ins C dx []) ∧ H dx = some (.own x) ∧ TupK H t (ns.map V.str) ∧ (∀ x ∈ ns, x.length ≤ 1000) ∧ ns.length ≤ 1000 ∧ RowT H a ks ∧
  (webB ns (ks.map (·.2)) = false → ∀ H', Same H H' → E (.ref CW) none H') ∧ (webB ns (ks.map (·.2)) = true → ∀ H', Save x H H' → WebAt C H' x t a ns ks → (∀ b o, H b = some o → Apart H' x b) → Q .non H')
structure TxI (K : PySem.W.Frag) (mg : Str → Option Value) (fO fE : Addr) (dO dE : FuncData) : Prop where
  mO : mg "is_web_of" = some (.ref fO)
  FO : Fun K "is_web_of" "is_web_of" sWebOf fO dO
  bO : Binds K dO ["places", "ties"] []
  mE : mg "near_marks" = some (.ref fE)
  FE : Fun K "near_marks" "near_marks" sNear fE dE
  bE : Binds K dE ["places", "ties"] []
  mN : mg "enumerate" = none
/-- the class's own facts -/
structure TxC (K : PySem.W.Frag) (C : Addr) : Prop where
  cl : Cls K C
  nP : NoAttr K C "_places"
  nT : NoAttr K C "_ties"
  nN : NoAttr K C "_near"
section
variable {P : Program} {w : World} {K : PySem.W.Frag} {mg : Str → Option Value} {base : Heap} {gg : Bool}
theorem scInit : FnScope ["self", "places", "ties"] ["self", "places", "ties"] (defScope sInit) := ⟨rfl, rfl, rfl, by decide +kernel, rfl, by decide +kernel, by decide +kernel⟩
theorem ok_initD {C CW f fA fN fK fD fC fT fL fM fO fE : Addr} {fd dA dN dK dD dC dT dL dM dO dE : FuncData} (F : Fun K "__init__" "Web.__init__" sInit f fd) (N : TxN K mg fA fN fK fD dA dN dK dD) (B : TxB K mg fC fT dC dT) (O : TxO K mg fL fM dL dM) (I : TxI K mg fO fE dO dE)
    (X : ExP K mg "InvalidWeb" CW) (T : TxC K C) : FnV gg P w K mg base (L2.CX P w) 7 f fd ["self", "places", "ties"] (spInitD C CW) := by
  have GO : FnV gg P w K mg base CX0 6 fO dO ["places", "ties"] spWebOf := ok_webof I.FO N B O
  have GE : FnV gg P w K mg base CX0 1 fE dE ["places", "ties"] spNear := ok_near I.FE I.mN
  refine fnV F scInit (fun vs H Q E h => ?_) (fun cdv Ar fr s H vs Q E hG hr h => ?_)
  · obtain ⟨x, dx, t, a, ns, ks, rfl, _⟩ := h
    rfl
  · obtain ⟨x, dx, t, a, ns, ks, rfl, hx, hdx, tu, sm, few, R, bad, good⟩ := h
    have tk : Takes (cxOf (L2.CX P w) P w K mg base ["self", "places", "ties"] "Web.__init__" (defScope sInit) f cdv Ar fr s H E) (fun cls d _ H => E cls d H) := takes_of rfl rfl rfl rfl
    refine ⟨_, pss_cons (ps_if (pt_not (pt_val (pe_callV (E := fun _ _ _ _ => False) hG GO hr (by rfl) I.mO I.FO.kp I.bO .nil (fun _ => passAt0) (pa_cons (pv 1) (pa_cons (pv 2) pa_nil)))))
        (pss_one (ps_raise rfl tk (pmk_own PySem.F.excBase_ValueError X.plain X.gl X.kp (raises_own X.hs X.ty) (by rfl)))) pss_nil)
      (pss_cons (ps_fld (pv 0) (pv 1) rfl) (pss_cons (ps_fld (pv 0) (pv 2) rfl) (pss_one (ps_fld (pv 0) (pe_callV (E := fun _ _ _ _ => False) hG GE (hr.mono (by decide)) (by rfl) I.mE I.FE.kp I.bE .nil (fun _ => passAt0) (pa_cons (pv 1) (pa_cons (pv 2) pa_nil))) rfl)))), ?_⟩
    refine ⟨_, rfl, _, rfl, t, a, ns, ks, rfl, tu.rd, sm, few, R, fun H1 s1 => ⟨_, rfl, ?_⟩⟩
    cases c : webB ns (ks.map (·.2)) with
    | false => exact bad c H1 s1
    | true =>
      have hx1 := s1 _ _ hx
      have hdx1 := s1 _ _ hdx
      have ne : dx ≠ x := fun z => by
        rw [z, hx] at hdx
        cases hdx
      have tu1 := tu.same s1
      have R1 := R.same s1
      refine ⟨_, rfl, _, rfl, x, C, dx, [], rfl, hx1, T.cl, T.nP, by decide, ?_⟩
      have v2 := Save.of s1 (Save.upd (x := x) (H := H1) (o := .ins C dx (putF "_places" (.ref t) [])))
      have tu2 := tupK_save tu1 hx1 (Save.upd (o := .ins C dx (putF "_places" (.ref t) [])))
      have R2 := row_save R1 hx1 (Save.upd (o := .ins C dx (putF "_places" (.ref t) [])))
      have hx2 : (upd H1 x (.ins C dx (putF "_places" (.ref t) []))) x = some (.ins C dx [("_places", .ref t)]) := upd_same
      generalize upd H1 x (.ins C dx (putF "_places" (.ref t) [])) = H2 at v2 tu2 R2 hx2 ⊢
      refine ⟨_, rfl, _, rfl, x, C, dx, _, rfl, hx2, T.cl, T.nT, by show 1 < 1000; decide, ?_⟩
      have v3 := v2.trans (Save.upd (x := x) (H := H2) (o := .ins C dx (putF "_ties" (.ref a) [("_places", .ref t)])))
      have tu3 := tupK_save tu2 hx2 (Save.upd (o := .ins C dx (putF "_ties" (.ref a) [("_places", .ref t)])))
      have R3 := row_save R2 hx2 (Save.upd (o := .ins C dx (putF "_ties" (.ref a) [("_places", .ref t)])))
      have hx3 : (upd H2 x (.ins C dx (putF "_ties" (.ref a) [("_places", .ref t)]))) x = some (.ins C dx [("_places", .ref t), ("_ties", .ref a)]) := upd_same
      generalize upd H2 x (.ins C dx (putF "_ties" (.ref a) [("_places", .ref t)])) = H3 at v3 tu3 R3 hx3 ⊢
      have each : ∀ k ∈ ks, ∃ x y, k.2 = [x, y] ∧ x ∈ ns ∧ y ∈ ns := fun k m => ties_in c k.2 (List.mem_map.mpr ⟨k, m, rfl⟩)
      refine ⟨_, rfl, _, rfl, t, a, ns, ks, rfl, tu3, web_nodup c, few, R3, each, fun H4 D s4 nD hD => ?_⟩
      have hx4 := s4 _ _ hx3
      refine ⟨_, rfl, x, C, dx, _, rfl, hx4, T.cl, T.nN, by show 2 < 1000; decide, ?_⟩
      have v5 := (v3.same s4).trans (Save.upd (x := x) (H := H4) (o := .ins C dx (putF "_near" (.ref D) [("_places", .ref t), ("_ties", .ref a)])))
      have nDx : D ≠ x := fun z => by
        rw [z, hx3] at nD
        cases nD
      refine good c _ v5 ⟨⟨dx, D, upd_same, v5 _ _ ne hdx, ?_⟩, tupK_save (tu3.same s4) hx4 Save.upd, row_save (R3.same s4) hx4 Save.upd, sm, c⟩ fun b o eb C' dx' w1 w2 D' z => ?_
      · rw [upd_ne nDx]
        exact hD
      · rw [upd_same] at z
        have eD : D' = D := by
          have z2 : some (HO.ins C dx [("_places", .ref t), ("_ties", .ref a), ("_near", .ref D)]) = some (HO.ins C' dx' [("_places", w1), ("_ties", w2), ("_near", .ref D')]) := z
          cases z2
          rfl
        rw [eD]
        intro e
        by_cases ex : b = x
        · exact nDx (e.trans ex)
        · rw [e, v3 b o ex eb] at nD
          cases nD
theorem ok_init {C CW f fA fN fK fD fC fT fL fM fO fE : Addr} {fd dA dN dK dD dC dT dL dM dO dE : FuncData} (F : Fun K "__init__" "Web.__init__" sInit f fd) (N : TxN K mg fA fN fK fD dA dN dK dD) (B : TxB K mg fC fT dC dT) (O : TxO K mg fL fM dL dM) (I : TxI K mg fO fE dO dE)
    (X : ExP K mg "InvalidWeb" CW) (T : TxC K C) : FnV gg P w K mg base (L2.CX P w) 7 f fd ["self", "places", "ties"] (spInit C CW) := by
  have Z := ok_initD (gg := gg) (P := P) (w := w) (base := base) F N B O I X T
  have weak : ∀ vs H Q E, spInit C CW vs H Q E → spInitD C CW vs H Q E := by
    rintro vs H Q E ⟨x, dx, t, a, ns, ks, e, h1, h2, h3, h4, h5, h6, h7, h8⟩
    exact ⟨x, dx, t, a, ns, ks, e, h1, h2, h3, h4, h5, h6, h7, fun c H' sv W _ => h8 c H' sv W⟩
  exact ⟨fun vs H Q E h => Z.wide vs H Q E (weak _ _ _ _ h), fun A fr s H ar us vs Q E g hr e0 hb r h => Z.goes A fr s H ar us vs Q E g hr e0 hb r (weak _ _ _ _ h)⟩
end
end Lx

/-! Webs: one gathered of places and ties in any order. -/
namespace Lx
open PySem PySem.Spec PyProof.Rows L2 Fw
theorem _root_.Fw.FnV.ok {P : Program} {w : World} {K : PySem.W.Frag} {mg : Str → Option Value} {base : Heap} {CX : CXT} {k : Nat} {f : Addr} {fd : FuncData} {ps : List Str} {sp : Sp} (F : FnV false P w K mg base CX k f fd ps sp) : FnOk P w K mg base CX k f fd ps sp :=
  ⟨F.wide, fun A fr s H ar us vs Q E hr => F.goes A fr s H ar us vs Q E (fun z => nomatch z) hr⟩
theorem cr_setWk {X : Cx} {w : World} (h : X.w = w) (hc : X.calm = true) : CallR X (.type "set") (rSetW X.K w) := h ▸ cr_setW hc
theorem cr_sortedWk {X : Cx} {w : World} (h : X.w = w) (hc : X.calm = true) : CallR X (.builtin "sorted") (rSortedW w) := h ▸ cr_sortedW hc
theorem cr_setPk {X : Cx} {P : Program} {w : World} (hP : X.prog = P) (h : X.w = w) (hc : X.calm = true) (hu : X.A.units + 64 < cLine) : CallR X (.type "set") (rSetP X.K P w) := hP ▸ h ▸ cr_setP hc hu
theorem cr_sortedPk {X : Cx} {P : Program} {w : World} (hP : X.prog = P) (h : X.w = w) (hc : X.calm = true) : CallR X (.builtin "sorted") (rSortedP P w) := hP ▸ h ▸ cr_sortedP hc
/-- a list or a tuple of these -/
def Sq (K : PySem.W.Frag) (H : Hp) (p : Addr) (xs : List V) : Prop := SqL K H p xs ∨ SqT K H p xs
theorem Sq.same {K : PySem.W.Frag} {H H' : Hp} {p : Addr} {xs : List V} (h : Sq K H p xs) (s : Same H H') : Sq K H' p xs := by
  rcases h with (h | h) | (h | h)
  · exact .inl (.inl (rd_same h s))
  · exact .inl (.inr h)
  · exact .inr (.inl (rd_same h s))
  · exact .inr (.inr h)
/-- tuples of texts, each known -/
def Each (H : Hp) (ks : List (Addr × List Str)) : Prop := ∀ k ∈ ks, Rd H k.1 (.tup (k.2.map V.str)) ∧ (∀ x ∈ k.2, x.length ≤ 1000) ∧ k.2.length ≤ 1000
theorem Each.same {H H' : Hp} {ks : List (Addr × List Str)} (h : Each H ks) (s : Same H H') : Each H' ks := fun k m => ⟨rd_same (h k m).1 s, (h k m).2⟩
/-- what a gathered web is asked for: the ascending places and ties -/
def Gath (C CW : Addr) (H : Hp) (Q : VK) (E : XK) (ns : List Str) (ts : List (List Str)) : Prop := ∀ ns' ts', AscN ns' → (∀ z, z ∈ ns' ↔ z ∈ ns) → AscT ts' → (∀ z, z ∈ ts' ↔ z ∈ ts) →
  (webB ns' ts' = false → ∀ H', Same H H' → E (.ref CW) none H') ∧ (webB ns' ts' = true → ∀ H' x t a ks', ks'.map (·.2) = ts' → Same H H' → H x = none → WebAt C H' x t a ns' ks' → Q (.ref x) H')
def spGath (K : PySem.W.Frag) (C CW : Addr) : Sp := fun vs H Q E => ∃ (p r : Addr) (ns : List Str) (ks : List (Addr × List Str)), vs = [.ref p, .ref r] ∧ Sq K H p (ns.map V.str) ∧ (∀ x ∈ ns, x.length ≤ 1000) ∧ ns.length ≤ 62 ∧
  Sq K H r (ks.map fun k => V.ref k.1) ∧ Each H ks ∧ (∀ k ∈ ks, k.2 ≠ []) ∧ ks.length ≤ 62 ∧ Gath C CW H Q E ns (ks.map (·.2))
/-- the class is made -/
structure TxG (K : PySem.W.Frag) (mg : Str → Option Value) (C f : Addr) (fd : FuncData) : Prop where
  mkC : Mk K C f
  gC : mg "Web" = some (.ref C)
  F : Fun K "__init__" "Web.__init__" sInit f fd
  b : Binds K fd ["self", "places", "ties"] []
  sorted : mg "sorted" = none
section
variable {P : Program} {w : World} {K : PySem.W.Frag} {mg : Str → Option Value} {base : Heap} {gg : Bool}
theorem scGath : FnScope ["places", "ties"] ["places", "ties"] (defScope sGathered) := ⟨rfl, rfl, rfl, by decide +kernel, rfl, by decide +kernel, by decide +kernel⟩
theorem ok_gath {C CW f fi fA fN fK fD fC fT fL fM fO fE : Addr} {fd di dA dN dK dD dC dT dL dM dO dE : FuncData} (F : Fun K "gathered_web" "gathered_web" sGathered f fd) (N : TxN K mg fA fN fK fD dA dN dK dD) (B : TxB K mg fC fT dC dT) (O : TxO K mg fL fM dL dM) (I : TxI K mg fO fE dO dE)
    (X : ExP K mg "InvalidWeb" CW) (T : TxC K C) (G : TxG K mg C fi di) : FnV gg P w K mg base (L2.CX P w) 9 f fd ["places", "ties"] (spGath K C CW) := by
  have GI : FnOk P w K mg base (L2.CX P w) 7 fi di ["self", "places", "ties"] (spInit C CW) := (ok_init (gg := false) G.F N B O I X T).ok
  refine fnV F scGath (fun vs H Q E h => ?_) (fun cdv Ar fr s H vs Q E hG hr h => ?_)
  · obtain ⟨p, r, ns, ks, rfl, _⟩ := h
    rfl
  · obtain ⟨p, r, ns, ks, rfl, hp, sm, fewN, hq, each, ne, fewT, g⟩ := h
    have hu := hr.units
    have tk : Takes (cxOf (L2.CX P w) P w K mg base ["places", "ties"] "gathered_web" (defScope sGathered) f cdv Ar fr s H E) (fun cls d _ H => E cls d H) := takes_of rfl rfl rfl rfl
    refine ⟨_, pss_one (ps_ret (pe_make (E := E) G.mkC GI hr (by rfl) G.gC G.b .nil (passes_call tk fun _ _ _ _ h => h)
      (pa_cons (pe_callTy cr_tupF (by rfl) N.T.tuple (by decide +kernel) (pa_cons (pe_callB (cr_sortedWk (w := w) rfl rfl) (by rfl) G.sorted (by decide +kernel) (pa_cons (pe_callTy (cr_setWk (w := w) rfl rfl) (by rfl) N.set (by decide +kernel) (pa_cons (pv 0) pa_nil)) pa_nil)) pa_nil))
        (pa_cons (pe_callTy cr_tupF (by rfl) N.T.tuple (by decide +kernel) (pa_cons (pe_callB (cr_sortedPk (P := P) (w := w) rfl rfl rfl) (by rfl) G.sorted (by decide +kernel) (pa_cons (pe_callTy (cr_setPk (P := P) (w := w) rfl rfl rfl (by exact hu)) (by rfl) N.set (by decide +kernel) (pa_cons (pv 1) pa_nil)) pa_nil)) pa_nil)) pa_nil)))), ?_⟩
    refine ⟨_, rfl, p, ns, rfl, hp, Nat.le_trans fewN (by decide), fun q1 n1 => ?_⟩
    have s1 := same_upd (o := SetWO w q1 (dedT ns)) n1
    have a1 : (upd H q1 (SetWO w q1 (dedT ns))) q1 = some (SetWO w q1 (dedT ns)) := upd_same
    refine ⟨q1, dedT ns, rfl, a1, Nat.lt_of_le_of_lt (dedT_len ns) (by omega), fun ys q2 py so n2 => ?_⟩
    have s2 := same_trans s1 (same_upd (o := .lst (ys.map V.str)) n2)
    have a2 : (upd (upd H q1 (SetWO w q1 (dedT ns))) q2 (.lst (ys.map V.str))) q2 = some (.lst (ys.map V.str)) := upd_same
    generalize upd (upd H q1 (SetWO w q1 (dedT ns))) q2 (.lst (ys.map V.str)) = H2 at s2 a2 ⊢
    refine ⟨q2, ys.map V.str, rfl, .inl ⟨SqL.of a2, fun t o nt ot => ?_⟩⟩
    have s3 := same_trans s2 (same_upd (o := .frz o (.tup (ys.map V.str))) nt)
    have kt : TupK (upd H2 t (.frz o (.tup (ys.map V.str)))) t (ys.map V.str) := TupK.new ot
    generalize upd H2 t (.frz o (.tup (ys.map V.str))) = H3 at s3 kt ⊢
    refine ⟨_, rfl, r, ks, rfl, hq.same s3, fun k m => rd_same (each k m).1 s3, fewT, fun q3 n3 => ?_⟩
    have s4 := same_upd (o := SetPO P w q3 (dedK ks)) n3
    have a4 : (upd H3 q3 (SetPO P w q3 (dedK ks))) q3 = some (SetPO P w q3 (dedK ks)) := upd_same
    refine ⟨q3, dedK ks, rfl, a4, fun k m => ⟨rd_same (rd_same (each k (dedK_sub ks k m)).1 s3) s4, ne k (dedK_sub ks k m)⟩, fun zs q4 pz az n4 => ?_⟩
    have s5 := same_trans s4 (same_upd (o := .lst (zs.map fun k => V.ref k.1)) n4)
    have a5 : (upd (upd H3 q3 (SetPO P w q3 (dedK ks))) q4 (.lst (zs.map fun k => V.ref k.1))) q4 = some (.lst (zs.map fun k => V.ref k.1)) := upd_same
    generalize upd (upd H3 q3 (SetPO P w q3 (dedK ks))) q4 (.lst (zs.map fun k => V.ref k.1)) = H5 at s5 a5 ⊢
    refine ⟨q4, zs.map fun k => V.ref k.1, rfl, .inl ⟨SqL.of a5, fun a o2 na oa => ?_⟩⟩
    have s6 := same_trans s5 (same_upd (o := .frz o2 (.tup (zs.map fun k => V.ref k.1))) na)
    have ra : Rd (upd H5 a (.frz o2 (.tup (zs.map fun k => V.ref k.1)))) a (.tup (zs.map fun k => V.ref k.1)) := .inr ⟨o2, upd_same⟩
    generalize upd H5 a (.frz o2 (.tup (zs.map fun k => V.ref k.1))) = H6 at s6 ra ⊢
    have S := same_trans s3 s6
    refine fun x dx nx ndx nex => ?_
    have s7 := same_trans (same_upd (o := .own x) ndx) (same_upd (H := upd H6 dx (.own x)) (o := .ins C dx []) (by rw [upd_ne (Ne.symm nex)]; exact nx))
    have hx : (upd (upd H6 dx (.own x)) x (.ins C dx [])) x = some (.ins C dx []) := upd_same
    have hdx : (upd (upd H6 dx (.own x)) x (.ins C dx [])) dx = some (.own x) := by rw [upd_ne nex, upd_same]
    have S7 := same_trans S s7
    have mz : ∀ k ∈ zs, k ∈ ks := fun k m => dedK_sub ks k (pz.mem_iff.mp m)
    have my : ∀ z, z ∈ ys ↔ z ∈ ns := fun z => (py.mem_iff).trans (dedT_mem ns z)
    have lz : zs.length ≤ 62 := by
      rw [pz.length_eq]
      exact Nat.le_trans (dedK_len ks) fewT
    have ly : ys.length ≤ 62 := by
      rw [py.length_eq]
      exact Nat.le_trans (dedT_len ns) fewN
    have R : RowT (upd (upd H6 dx (.own x)) x (.ins C dx [])) a zs := ⟨rd_same ra s7, fun k m => each.same S7 k (mz k m), by omega⟩
    obtain ⟨bad, good⟩ := g ys (zs.map (·.2)) (ascN_of so (py.nodup_iff.mpr (dedT_nodup ns))) my (List.pairwise_map.mpr az) (fun z => by
      have e1 : z ∈ zs.map (·.2) ↔ z ∈ (dedK ks).map (·.2) := (pz.map (·.2)).mem_iff
      exact e1.trans (dedK_keys ks z))
    generalize upd (upd H6 dx (.own x)) x (.ins C dx []) = H7 at s7 hx hdx S7 R ⊢
    refine ⟨x, dx, t, a, ys, zs, rfl, hx, hdx, (kt.same s6).same s7, fun y m => sm y ((my y).mp m), by omega, R, fun c H' s8 => bad c H' (same_trans S7 s8), fun c H' sv W => ⟨rfl, ?_⟩⟩
    have nHx : H x = none := by
      cases e : H x with
      | none => rfl
      | some u =>
        rw [S _ _ e] at nx
        cases nx
    refine good c H' x t a zs rfl (fun b u e => ?_) nHx W
    exact sv b u (ne_of_none e nHx) (S7 _ _ e)
end
end Lx

/-! Webs: places and ties read, places asked for. -/
namespace Lx
open PySem PySem.Spec PyProof.Rows L2 Fw
abbrev sPlacesG : Stmt := meth 3
abbrev sTiesG : Stmt := meth 4
def spP (C : Addr) : Sp := fun vs H Q _ => ∃ (x t a : Addr) (ns : List Str) (ks : List (Addr × List Str)), vs = [.ref x] ∧ WebAt C H x t a ns ks ∧ Q (.ref t) H
def spT (C : Addr) : Sp := fun vs H Q _ => ∃ (x t a : Addr) (ns : List Str) (ks : List (Addr × List Str)), vs = [.ref x] ∧ WebAt C H x t a ns ks ∧ Q (.ref a) H
/-- all of them are places -/
def spNeed (C : Addr) : Sp := fun vs H Q _ => ∃ (x t a p : Addr) (ns : List Str) (ks : List (Addr × List Str)) (zs : List Str), vs = [.ref x, .ref p] ∧ WebAt C H x t a ns ks ∧ H p = some (.tup (zs.map V.str)) ∧ (∀ z ∈ zs, z ∈ ns) ∧ Q .non H
/-- properties of the class -/
structure TxPr (K : PySem.W.Frag) (C pP gP pT gT : Addr) (dP dT : FuncData) : Prop where
  pP : PropOf K C "places" pP gP
  FP : Fun K "places" "Web.places" sPlacesG gP dP
  bP : Binds K dP ["self"] []
  pT : PropOf K C "ties" pT gT
  FT : Fun K "ties" "Web.ties" sTiesG gT dT
  bT : Binds K dT ["self"] []
theorem in_yes {x : Str} {ns : List Str} (m : x ∈ ns) : inV (.str x) (ns.map V.str) = true := by
  unfold inV
  rw [List.any_map]
  exact List.any_eq_true.mpr ⟨x, m, by show eqV (.str x) (.str x) = true; simp [eqV]⟩
section
variable {P : Program} {w : World} {K : PySem.W.Frag} {mg : Str → Option Value} {base : Heap} {gg : Bool}
theorem scPlacesG : FnScope ["self"] ["self"] (defScope sPlacesG) := ⟨rfl, rfl, rfl, by decide +kernel, rfl, by decide +kernel, by decide +kernel⟩
theorem ok_getP {C f : Addr} {fd : FuncData} (F : Fun K "places" "Web.places" sPlacesG f fd) (T : TxC K C) : FnV gg P w K mg base CX0 1 f fd ["self"] (spP C) := by
  refine fnV F scPlacesG (fun vs H Q E h => ?_) (fun cdv Ar fr s H vs Q E hG hr h => ?_)
  · obtain ⟨x, t, a, ns, ks, rfl, _⟩ := h
    rfl
  · obtain ⟨x, t, a, ns, ks, rfl, W, q⟩ := h
    obtain ⟨dx, D, e1, _, _⟩ := W.ins
    exact ⟨_, pss_one (ps_ret (pe_fld (pv 0) rfl)), _, rfl, x, C, dx, _, _, rfl, e1, T.cl, T.nP, rfl, q⟩
theorem scTiesG : FnScope ["self"] ["self"] (defScope sTiesG) := ⟨rfl, rfl, rfl, by decide +kernel, rfl, by decide +kernel, by decide +kernel⟩
theorem ok_getT {C f : Addr} {fd : FuncData} (F : Fun K "ties" "Web.ties" sTiesG f fd) (T : TxC K C) : FnV gg P w K mg base CX0 1 f fd ["self"] (spT C) := by
  refine fnV F scTiesG (fun vs H Q E h => ?_) (fun cdv Ar fr s H vs Q E hG hr h => ?_)
  · obtain ⟨x, t, a, ns, ks, rfl, _⟩ := h
    rfl
  · obtain ⟨x, t, a, ns, ks, rfl, W, q⟩ := h
    obtain ⟨dx, D, e1, _, _⟩ := W.ins
    exact ⟨_, pss_one (ps_ret (pe_fld (pv 0) rfl)), _, rfl, x, C, dx, _, _, rfl, e1, T.cl, T.nT, rfl, q⟩
theorem scNeed : FnScope ["web", "names", "name"] ["web", "names"] (defScope sNeed) := ⟨rfl, rfl, rfl, by decide +kernel, rfl, by decide +kernel, by decide +kernel⟩
theorem ok_need {C f pP gP pT gT : Addr} {fd dP dT : FuncData} (F : Fun K "need_places" "need_places" sNeed f fd) (T : TxC K C) (R : TxPr K C pP gP pT gT dP dT) :
    FnR P w K mg base CX0 3 f (fun vs H Q E => ∃ ws rest, vs = ws ++ rest ∧ ws.length = ["web"].length ∧ rest.length ≤ sizeLine ∧ ∀ p, H p = none → spNeed C (ws ++ [V.ref p]) (upd H p (.tup rest)) Q E) := by
  have GP : FnOk P w K mg base CX0 1 gP dP ["self"] (spP C) := (ok_getP (gg := false) R.FP T).ok
  obtain ⟨oc, od, kV, doc, pm, an, cdv, ct, osl, rfl, lk, hcd⟩ := F.ex
  refine StX.fn_star (N := ["web", "names", "name"]) (ps := ["web"]) (pv := "names") lk hcd scNeed StX.cxUp_none (fun us rest hl => ?_) (fun A outer s H vs Q E hr h => ?_)
  · exact StX.bind_star1 (B := fun vs => bindArgs _ ⟨vs, []⟩) (fun a => by rfl) (fun a r rs => by rfl) us rest hl
  · obtain ⟨x, t, a, p, ns, ks, zs, rfl, W, hp, inn, q⟩ := h
    refine ⟨_, pss_one (ps_for (passes_of rfl) rfl (pi_tup (pv 1)) (pg_name (i := 2) scNeed.nd rfl (Or.inl rfl))
      (pss_one (ps_if (pt_cmpR op_notIn_seq (pv 2) (pe_prop (pv 0) T.cl R.pP GP hr R.bP .nil pass0 rfl) (by rfl)) (pss_one ps_never) pss_nil))), ?_⟩
    refine ⟨_, rfl, p, rfl, ⟨_, SqT.of hp⟩, ?_⟩
    refine for_tup (K := K) (a := p) (xs := zs.map V.str) (fun i σ H' => (∃ u, σ = [some (.ref x), some (.ref p), u]) ∧ H' = H) ⟨⟨_, rfl⟩, rfl⟩ (fun i σ H' _ z => by rw [z.2]; exact SqT.of hp) ?_ ?_
    · rintro i y σ H' hy ⟨⟨u, rfl⟩, rfl⟩
      rw [List.getElem?_map] at hy
      cases ez : zs[i]? with
      | none => rw [ez] at hy; cases hy
      | some z =>
        rw [ez] at hy
        obtain rfl : V.str z = y := Option.some.inj hy
        obtain ⟨dx, D, e1, _, _⟩ := W.ins
        refine ⟨_, rfl, _, rfl, x, dx, _, rfl, e1, x, t, a, ns, ks, rfl, W, t, _, rfl, .inr (.inl W.tup.rd), rfl, strs_flat ns, _, rfl, ?_⟩
        dsimp only
        rw [if_neg (by rw [if_pos rfl, in_yes (inn z (List.mem_of_getElem? ez))]; decide)]
        exact ⟨⟨_, rfl⟩, rfl⟩
    · rintro σ H' ⟨_, rfl⟩
      exact q
end
end Lx

/-! Webs: is_tied, marked, neighbours. -/
namespace Lx
open PySem PySem.Spec PyProof.Rows L2 Fw
theorem op_inXk {X : Cx} {K : PySem.W.Frag} (h : X.K = K) (hu : X.A.units + 64 < cLine) : OpR X (compareOp .In) (rInX K false) := h ▸ op_inX hu
theorem op_notInXk {X : Cx} {K : PySem.W.Frag} (h : X.K = K) (hu : X.A.units + 64 < cLine) : OpR X (compareOp .NotIn) (rInX K true) := h ▸ op_notInX hu
abbrev sTied : Stmt := meth 11
/-- what need_places takes -/
abbrev spNeedR (C : Addr) : Sp := fun vs H Q E => ∃ ws rest, vs = ws ++ rest ∧ ws.length = (["web"] : List Str).length ∧ rest.length ≤ sizeLine ∧ ∀ p, H p = none → spNeed C (ws ++ [V.ref p]) (upd H p (.tup rest)) Q E
def spTied (C : Addr) : Sp := fun vs H Q _ => ∃ (x t a : Addr) (ns : List Str) (ks : List (Addr × List Str)) (u v : Str), vs = [.ref x, .str u, .str v] ∧ WebAt C H x t a ns ks ∧ u ∈ ns ∧ v ∈ ns ∧ ∀ H', Same H H' → Q (.bl (decide (pairT u v ∈ ks.map (·.2)))) H'
structure TxQ (K : PySem.W.Frag) (mg : Str → Option Value) (fN fP : Addr) (dN dP : FuncData) : Prop where
  mN : mg "need_places" = some (.ref fN)
  FN : Fun K "need_places" "need_places" sNeed fN dN
  mP : mg "pair_of" = some (.ref fP)
  FP : Fun K "pair_of" "pair_of" sPairOf fP dP
  bP : Binds K dP ["a", "b"] []
section
variable {P : Program} {w : World} {K : PySem.W.Frag} {mg : Str → Option Value} {base : Heap} {gg : Bool}
theorem need_ok {C pP gP pT gT fN fP : Addr} {dP dT dN dQ : FuncData} (T : TxC K C) (R : TxPr K C pP gP pT gT dP dT) (Q' : TxQ K mg fN fP dN dQ) : FnR P w K mg base CX0 3 fN (spNeedR C) := ok_need Q'.FN T R
theorem need1 {C : Addr} {H : Hp} {x t a : Addr} {ns : List Str} {ks : List (Addr × List Str)} {rest : List Str} {Q : VK} {E : XK} (W : WebAt C H x t a ns ks) (m : ∀ z ∈ rest, z ∈ ns) (few : rest.length ≤ 9) (q : ∀ p, H p = none → Q .non (upd H p (.tup (rest.map V.str)))) : spNeedR C (.ref x :: rest.map V.str) H Q E :=
  ⟨[.ref x], rest.map V.str, rfl, rfl, by rw [List.length_map, sizeLine_eq]; omega, fun p np => ⟨x, t, a, p, ns, ks, rest, rfl, W.same (same_upd np), upd_same, m, q p np⟩⟩
theorem scTied : FnScope ["self", "a", "b"] ["self", "a", "b"] (defScope sTied) := ⟨rfl, rfl, rfl, by decide +kernel, rfl, by decide +kernel, by decide +kernel⟩
theorem ok_tied {C f pP gP pT gT fN fP : Addr} {fd dP dT dN dQ : FuncData} (F : Fun K "is_tied" "Web.is_tied" sTied f fd) (T : TxC K C) (R : TxPr K C pP gP pT gT dP dT) (U : TxQ K mg fN fP dN dQ) : FnV gg P w K mg base CX0 4 f fd ["self", "a", "b"] (spTied C) := by
  have GN : FnR P w K mg base CX0 3 fN (spNeedR C) := need_ok T R U
  have GP : FnV gg P w K mg base CX0 1 fP dQ ["a", "b"] spPair := ok_pair U.FP
  refine fnV F scTied (fun vs H Q E h => ?_) (fun cdv Ar fr s H vs Q E hG hr h => ?_)
  · obtain ⟨x, t, a, ns, ks, u, v, rfl, _⟩ := h
    rfl
  · obtain ⟨x, t, a, ns, ks, u, v, rfl, W, mu, mv, q⟩ := h
    have hu := hr.units
    refine ⟨_, pss_cons (ps_expr (pe_callR (E := E0) GN hr (by rfl) U.mN U.FN.kp pass0 (pa_cons (pv 0) (pa_cons (pv 1) (pa_cons (pv 2) pa_nil)))))
      (pss_one (ps_ret (pe_cmpR (op_inXk (K := K) rfl (by exact hu)) (pe_callV (E := fun _ _ _ _ => False) hG GP (hr.mono (by decide)) (by rfl) U.mP U.FP.kp U.bP .nil (fun _ => passAt0) (pa_cons (pv 1) (pa_cons (pv 2) pa_nil))) (pe_fld (pv 0) rfl) (by rfl)))), ?_⟩
    refine ⟨_, rfl, _, rfl, _, rfl, need1 (rest := [u, v]) W (by simp [mu, mv]) (by simp) fun p np => ?_⟩
    have s1 := same_upd (o := .tup ([u, v].map V.str)) np
    have W1 := W.same s1
    generalize upd H p (.tup ([u, v].map V.str)) = H1 at s1 W1 ⊢
    refine ⟨_, rfl, _, rfl, u, v, rfl, fun r nr => ?_⟩
    have s2 := same_upd (o := .tup ((pairT u v).map V.str)) nr
    have hr2 : (upd H1 r (.tup ((pairT u v).map V.str))) r = some (.tup ((pairT u v).map V.str)) := upd_same
    have W2 := W1.same s2
    generalize upd H1 r (.tup ((pairT u v).map V.str)) = H2 at s2 hr2 W2 ⊢
    obtain ⟨dx, D, e1, _, _⟩ := W2.ins
    exact ⟨_, rfl, x, C, dx, _, _, rfl, e1, T.cl, T.nT, rfl, r, a, pairT u v, ks, rfl, rfl, .inl hr2, .inl W2.row.at_, fun k m => (W2.row.each k m).1, q _ (same_trans s1 s2)⟩
end
end Lx

/-! Webs: the marked ones of a row. -/
namespace Lx
open PySem PySem.Spec PyProof.Rows L2 Fw
def bitOn (m : Int) (i : Nat) : Bool := Builtin.bitAnd (m / 2 ^ ((i : Nat) : Int).toNat) 1 != 0
def markedTo (ns : List Str) (m : Int) : Nat → List Str
  | 0 => []
  | i + 1 => markedTo ns m i ++ (if bitOn m i = true then [ns.getD i Str.empty] else [])
def markedL (ns : List Str) (m : Int) : List Str := markedTo ns m ns.length
theorem markedTo_len (ns : List Str) (m : Int) : ∀ i, (markedTo ns m i).length ≤ i
  | 0 => Nat.le_refl _
  | i + 1 => by
    have z := markedTo_len ns m i
    show (markedTo ns m i ++ _).length ≤ _
    rw [List.length_append]
    split <;> simp <;> omega
def spMarked : Sp := fun vs H Q _ => ∃ (t : Addr) (ns : List Str) (m : Int), vs = [.ref t, .int m] ∧ Rd H t (.tup (ns.map V.str)) ∧ ns.length ≤ 1000 ∧ ∀ H' q, Same H H' → H q = none → TupK H' q ((markedL ns m).map V.str) → Q (.ref q) H'
def tTruK (K : PySem.W.Frag) (ta : TE) : TT := fun σ H Q => ta σ H fun x H' => ∃ k, TruV K x H' k ∧ Q k H'
theorem pt_truthK {X : Cx} {K : PySem.W.Frag} {a : Expr} {ta : TE} (h : X.K = K) (ha : PE X a ta) (he : ∀ whole, isTrue a X.env whole = (do let v ← whole; standAt a.pos; holding [v] (truthy v))) : PT X a (tTruK K ta) := h ▸ pt_truth ha he
abbrev nR : List Str := ["places", "mark", "k", "place"]
section
variable {P : Program} {w : World} {K : PySem.W.Frag} {mg : Str → Option Value} {base : Heap} {gg : Bool}
theorem scMarked : FnScope nR ["places", "mark"] (defScope sMarked) := ⟨rfl, rfl, rfl, by decide +kernel, rfl, by decide +kernel, by decide +kernel⟩
theorem ok_marked {f : Addr} {fd : FuncData} (F : Fun K "marked" "marked" sMarked f fd) (mT : mg "tuple" = none) (mE : mg "enumerate" = none) : FnV gg P w K mg base CX0 1 f fd ["places", "mark"] spMarked := by
  refine fnV F scMarked (fun vs H Q E h => ?_) (fun cdv Ar fr s H vs Q E hG hr h => ?_)
  · obtain ⟨t, ns, m, rfl, _⟩ := h
    rfl
  · obtain ⟨t, ns, m, rfl, att, few, q⟩ := h
    refine ⟨_, pss_one (ps_ret (pe_callTy cr_tupF (by rfl) mT (by decide +kernel) (pa_cons
      (pe_lc (own := [("k", 2), ("place", 3)]) (g := gTup K 2 (gCons (gName 2) (gCons (gName 3) gNil))) (by rfl) scMarked.nd (pi_enumT (by rfl) mE (pa_cons (pv 0) pa_nil))
        (blkOk_by (N := nR) (sc := defScope sMarked) (own := [("k", 2), ("place", 3)]) (by decide +kernel)) (fun _ _ _ _ _ => pg_tup rfl (pgs_cons (pg_name (i := 2) scMarked.nd rfl (Or.inl rfl)) (pgs_cons (pg_name (i := 3) scMarked.nd rfl (Or.inl rfl)) pgs_nil)))
        (fun _ _ _ _ _ => pts_one (pt_truthK (K := K) rfl (pe_op op_and (pe_op op_shr (pv 1) (pv 2)) pe_int) (by intro _; rfl)))
        (fun _ _ _ _ _ => pv 3)) pa_nil))), ?_⟩
    refine ⟨_, rfl, t, _, rfl, .inl att, fun D nD => ?_⟩
    refine lc_it (walk_enumT (K := K) (a := t) (xs := ns.map V.str)) (fun i Hc => Same H Hc ∧ Hc D = some (.lst ((markedTo ns m i).map V.str))) ⟨same_upd nD, upd_same⟩ (fun i Hc _ z => .inl (rd_same att z.1)) ?_ ?_
    · rintro i x Hc Hc' lt ⟨sm, hD⟩ ⟨T, u, v, rfl, nT, rfl, eu, ev⟩
      cases eu
      have st := same_upd (o := .tup [.int (i : Nat), v]) nT
      obtain ⟨y, ey, rfl⟩ : ∃ y, ns[i]? = some y ∧ V.str y = v := by
        have ev' : (ns.map V.str)[i]? = some v := ev
        rw [List.getElem?_map] at ev'
        cases z : ns[i]? with
        | none => rw [z] at ev'; cases ev'
        | some y => rw [z] at ev'; exact ⟨y, rfl, Option.some.inj ev'⟩
      have gy : ns.getD i Str.empty = y := by rw [List.getD_eq_getElem?_getD, ey]; rfl
      refine ⟨T, _, rfl, SqT.of upd_same, rfl, _, _, rfl, _, _, rfl, rfl, rfl, ?_⟩
      refine ⟨_, rfl, _, rfl, m, (i : Nat), rfl, rfl, by omega, _, _, rfl, rfl, bitOn m i, rfl, ?_⟩
      have st1 := same_trans sm st
      have hD1 := st _ _ hD
      generalize upd Hc T (.tup [.int (i : Nat), V.str y]) = H1 at st1 hD1 ⊢
      dsimp only
      by_cases c : bitOn m i = true
      · rw [if_pos c]
        refine ⟨_, rfl, _, hD1, ?_, fun b o e => ?_, ?_⟩
        · rw [List.length_map]
          have z := markedTo_len ns m i
          rw [List.length_map] at lt
          exact Nat.lt_of_le_of_lt z (Nat.lt_of_lt_of_le lt (Nat.le_trans few (by decide)))
        · rw [upd_ne (ne_of_none e nD)]
          exact st1 _ _ e
        · rw [upd_same]
          refine congrArg (fun l => some (HO.lst l)) ?_
          show _ = (markedTo ns m i ++ (if bitOn m i = true then [ns.getD i Str.empty] else [])).map V.str
          rw [if_pos c, gy, List.map_append]
          rfl
      · rw [if_neg c]
        refine ⟨st1, ?_⟩
        have e : markedTo ns m (i + 1) = markedTo ns m i := by
          show markedTo ns m i ++ (if bitOn m i = true then [ns.getD i Str.empty] else []) = _
          rw [if_neg c, List.append_nil]
        rw [e]
        exact hD1
    · rintro Hc ⟨sm, hD⟩
      rw [List.length_map] at hD
      refine ⟨D, _, rfl, .inl ⟨SqL.of hD, fun l o nl ol => ?_⟩⟩
      have nH : H l = none := by
        cases e : H l with
        | none => rfl
        | some u =>
          rw [sm _ _ e] at nl
          cases nl
      exact q _ l (same_trans sm (same_upd nl)) nH (TupK.new ol)
end
end Lx

/-! Webs: neighbours. -/
namespace Lx
open PySem PySem.Spec PyProof.Rows L2 Fw
abbrev sNeigh : Stmt := meth 9
def neighL (ns : List Str) (ts : List (List Str)) (u : Str) : List Str := markedL ns ((nearL ns ts).getD (ns.idxOf u) 0)
def spNeigh (C : Addr) : Sp := fun vs H Q _ => ∃ (x t a : Addr) (ns : List Str) (ks : List (Addr × List Str)) (u : Str), vs = [.ref x, .str u] ∧ WebAt C H x t a ns ks ∧ u ∈ ns ∧ ns.length ≤ 1000 ∧
  ∀ H' q, Same H H' → H q = none → TupK H' q ((neighL ns (ks.map (·.2)) u).map V.str) → Q (.ref q) H'
structure TxM (K : PySem.W.Frag) (mg : Str → Option Value) (fM : Addr) (dM : FuncData) : Prop where
  mM : mg "marked" = some (.ref fM)
  FM : Fun K "marked" "marked" sMarked fM dM
  bM : Binds K dM ["places", "mark"] []
  tuple : mg "tuple" = none
  enum : mg "enumerate" = none
section
variable {P : Program} {w : World} {K : PySem.W.Frag} {mg : Str → Option Value} {base : Heap} {gg : Bool}
theorem scNeigh : FnScope ["self", "place"] ["self", "place"] (defScope sNeigh) := ⟨rfl, rfl, rfl, by decide +kernel, rfl, by decide +kernel, by decide +kernel⟩
theorem ok_neigh {C f pP gP pT gT fN fP fM : Addr} {fd dP dT dN dQ dM : FuncData} (F : Fun K "neighbours" "Web.neighbours" sNeigh f fd) (T : TxC K C) (R : TxPr K C pP gP pT gT dP dT) (U : TxQ K mg fN fP dN dQ) (M : TxM K mg fM dM) : FnV gg P w K mg base CX0 4 f fd ["self", "place"] (spNeigh C) := by
  have GN : FnR P w K mg base CX0 3 fN (spNeedR C) := need_ok T R U
  have GM : FnV gg P w K mg base CX0 1 fM dM ["places", "mark"] spMarked := ok_marked M.FM M.tuple M.enum
  refine fnV F scNeigh (fun vs H Q E h => ?_) (fun cdv Ar fr s H vs Q E hG hr h => ?_)
  · obtain ⟨x, t, a, ns, ks, u, rfl, _⟩ := h
    rfl
  · obtain ⟨x, t, a, ns, ks, u, rfl, W, mu, few, q⟩ := h
    refine ⟨_, pss_cons (ps_expr (pe_callR (E := E0) GN hr (by rfl) U.mN U.FN.kp pass0 (pa_cons (pv 0) (pa_cons (pv 1) pa_nil))))
      (pss_one (ps_ret (pe_callV (E := fun _ _ _ _ => False) hG GM (hr.mono (by decide)) (by rfl) M.mM M.FM.kp M.bM .nil (fun _ => passAt0) (pa_cons (pe_fld (pv 0) rfl)
        (pa_cons (pe_ix ix_list (pe_fld (pv 0) rfl) (pe_bmF PySem.F.plainAttrs_tuple PySem.F.slot_tuple_index PySem.F.type_tuple_index mt_tup_index (pe_fld (pv 0) rfl) (pa_cons (pv 1) pa_nil)) (fun _ _ => rfl)) pa_nil))))), ?_⟩
    refine ⟨_, rfl, _, rfl, need1 (rest := [u]) W (by simp [mu]) (by simp) fun p np => ?_⟩
    have s1 := same_upd (o := .tup ([u].map V.str)) np
    have W1 := W.same s1
    generalize upd H p (.tup ([u].map V.str)) = H1 at s1 W1 ⊢
    obtain ⟨dx, D, e1, _, e3⟩ := W1.ins
    obtain ⟨iu, nu⟩ := idx_first mu
    have lu := List.idxOf_lt_length_of_mem mu
    have ll : (nearL ns (ks.map (·.2))).length = ns.length := by
      unfold nearL
      rw [near_len, List.length_replicate]
    have get : ((nearL ns (ks.map (·.2))).map V.int)[ns.idxOf u]? = some (.int ((nearL ns (ks.map (·.2))).getD (ns.idxOf u) 0)) := by
      have h : ns.idxOf u < (nearL ns (ks.map (·.2))).length := by omega
      rw [List.getElem?_map, List.getElem?_eq_getElem h, List.getD_eq_getElem?_getD, List.getElem?_eq_getElem h]
      rfl
    refine ⟨_, rfl, x, C, dx, _, _, rfl, e1, T.cl, T.nP, rfl, ?_⟩
    refine ⟨_, rfl, x, C, dx, _, _, rfl, e1, T.cl, T.nN, rfl, ?_⟩
    refine ⟨_, rfl, x, C, dx, _, _, rfl, e1, T.cl, T.nP, rfl, ⟨t, _, rfl, W1.tup⟩, _, rfl, t, ns, u, ns.idxOf u, rfl, rfl, .inl W1.tup.rd, iu, nu, ?_⟩
    refine ⟨D, _, _, _, rfl, rfl, SqL.of e3, atI_nat get, ?_⟩
    refine ⟨t, ns, _, rfl, W1.tup.rd, few, fun H' r s2 nr tr => ?_⟩
    have nH : H r = none := by
      cases e : H r with
      | none => rfl
      | some o =>
        rw [s1 _ _ e] at nr
        cases nr
    exact q H' r (same_trans s1 s2) nH tr
end
end Lx

/-! Webs: with_tie. -/
namespace Lx
open PySem PySem.Spec PyProof.Rows L2 Fw
abbrev sWithTie : Stmt := meth 12
theorem none_same {H H' : Hp} {x : Addr} (s : Same H H') (n : H' x = none) : H x = none := by
  cases e : H x with
  | none => rfl
  | some o =>
    rw [s _ _ e] at n
    cases n
theorem Gath.same {C CW : Addr} {H H1 : Hp} {Q : VK} {E : XK} {ns : List Str} {ts : List (List Str)} (g : Gath C CW H Q E ns ts) (s : Same H H1) : Gath C CW H1 Q E ns ts := fun ns' ts' a b c d => by
  obtain ⟨bad, good⟩ := g ns' ts' a b c d
  exact ⟨fun c H' s' => bad c H' (same_trans s s'), fun c H' x t a ks' e s' n W => good c H' x t a ks' e (same_trans s s') (none_same s n) W⟩
def spWith (C CW CT : Addr) : Sp := fun vs H Q E => ∃ (x t a : Addr) (ns : List Str) (ks : List (Addr × List Str)) (u v : Str), vs = [.ref x, .str u, .str v] ∧ WebAt C H x t a ns ks ∧ u ∈ ns ∧ v ∈ ns ∧ ns.length ≤ 62 ∧ ks.length ≤ 39 ∧
  ((decide (pairT u v ∈ ks.map (·.2)) || decide (u = v)) = true → ∀ H', Same H H' → E (.ref CT) none H') ∧ ((decide (pairT u v ∈ ks.map (·.2)) || decide (u = v)) = false → Gath C CW H Q E ns (ks.map (·.2) ++ [pairT u v]))
structure TxT (K : PySem.W.Frag) (mg : Str → Option Value) (C fI fG : Addr) (dI dG : FuncData) : Prop where
  mI : Meth K C "is_tied" fI
  FI : Fun K "is_tied" "Web.is_tied" sTied fI dI
  bI : Binds K dI ["self", "a", "b"] []
  nI : NoAttr K C "is_tied" ∨ True
  mG : mg "gathered_web" = some (.ref fG)
  FG : Fun K "gathered_web" "gathered_web" sGathered fG dG
  bG : Binds K dG ["places", "ties"] []
theorem webTies {C : Addr} {H : Hp} {x t a : Addr} {ns : List Str} {ks : List (Addr × List Str)} (W : WebAt C H x t a ns ks) : ∀ k ∈ ks, k.2 ≠ [] := fun k m e => by
  obtain ⟨x, y, h, _⟩ := ties_in W.ok k.2 (List.mem_map.mpr ⟨k, m, rfl⟩)
  rw [e] at h
  cases h
theorem pairT_ne (u v : Str) : pairT u v ≠ [] := by
  unfold pairT
  split <;> simp
section
variable {P : Program} {w : World} {K : PySem.W.Frag} {mg : Str → Option Value} {base : Heap} {gg : Bool}
theorem scWithTie : FnScope ["self", "a", "b"] ["self", "a", "b"] (defScope sWithTie) := ⟨rfl, rfl, rfl, by decide +kernel, rfl, by decide +kernel, by decide +kernel⟩
theorem ok_with {C CW CT f fi fA fNm fK fD fC fT fL fMt fO fE pP gP pT gT fN fP fI fG : Addr} {fd di dA dNm dK dD dC dT dL dMt dO dE dP dT' dN dQ dI dG : FuncData} (F : Fun K "with_tie" "Web.with_tie" sWithTie f fd) (Nm : TxN K mg fA fNm fK fD dA dNm dK dD) (B : TxB K mg fC fT dC dT) (O : TxO K mg fL fMt dL dMt)
    (I : TxI K mg fO fE dO dE) (X : ExP K mg "InvalidWeb" CW) (XT : ExP K mg "InvalidTie" CT) (T : TxC K C) (G : TxG K mg C fi di) (R : TxPr K C pP gP pT gT dP dT') (U : TxQ K mg fN fP dN dQ) (V' : TxT K mg C fI fG dI dG) :
    FnV gg P w K mg base (L2.CX P w) 10 f fd ["self", "a", "b"] (spWith C CW CT) := by
  have GI : FnOk P w K mg base CX0 4 fI dI ["self", "a", "b"] (spTied C) := (ok_tied (gg := false) V'.FI T R U).ok
  have GP : FnV gg P w K mg base CX0 1 fP dQ ["a", "b"] spPair := ok_pair U.FP
  have GG : FnV gg P w K mg base (L2.CX P w) 9 fG dG ["places", "ties"] (spGath K C CW) := ok_gath V'.FG Nm B O I X T G
  obtain ⟨tm, mM⟩ := B.maxT
  refine fnV F scWithTie (fun vs H Q E h => ?_) (fun cdv Ar fr s H vs Q E hG hr h => ?_)
  · obtain ⟨x, t, a, ns, ks, u, v, rfl, _⟩ := h
    rfl
  · obtain ⟨x, t, a, ns, ks, u, v, rfl, W, mu, mv, fewN, fewT, bad, good⟩ := h
    have tk : Takes (cxOf (L2.CX P w) P w K mg base ["self", "a", "b"] "Web.with_tie" (defScope sWithTie) f cdv Ar fr s H E) (fun cls d _ H => E cls d H) := takes_of rfl rfl rfl rfl
    refine ⟨_, pss_cons (ps_if (PW.pt (pw_or (pt_val (pe_meth (E := E0) (pv 0) T.cl V'.mI GI (hr.mono (by decide)) V'.bI .nil pass0 (pa_cons (pv 1) (pa_cons (pv 2) pa_nil)))) (pw_or1 (pt_cmpR op_eq (pv 1) (pv 2) (nomark _)))))
        (pss_one (ps_raise rfl tk (pmk_own PySem.F.excBase_ValueError XT.plain XT.gl XT.kp (raises_own XT.hs XT.ty) (by rfl)))) pss_nil)
      (pss_cons (ps_if (pt_cmpR op_eq (pe_callB call_len_seq (by rfl) Nm.T.len PySem.boot_len (pa_cons (pe_fld (pv 0) rfl) pa_nil)) (pe_glob (v := .int 40) (by rfl) mM ⟨tm, rfl⟩) (nomark _)) (pss_one ps_never) pss_nil)
        (pss_one (ps_ret (pe_callV (E := WE fun cls d _ H => E cls d H) hG GG hr (by rfl) V'.mG V'.FG.kp V'.bG .nil (fun σ => passAt tk σ) (pa_cons (pe_fld (pv 0) rfl) (pa_cons (pe_op op_catA (pe_fld (pv 0) rfl)
          (pe_tup (pa_cons (pe_callV (E := fun _ _ _ _ => False) hG GP (hr.mono (by decide)) (by rfl) U.mP U.FP.kp U.bP .nil (fun _ => passAt0) (pa_cons (pv 1) (pa_cons (pv 2) pa_nil))) pa_nil))) pa_nil)))))), ?_⟩
    obtain ⟨dx, D, e1, e2, e3⟩ := W.ins
    refine ⟨_, rfl, x, dx, _, rfl, e1, rfl, _, rfl, _, rfl, x, t, a, ns, ks, u, v, rfl, W, mu, mv, fun H1 s1 => ⟨_, rfl, ?_⟩⟩
    have W1 := W.same s1
    have f1 := s1 _ _ e1
    dsimp only
    by_cases c1 : decide (pairT u v ∈ ks.map (·.2)) = true
    · rw [if_pos c1]
      exact bad (by rw [c1]; rfl) H1 s1
    · rw [if_neg c1]
      refine ⟨_, rfl, _, rfl, rfl, _, rfl, ?_⟩
      dsimp only
      by_cases c2 : u = v
      · rw [if_pos (by rw [c2]; exact decide_eq_true rfl)]
        exact bad (by rw [decide_eq_true c2, Bool.or_true]) H1 s1
      · rw [if_neg (by rw [decide_eq_true_eq]; intro z; cases z; exact c2 rfl)]
        have g : Gath C CW H Q E ns (ks.map (·.2) ++ [pairT u v]) := good (by rw [Bool.eq_false_iff.mpr c1, decide_eq_false c2]; rfl)
        refine ⟨_, rfl, x, C, dx, _, _, rfl, f1, T.cl, T.nT, rfl, a, _, rfl, .inr (.inl W1.row.at_), rfl, _, rfl, ?_⟩
        dsimp only
        rw [if_neg (by rw [decide_eq_true_eq]; intro z; injection z with z; rw [List.length_map] at z; omega)]
        refine ⟨_, rfl, x, C, dx, _, _, rfl, f1, T.cl, T.nP, rfl, ?_⟩
        refine ⟨_, rfl, x, C, dx, _, _, rfl, f1, T.cl, T.nT, rfl, ?_⟩
        refine ⟨_, rfl, _, rfl, u, v, rfl, fun r nr => ?_⟩
        have s2 := same_trans s1 (same_upd (o := .tup ((pairT u v).map V.str)) nr)
        have hr2 : (upd H1 r (.tup ((pairT u v).map V.str))) r = some (.tup ((pairT u v).map V.str)) := upd_same
        generalize upd H1 r (.tup ((pairT u v).map V.str)) = H2 at s2 hr2 ⊢
        refine ⟨by show 1 ≤ sizeLine; decide, fun b nb => ?_⟩
        have s3 := same_trans s2 (same_upd (o := .tup [V.ref r]) nb)
        have hr3 := same_upd (o := .tup [V.ref r]) nb _ _ hr2
        have hb3 : (upd H2 b (.tup [V.ref r])) b = some (.tup [V.ref r]) := upd_same
        generalize upd H2 b (.tup [V.ref r]) = H3 at s3 hr3 hb3 ⊢
        have W3 := W.same s3
        have sn : ∀ y ∈ ns, y.length ≤ 1000 := W.sm
        have fin : ∀ (H5 : Hp) (c : Addr), Same H3 H5 → Rd H5 c (.tup ((ks ++ [(r, pairT u v)]).map fun k => V.ref k.1)) → spGath K C CW [.ref t, .ref c] H5 Q E := fun H5 c s5 hc => by
          have W5 := W3.same s5
          refine ⟨t, c, ns, ks ++ [(r, pairT u v)], rfl, .inr (.inl W5.tup.rd), sn, fewN, .inr (.inl hc), fun k m => ?_, fun k m => ?_, by rw [List.length_append]; simp; omega, ?_⟩
          · rcases List.mem_append.mp m with m | m
            · exact W5.row.each k m
            · obtain rfl : k = (r, pairT u v) := by simpa using m
              refine ⟨.inl (s5 _ _ hr3), fun y my => ?_, ?_⟩
              · show y.length ≤ 1000
                have z : y = u ∨ y = v := by
                  have my' : y ∈ pairT u v := my
                  unfold pairT at my'
                  split at my' <;> simp at my' <;> rcases my' with z | z <;> simp [z]
                rcases z with z | z
                · rw [z]; exact sn u mu
                · rw [z]; exact sn v mv
              · show (pairT u v).length ≤ 1000
                unfold pairT
                split <;> simp
          · rcases List.mem_append.mp m with m | m
            · exact webTies W k m
            · obtain rfl : k = (r, pairT u v) := by simpa using m
              exact pairT_ne u v
          · rw [List.map_append]
            exact g.same (same_trans s3 s5)
        refine ⟨a, b, _, [V.ref r], rfl, rfl, .inl W3.row.at_, SqT.of hb3, by rw [List.length_map, sizeLine_eq]; simp; omega, fun e => ?_, ⟨fun _ e => absurd e (by simp), fun _ _ p np => ?_⟩⟩
        · have ek : ks = [] := List.map_eq_nil_iff.mp e
          exact fin H3 b (fun _ _ e => e) (.inl (by rw [ek]; exact hb3))
        · refine fin _ p (same_upd np) (.inl ?_)
          rw [upd_same, List.map_append]
          rfl
end
end Lx

/-! Webs: without_tie. -/
namespace Lx
open PySem PySem.Spec PyProof.Rows L2 Fw
abbrev sWoTie : Stmt := meth 13
theorem op_neDk {X : Cx} {K : PySem.W.Frag} (h : X.K = K) (hu : X.A.units + 64 < cLine) : OpR X (compareOp .NotEq) (rNeD K) := h ▸ op_neD hu
theorem low_ok {x : Str} (h : nameS x = true) : PyData.strOk x = true := by
  unfold nameS at h
  have z := (Bool.and_eq_true_iff.mp (Bool.and_eq_true_iff.mp h).2).2
  unfold PyData.strOk
  rw [← Array.all_toList]
  refine List.all_eq_true.mpr fun c m => ?_
  have y := List.all_eq_true.mp z c m
  unfold low at y
  have y2 := (Bool.and_eq_true_iff.mp y).2
  have y3 : c ≤ 122 := of_decide_eq_true y2
  exact decide_eq_true (by omega)
theorem place_ok {ns : List Str} {ts : List (List Str)} (h : webB ns ts = true) : ∀ x ∈ ns, nameS x = true := fun x m => by
  unfold webB placesB at h
  exact List.all_eq_true.mp (Bool.and_eq_true_iff.mp (Bool.and_eq_true_iff.mp h).1).1 x m
theorem shapedX {k : List Str} (h : ∀ x ∈ k, nameS x = true) : SeqAt.shaped (.tuple (k.map PyData.str)) = true := by
  obtain ⟨a, b⟩ := layT k fun x m => low_ok (h x m)
  show (PyData.canLayAll0 (k.map PyData.str) && decide (PyData.depthAll (k.map PyData.str) + 1 ≤ 64)) = true
  rw [a, b]
  rfl
theorem dpX {K : PySem.W.Frag} {H : Hp} {a : Addr} {k : List Str} (h : Rd H a (.tup (k.map V.str))) : Dp K H (.ref a) (.tuple (k.map PyData.str)) := .tup (.inl h) (dpT k)
/-! ### ascending, by steps and by pairs -/
theorem stepsT_asc : ∀ {ts : List (List Str)}, (stepsT ts).all id = true → AscT ts
  | [], _ => List.Pairwise.nil
  | [x], _ => List.pairwise_singleton _ _
  | x :: y :: r, h => by
    have h' : (ltT x y && (stepsT (y :: r)).all id) = true := h
    obtain ⟨a, b⟩ := Bool.and_eq_true_iff.mp h'
    have ih := stepsT_asc b
    obtain ⟨i1, i2⟩ := List.pairwise_cons.mp ih
    refine List.pairwise_cons.mpr ⟨fun z m => ?_, ih⟩
    rcases List.mem_cons.mp m with e | m
    · rw [e]
      exact a
    · exact ltT_trans a (i1 z m)
theorem asc_stepsT : ∀ {ts : List (List Str)}, AscT ts → (stepsT ts).all id = true
  | [], _ => rfl
  | [x], _ => rfl
  | x :: y :: r, h => by
    obtain ⟨i1, i2⟩ := List.pairwise_cons.mp h
    show (ltT x y && (stepsT (y :: r)).all id) = true
    rw [i1 y List.mem_cons_self, asc_stepsT i2]
    rfl
theorem asc_stepsS : ∀ {ns : List Str}, AscN ns → (stepsS ns).all id = true
  | [], _ => rfl
  | [x], _ => rfl
  | x :: y :: r, h => by
    obtain ⟨i1, i2⟩ := List.pairwise_cons.mp h
    show (ltS x y && (stepsS (y :: r)).all id) = true
    have a : ltS x y = true := decide_eq_true (i1 y List.mem_cons_self)
    rw [a, asc_stepsS i2]
    rfl
/-- what makes a web, by members and pairs -/
theorem webB_iff {ns : List Str} {ts : List (List Str)} : webB ns ts = true ↔ (∀ x ∈ ns, nameS x = true) ∧ 1 ≤ ns.length ∧ ns.length ≤ 12 ∧ AscN ns ∧ ts.length ≤ 40 ∧ (∀ k ∈ ts, tieIn ns k = true) ∧ AscT ts := by
  unfold webB placesB tiesB
  simp only [Bool.and_eq_true, decide_eq_true_eq, List.all_eq_true]
  constructor
  · rintro ⟨⟨a, ⟨b, c⟩, d⟩, e, f, g⟩
    exact ⟨a, b, c, stepsS_asc (List.all_eq_true.mpr d), e, f, stepsT_asc (List.all_eq_true.mpr g)⟩
  · rintro ⟨a, b, c, d, e, f, g⟩
    exact ⟨⟨a, ⟨b, c⟩, List.all_eq_true.mp (asc_stepsS d)⟩, e, f, List.all_eq_true.mp (asc_stepsT g)⟩
theorem webB_filter {ns : List Str} {ts : List (List Str)} (h : webB ns ts = true) (p : List Str → Bool) : webB ns (ts.filter p) = true := by
  obtain ⟨a, b, c, d, e, f, g⟩ := webB_iff.mp h
  exact webB_iff.mpr ⟨a, b, c, d, Nat.le_trans (List.length_filter_le _ _) e, fun k m => f k (List.mem_filter.mp m).1, List.Pairwise.filter _ g⟩
def spWo (C CT : Addr) : Sp := fun vs H Q E => ∃ (x t a : Addr) (ns : List Str) (ks : List (Addr × List Str)) (u v : Str), vs = [.ref x, .str u, .str v] ∧ WebAt C H x t a ns ks ∧ u ∈ ns ∧ v ∈ ns ∧ ns.length ≤ 1000 ∧
  (decide (pairT u v ∈ ks.map (·.2)) = false → ∀ H', Same H H' → E (.ref CT) none H') ∧
  (decide (pairT u v ∈ ks.map (·.2)) = true → ∀ H' y a', Same H H' → H y = none → WebAt C H' y t a' ns (ks.filter fun k => decide (k.2 ≠ pairT u v)) → Q (.ref y) H')
abbrev nU : List Str := ["self", "a", "b", "gone", "tie"]
section
variable {P : Program} {w : World} {K : PySem.W.Frag} {mg : Str → Option Value} {base : Heap} {gg : Bool}
theorem scWoTie : FnScope nU ["self", "a", "b"] (defScope sWoTie) := ⟨rfl, rfl, rfl, by decide +kernel, rfl, by decide +kernel, by decide +kernel⟩
theorem ok_wo {C CW CT f fi fA fNm fK fD fC fT fL fMt fO fE pP gP pT gT fN fP fI fG : Addr} {fd di dA dNm dK dD dC dT dL dMt dO dE dP dT' dN dQ dI dG : FuncData} (F : Fun K "without_tie" "Web.without_tie" sWoTie f fd) (Nm : TxN K mg fA fNm fK fD dA dNm dK dD) (B : TxB K mg fC fT dC dT) (O : TxO K mg fL fMt dL dMt)
    (I : TxI K mg fO fE dO dE) (X : ExP K mg "InvalidWeb" CW) (XT : ExP K mg "InvalidTie" CT) (T : TxC K C) (G : TxG K mg C fi di) (R : TxPr K C pP gP pT gT dP dT') (U : TxQ K mg fN fP dN dQ) (V' : TxT K mg C fI fG dI dG) :
    FnV gg P w K mg base (L2.CX P w) 9 f fd ["self", "a", "b"] (spWo C CT) := by
  have GI : FnOk P w K mg base CX0 4 fI dI ["self", "a", "b"] (spTied C) := (ok_tied (gg := false) V'.FI T R U).ok
  have GP : FnV gg P w K mg base CX0 1 fP dQ ["a", "b"] spPair := ok_pair U.FP
  have GM : FnOk P w K mg base (L2.CX P w) 7 fi di ["self", "places", "ties"] (spInit C CW) := (ok_init (gg := false) G.F Nm B O I X T).ok
  refine fnV F scWoTie (fun vs H Q E h => ?_) (fun cdv Ar fr s H vs Q E hG hr h => ?_)
  · obtain ⟨x, t, a, ns, ks, u, v, rfl, _⟩ := h
    rfl
  · obtain ⟨x, t, a, ns, ks, u, v, rfl, W, mu, mv, few, bad, good⟩ := h
    have hu := hr.units
    have tk : Takes (cxOf (L2.CX P w) P w K mg base nU "Web.without_tie" (defScope sWoTie) f cdv Ar fr s H E) (fun cls d _ H => E cls d H) := takes_of rfl rfl rfl rfl
    refine ⟨_, pss_cons (ps_if (pt_not (pt_val (pe_meth (E := E0) (pv 0) T.cl V'.mI GI (hr.mono (by decide)) V'.bI .nil pass0 (pa_cons (pv 1) (pa_cons (pv 2) pa_nil)))))
        (pss_one (ps_raise rfl tk (pmk_own PySem.F.excBase_ValueError XT.plain XT.gl XT.kp (raises_own XT.hs XT.ty) (by rfl)))) pss_nil)
      (pss_cons (ps_set (i := 3) scWoTie.nd rfl (Or.inr rfl) (pe_callV (E := fun _ _ _ _ => False) hG GP (hr.mono (by decide)) (by rfl) U.mP U.FP.kp U.bP .nil (fun _ => passAt0) (pa_cons (pv 1) (pa_cons (pv 2) pa_nil))))
        (pss_one (ps_ret (pe_make (E := E) G.mkC GM hr (by rfl) G.gC G.b .nil (passes_call tk fun _ _ _ _ h => h) (pa_cons (pe_fld (pv 0) rfl) (pa_cons (pe_callTy cr_tupF (by rfl) Nm.T.tuple (by decide +kernel) (pa_cons
          (pe_lc (own := [("tie", 4)]) (g := gName 4) (by rfl) scWoTie.nd (pi_tup (pe_fld (pv 0) rfl))
            (blkOk_by (N := nU) (sc := defScope sWoTie) (own := [("tie", 4)]) (by decide +kernel)) (fun _ _ _ _ _ => pg_name (i := 4) scWoTie.nd rfl (Or.inl rfl))
            (fun _ _ _ _ _ => pts_one (pt_cmpR (op_neDk (K := K) rfl (by exact hu)) (pv 4) (pv 3) (nomark _)))
            (fun _ _ _ _ _ => pv 4)) pa_nil)) pa_nil)))))), ?_⟩
    obtain ⟨dx, D, e1, e2, e3⟩ := W.ins
    refine ⟨_, rfl, x, dx, _, rfl, e1, rfl, _, rfl, _, rfl, x, t, a, ns, ks, u, v, rfl, W, mu, mv, fun H1 s1 => ⟨_, rfl, ?_⟩⟩
    dsimp only
    by_cases c1 : decide (pairT u v ∈ ks.map (·.2)) = true
    · rw [if_neg (by rw [c1]; decide)]
      refine ⟨_, rfl, _, rfl, u, v, rfl, fun r nr => ?_⟩
      have s2 := same_trans s1 (same_upd (o := .tup ((pairT u v).map V.str)) nr)
      have hr2 : (upd H1 r (.tup ((pairT u v).map V.str))) r = some (.tup ((pairT u v).map V.str)) := upd_same
      generalize upd H1 r (.tup ((pairT u v).map V.str)) = H2 at s2 hr2 ⊢
      have W2 := W.same s2
      have f2 := s2 _ _ e1
      refine ⟨_, rfl, x, C, dx, _, _, rfl, f2, T.cl, T.nP, rfl, ?_⟩
      refine ⟨_, rfl, x, C, dx, _, _, rfl, f2, T.cl, T.nT, rfl, a, rfl, ⟨_, .inl W2.row.at_⟩, fun L nL => ?_⟩
      have names := place_ok W.ok
      have pu : ∀ y ∈ pairT u v, nameS y = true := fun y my => by
        have z : y = u ∨ y = v := by
          unfold pairT at my
          split at my <;> simp at my <;> rcases my with z | z <;> simp [z]
        rcases z with z | z
        · rw [z]; exact names u mu
        · rw [z]; exact names v mv
      have tn : ∀ k ∈ ks, ∀ y ∈ k.2, nameS y = true := fun k m y my => by
        obtain ⟨p, q, e, mp, mq⟩ := ties_in W.ok k.2 (List.mem_map.mpr ⟨k, m, rfl⟩)
        rw [e] at my
        rcases (show y = p ∨ y = q by simpa using my) with z | z
        · rw [z]; exact names p mp
        · rw [z]; exact names q mq
      refine lc_tup (K := K) (a := a) (xs := ks.map fun k => V.ref k.1) (fun i Hc => Same H2 Hc ∧ Hc L = some (.lst (((ks.take i).filter fun k => decide (k.2 ≠ pairT u v)).map fun k => V.ref k.1))) ⟨same_upd nL, upd_same⟩ (fun i Hc _ z => .inl (rd_same W2.row.at_ z.1)) ?_ ?_
      · rintro i y Hc hy ⟨sm, hL⟩
        rw [List.getElem?_map] at hy
        cases ek : ks[i]? with
        | none => rw [ek] at hy; cases hy
        | some k =>
          rw [ek] at hy
          obtain rfl : V.ref k.1 = y := Option.some.inj hy
          have mk := List.mem_of_getElem? ek
          have tk1 : (ks.take (i + 1)) = ks.take i ++ [k] := by
            rw [List.take_add_one, ek]
            rfl
          have ev : (!PyData.eqv (.tuple (k.2.map PyData.str)) (.tuple ((pairT u v).map PyData.str))) = decide (k.2 ≠ pairT u v) := by
            show (!PyData.eqvAll (k.2.map PyData.str) ((pairT u v).map PyData.str)) = _
            rw [eqv_txt]
            by_cases c : k.2 = pairT u v <;> simp [c]
          refine ⟨rfl, _, rfl, _, rfl, .tuple (k.2.map PyData.str), .tuple ((pairT u v).map PyData.str), dpX (rd_same (W2.row.each k mk).1 sm), dpX (.inl (sm _ _ hr2)), shapedX (tn k mk), shapedX pu, _, rfl, ?_⟩
          rw [ev, tk1, List.filter_append]
          dsimp only
          by_cases c : k.2 = pairT u v
          · have e1 : decide (k.2 ≠ pairT u v) = false := by simp [c]
            rw [if_neg (by rw [e1]; decide)]
            have e2 : [k].filter (fun k => decide (k.2 ≠ pairT u v)) = [] := by simp [c]
            rw [e2, List.append_nil]
            exact ⟨sm, hL⟩
          · have e1 : decide (k.2 ≠ pairT u v) = true := by simp [c]
            rw [if_pos e1]
            have e2 : [k].filter (fun k => decide (k.2 ≠ pairT u v)) = [k] := by simp [c]
            rw [e2]
            refine ⟨_, rfl, _, hL, ?_, fun b o e => ?_, ?_⟩
            · rw [List.length_map]
              have z := W2.row.few
              have y := Nat.le_trans (List.length_filter_le (fun k => decide (k.2 ≠ pairT u v)) (ks.take i)) (List.length_take_le' i ks)
              exact Nat.lt_of_le_of_lt (Nat.le_trans y z) (by decide)
            · rw [upd_ne (ne_of_none e nL)]
              exact sm _ _ e
            · rw [upd_same, List.map_append]
              rfl
      · rintro Hc ⟨sm, hL⟩
        rw [List.length_map, List.take_length] at hL
        have lf := List.length_filter_le (fun k => decide (k.2 ≠ pairT u v)) ks
        have mf : ∀ k ∈ ks.filter (fun k => decide (k.2 ≠ pairT u v)), k ∈ ks := fun k m => (List.mem_filter.mp m).1
        have wf : webB ns ((ks.filter fun k => decide (k.2 ≠ pairT u v)).map (·.2)) = true := by
          have z := webB_filter W.ok fun k => decide (k ≠ pairT u v)
          rwa [List.filter_map] at z
        generalize ks.filter (fun k => decide (k.2 ≠ pairT u v)) = zs at hL lf mf wf good
        refine ⟨L, _, rfl, .inl ⟨SqL.of hL, fun a' o na oa => ?_⟩⟩
        have s4 := same_trans sm (same_upd (o := .frz o (.tup (zs.map fun k => V.ref k.1))) na)
        have ra : Rd (upd Hc a' (.frz o (.tup (zs.map fun k => V.ref k.1)))) a' (.tup (zs.map fun k => V.ref k.1)) := .inr ⟨o, upd_same⟩
        generalize upd Hc a' (.frz o (.tup (zs.map fun k => V.ref k.1))) = H4 at s4 ra ⊢
        have S4 := same_trans s2 s4
        refine fun y dy ny ndy ney => ?_
        have s7 := same_trans (same_upd (o := .own y) ndy) (same_upd (H := upd H4 dy (.own y)) (o := .ins C dy []) (by rw [upd_ne (Ne.symm ney)]; exact ny))
        have hy : (upd (upd H4 dy (.own y)) y (.ins C dy [])) y = some (.ins C dy []) := upd_same
        have hdy : (upd (upd H4 dy (.own y)) y (.ins C dy [])) dy = some (.own y) := by rw [upd_ne ney, upd_same]
        have S7 := same_trans S4 s7
        have nHy := none_same S4 ny
        generalize upd (upd H4 dy (.own y)) y (.ins C dy []) = H7 at s7 hy hdy S7 ⊢
        have W7 := W.same S7
        refine ⟨y, dy, t, a', ns, zs, rfl, hy, hdy, W7.tup, W.sm, few, ⟨rd_same ra s7, fun k m => W7.row.each k (mf k m), Nat.le_trans lf W.row.few⟩, fun c => ?_, fun _ H' sv Wn => ⟨rfl, ?_⟩⟩
        · rw [wf] at c
          cases c
        · exact good c1 H' y a' (fun b u e => sv b u (ne_of_none e nHy) (S7 _ _ e)) nHy Wn
    · rw [if_pos (by rw [Bool.eq_false_iff.mpr c1]; rfl)]
      exact bad (Bool.eq_false_iff.mpr c1) H1 s1
end
end Lx

/-! Webs: with_place. -/
namespace Lx
open PySem PySem.Spec PyProof.Rows L2 Fw
abbrev sWithPlace : Stmt := meth 14
/-- a name that is no place yet -/
def spWithP (C CW : Addr) : Sp := fun vs H Q E => ∃ (x t a : Addr) (ns : List Str) (ks : List (Addr × List Str)) (u : Str), vs = [.ref x, .str u] ∧ WebAt C H x t a ns ks ∧ nameS u = true ∧ u.length ≤ 1000 ∧ u ∉ ns ∧ ns.length ≤ 11 ∧ ks.length ≤ 62 ∧ Gath C CW H Q E (ns ++ [u]) (ks.map (·.2))
theorem in_no {x : Str} {ns : List Str} (m : x ∉ ns) : inV (.str x) (ns.map V.str) = false := Bool.eq_false_iff.mpr fun z => m (in_mem z)
section
variable {P : Program} {w : World} {K : PySem.W.Frag} {mg : Str → Option Value} {base : Heap} {gg : Bool}
theorem scWithPlace : FnScope ["self", "name"] ["self", "name"] (defScope sWithPlace) := ⟨rfl, rfl, rfl, by decide +kernel, rfl, by decide +kernel, by decide +kernel⟩
theorem ok_withP {C CW f fi fA fNm fK fD fC fT fL fMt fO fE fI fG : Addr} {fd di dA dNm dK dD dC dT dL dMt dO dE dI dG : FuncData} (F : Fun K "with_place" "Web.with_place" sWithPlace f fd) (Nm : TxN K mg fA fNm fK fD dA dNm dK dD) (B : TxB K mg fC fT dC dT) (O : TxO K mg fL fMt dL dMt)
    (I : TxI K mg fO fE dO dE) (X : ExP K mg "InvalidWeb" CW) (T : TxC K C) (G : TxG K mg C fi di) (V' : TxT K mg C fI fG dI dG) :
    FnV gg P w K mg base (L2.CX P w) 10 f fd ["self", "name"] (spWithP C CW) := by
  have GN : FnV gg P w K mg base CX0 1 fNm dNm ["value"] (spJ nameV) := ok_name Nm.FN Nm.T
  have GG : FnV gg P w K mg base (L2.CX P w) 9 fG dG ["places", "ties"] (spGath K C CW) := ok_gath V'.FG Nm B O I X T G
  obtain ⟨tm, mM⟩ := B.maxP
  refine fnV F scWithPlace (fun vs H Q E h => ?_) (fun cdv Ar fr s H vs Q E hG hr h => ?_)
  · obtain ⟨x, t, a, ns, ks, u, rfl, _⟩ := h
    rfl
  · obtain ⟨x, t, a, ns, ks, u, rfl, W, nu, su, mu, fewN, fewT, g⟩ := h
    have tk : Takes (cxOf (L2.CX P w) P w K mg base ["self", "name"] "Web.with_place" (defScope sWithPlace) f cdv Ar fr s H E) (fun cls d _ H => E cls d H) := takes_of rfl rfl rfl rfl
    refine ⟨_, pss_cons (ps_if (PW.pt (pw_or (pt_not (pt_val (pe_callV (E := fun _ _ _ _ => False) hG GN (hr.mono (by decide)) (by rfl) Nm.mN Nm.FN.kp Nm.bN .nil (fun _ => passAt0) (pa_cons (pv 1) pa_nil)))) (pw_or1 (pt_cmpR op_in_seq (pv 1) (pe_fld (pv 0) rfl) (by rfl)))))
        (pss_one ps_never) pss_nil)
      (pss_cons (ps_if (pt_cmpR op_eq (pe_callB call_len_seq (by rfl) Nm.T.len PySem.boot_len (pa_cons (pe_fld (pv 0) rfl) pa_nil)) (pe_glob (v := .int 12) (by rfl) mM ⟨tm, rfl⟩) (nomark _)) (pss_one ps_never) pss_nil)
        (pss_one (ps_ret (pe_callV (E := WE fun cls d _ H => E cls d H) hG GG hr (by rfl) V'.mG V'.FG.kp V'.bG .nil (fun σ => passAt tk σ)
          (pa_cons (pe_op op_catA (pe_fld (pv 0) rfl) (pe_tup (pa_cons (pv 1) pa_nil))) (pa_cons (pe_fld (pv 0) rfl) pa_nil)))))), ?_⟩
    obtain ⟨dx, D, e1, e2, e3⟩ := W.ins
    refine ⟨_, rfl, .str u, rfl, ⟨⟨_, .str u⟩, fun y e => by cases e; exact su⟩, _, rfl, ?_⟩
    have nv : nameV (.str u) = true := nu
    dsimp only
    rw [if_neg (by rw [nv]; decide)]
    refine ⟨_, rfl, _, rfl, x, C, dx, _, _, rfl, e1, T.cl, T.nP, rfl, t, _, rfl, .inr (.inl W.tup.rd), rfl, strs_flat ns, _, rfl, ?_⟩
    dsimp only
    rw [if_neg (by rw [if_neg (by decide), in_no mu]; decide)]
    refine ⟨_, rfl, x, C, dx, _, _, rfl, e1, T.cl, T.nP, rfl, t, _, rfl, .inr (.inl W.tup.rd), rfl, _, rfl, ?_⟩
    dsimp only
    rw [if_neg (by rw [decide_eq_true_eq]; intro z; injection z with z; rw [List.length_map] at z; omega)]
    refine ⟨_, rfl, x, C, dx, _, _, rfl, e1, T.cl, T.nP, rfl, ?_⟩
    refine ⟨_, rfl, by show 1 ≤ sizeLine; decide, fun b nb => ?_⟩
    have s3 := same_upd (o := .tup [V.str u]) nb
    have hb3 : (upd H b (.tup [V.str u])) b = some (.tup [V.str u]) := upd_same
    generalize upd H b (.tup [V.str u]) = H3 at s3 hb3 ⊢
    have W3 := W.same s3
    have fin : ∀ (H5 : Hp) (c : Addr), Same H3 H5 → Rd H5 c (.tup ((ns ++ [u]).map V.str)) → spGath K C CW [.ref c, .ref a] H5 Q E := fun H5 c s5 hc => by
      have W5 := W3.same s5
      refine ⟨c, a, ns ++ [u], ks, rfl, .inr (.inl hc), fun y m => ?_, by rw [List.length_append]; simp; omega, .inr (.inl W5.row.at_), W5.row.each, webTies W, fewT, g.same (same_trans s3 s5)⟩
      rcases List.mem_append.mp m with m | m
      · exact W.sm y m
      · obtain rfl : y = u := by simpa using m
        exact su
    refine ⟨t, b, _, [V.str u], rfl, rfl, .inl W3.tup.rd, SqT.of hb3, by rw [List.length_map, sizeLine_eq]; simp; omega, fun e => ?_, ⟨fun _ e => absurd e (by simp), fun _ _ p np => ?_⟩⟩
    · have en : ns = [] := List.map_eq_nil_iff.mp e
      exact ⟨_, rfl, x, C, dx, _, _, rfl, s3 _ _ e1, T.cl, T.nT, rfl, fin H3 b (fun _ _ e => e) (.inl (by rw [en]; exact hb3))⟩
    · have s4 := same_upd (o := .tup ((ns.map V.str) ++ [V.str u])) np
      refine ⟨_, rfl, x, C, dx, _, _, rfl, s4 _ _ (s3 _ _ e1), T.cl, T.nT, rfl, fin _ p s4 (.inl ?_)⟩
      rw [upd_same, List.map_append]
      rfl
end
end Lx

/-! Webs: the web on some of its places. -/
namespace Lx
open PySem PySem.Spec PyProof.Rows L2 Fw
/-- are both places of a tie among these? -/
def bothIn (ms : List Str) (k : List Str) : Bool := k.all fun z => inV (.str z) (ms.map V.str)
def spOn (C CW : Addr) : Sp := fun vs H Q E => ∃ (x t a t' : Addr) (ns : List Str) (ks : List (Addr × List Str)) (ms : List Str), vs = [.ref x, .ref t'] ∧ WebAt C H x t a ns ks ∧ TupK H t' (ms.map V.str) ∧ (∀ y ∈ ms, y.length ≤ 1000) ∧ ms.length ≤ 1000 ∧
  (webB ms ((ks.filter fun k => bothIn ms k.2).map (·.2)) = false → ∀ H', Same H H' → E (.ref CW) none H') ∧
  (webB ms ((ks.filter fun k => bothIn ms k.2).map (·.2)) = true → ∀ H' y a', Same H H' → H y = none → WebAt C H' y t' a' ms (ks.filter fun k => bothIn ms k.2) → Q (.ref y) H')
abbrev nO : List Str := ["web", "places", "tie"]
section
variable {P : Program} {w : World} {K : PySem.W.Frag} {mg : Str → Option Value} {base : Heap} {gg : Bool}
theorem scOn : FnScope nO ["web", "places"] (defScope sOn) := ⟨rfl, rfl, rfl, by decide +kernel, rfl, by decide +kernel, by decide +kernel⟩
theorem ok_on {C CW f fi fA fNm fK fD fC fT fL fMt fO fE pP gP pT gT : Addr} {fd di dA dNm dK dD dC dT dL dMt dO dE dP dT' : FuncData} (F : Fun K "web_on" "web_on" sOn f fd) (Nm : TxN K mg fA fNm fK fD dA dNm dK dD) (B : TxB K mg fC fT dC dT) (O : TxO K mg fL fMt dL dMt)
    (I : TxI K mg fO fE dO dE) (X : ExP K mg "InvalidWeb" CW) (T : TxC K C) (G : TxG K mg C fi di) (R : TxPr K C pP gP pT gT dP dT') :
    FnV gg P w K mg base (L2.CX P w) 9 f fd ["web", "places"] (spOn C CW) := by
  have GM : FnOk P w K mg base (L2.CX P w) 7 fi di ["self", "places", "ties"] (spInit C CW) := (ok_init (gg := false) G.F Nm B O I X T).ok
  have GT : FnOk P w K mg base CX0 1 gT dT' ["self"] (spT C) := (ok_getT (gg := false) R.FT T).ok
  refine fnV F scOn (fun vs H Q E h => ?_) (fun cdv Ar fr s H vs Q E hG hr h => ?_)
  · obtain ⟨x, t, a, t', ns, ks, ms, rfl, _⟩ := h
    rfl
  · obtain ⟨x, t, a, t', ns, ks, ms, rfl, W, tu, sm, few, bad, good⟩ := h
    have tk : Takes (cxOf (L2.CX P w) P w K mg base nO "web_on" (defScope sOn) f cdv Ar fr s H E) (fun cls d _ H => E cls d H) := takes_of rfl rfl rfl rfl
    refine ⟨_, pss_one (ps_ret (pe_make (E := E) G.mkC GM hr (by rfl) G.gC G.b .nil (passes_call tk fun _ _ _ _ h => h) (pa_cons (pv 1) (pa_cons (pe_callTy cr_tupF (by rfl) Nm.T.tuple (by decide +kernel) (pa_cons
          (pe_lc (own := [("tie", 2)]) (g := gName 2) (by rfl) scOn.nd (pi_tup (pe_prop (pv 0) T.cl R.pT GT (hr.mono (by decide)) R.bT .nil pass0 rfl))
            (blkOk_by (N := nO) (sc := defScope sOn) (own := [("tie", 2)]) (by decide +kernel)) (fun _ _ _ _ _ => pg_name (i := 2) scOn.nd rfl (Or.inl rfl))
            (fun _ _ _ _ _ => pts_one (PW.pt (pw_and (pt_cmpR (op_inK (K := K) rfl) (pe_ix (ix_tupK (K := K) rfl) (pv 2) pe_int (fun _ _ => rfl)) (pv 1) (by rfl)) (pw_and1 (pt_cmpR (op_inK (K := K) rfl) (pe_ix (ix_tupK (K := K) rfl) (pv 2) pe_int (fun _ _ => rfl)) (pv 1) (by rfl))))))
            (fun _ _ _ _ _ => pv 2)) pa_nil)) pa_nil)))), ?_⟩
    obtain ⟨dx, D, e1, e2, e3⟩ := W.ins
    refine ⟨_, rfl, _, rfl, x, dx, _, rfl, e1, x, t, a, ns, ks, rfl, W, a, rfl, ⟨_, .inl W.row.at_⟩, fun L nL => ?_⟩
    refine lc_tup (K := K) (a := a) (xs := ks.map fun k => V.ref k.1) (fun i Hc => Same H Hc ∧ Hc L = some (.lst (((ks.take i).filter fun k => bothIn ms k.2).map fun k => V.ref k.1))) ⟨same_upd nL, upd_same⟩ (fun i Hc _ z => .inl (rd_same W.row.at_ z.1)) ?_ ?_
    · rintro i y Hc hy ⟨sc, hL⟩
      rw [List.getElem?_map] at hy
      cases ek : ks[i]? with
      | none => rw [ek] at hy; cases hy
      | some k =>
        rw [ek] at hy
        obtain rfl : V.ref k.1 = y := Option.some.inj hy
        have mk := List.mem_of_getElem? ek
        have tk1 : (ks.take (i + 1)) = ks.take i ++ [k] := by
          rw [List.take_add_one, ek]
          rfl
        obtain ⟨p, q, epq, mp, mq⟩ := ties_in W.ok k.2 (List.mem_map.mpr ⟨k, mk, rfl⟩)
        have ka := rd_same (W.row.each k mk).1 sc
        have tu1 := (tu.same sc).rd
        have eb : bothIn ms k.2 = (inV (.str p) (ms.map V.str) && inV (.str q) (ms.map V.str)) := by
          rw [epq]
          show (inV (.str p) (ms.map V.str) && (inV (.str q) (ms.map V.str) && true)) = _
          rw [Bool.and_true]
        rw [epq] at ka
        have yes : bothIn ms k.2 = true → ∃ acc, Hc L = some (.lst acc) ∧ acc.length < sizeLine ∧ Same H (upd Hc L (.lst (acc ++ [V.ref k.1]))) ∧ (upd Hc L (.lst (acc ++ [V.ref k.1]))) L = some (.lst (((ks.take (i + 1)).filter fun k => bothIn ms k.2).map fun k => V.ref k.1)) := fun c => by
          refine ⟨_, hL, ?_, fun b o e => ?_, ?_⟩
          · rw [List.length_map]
            have y := Nat.le_trans (List.length_filter_le (fun k => bothIn ms k.2) (ks.take i)) (List.length_take_le' i ks)
            exact Nat.lt_of_le_of_lt (Nat.le_trans y W.row.few) (by decide)
          · rw [upd_ne (ne_of_none e nL)]
            exact sc _ _ e
          · rw [upd_same, tk1, List.filter_append, show [k].filter (fun k => bothIn ms k.2) = [k] by simp [c], List.map_append]
            rfl
        have no : bothIn ms k.2 = false → Same H Hc ∧ Hc L = some (.lst (((ks.take (i + 1)).filter fun k => bothIn ms k.2).map fun k => V.ref k.1)) := fun c => by
          rw [tk1, List.filter_append, show [k].filter (fun k => bothIn ms k.2) = [] by simp [c], List.append_nil]
          exact ⟨sc, hL⟩
        refine ⟨rfl, _, rfl, k.1, _, 0, .str p, rfl, rfl, .inl ka, by rfl, _, rfl, t', _, rfl, .inr (.inl tu1), rfl, strs_flat ms, _, rfl, ?_⟩
        dsimp only
        by_cases c1 : inV (.str p) (ms.map V.str) = true
        · rw [if_pos (by exact c1)]
          refine ⟨_, rfl, k.1, _, 1, .str q, rfl, rfl, .inl ka, by rfl, _, rfl, t', _, rfl, .inr (.inl tu1), rfl, strs_flat ms, _, rfl, ?_⟩
          dsimp only
          by_cases c2 : inV (.str q) (ms.map V.str) = true
          · rw [if_pos (by exact c2)]
            exact ⟨_, rfl, yes (by rw [eb, c1, c2]; rfl)⟩
          · rw [if_neg (by exact c2)]
            exact no (by rw [eb, Bool.eq_false_iff.mpr c2, Bool.and_false])
        · rw [if_neg (by exact c1)]
          exact no (by rw [eb, Bool.eq_false_iff.mpr c1, Bool.false_and])
    · rintro Hc ⟨sc, hL⟩
      rw [List.length_map, List.take_length] at hL
      have lf := List.length_filter_le (fun k => bothIn ms k.2) ks
      have mf : ∀ k ∈ ks.filter (fun k => bothIn ms k.2), k ∈ ks := fun k m => (List.mem_filter.mp m).1
      generalize ks.filter (fun k => bothIn ms k.2) = zs at hL lf mf bad good
      refine ⟨L, _, rfl, .inl ⟨SqL.of hL, fun a' o na oa => ?_⟩⟩
      have s4 := same_trans sc (same_upd (o := .frz o (.tup (zs.map fun k => V.ref k.1))) na)
      have ra : Rd (upd Hc a' (.frz o (.tup (zs.map fun k => V.ref k.1)))) a' (.tup (zs.map fun k => V.ref k.1)) := .inr ⟨o, upd_same⟩
      generalize upd Hc a' (.frz o (.tup (zs.map fun k => V.ref k.1))) = H4 at s4 ra ⊢
      refine fun y dy ny ndy ney => ?_
      have s7 := same_trans (same_upd (o := .own y) ndy) (same_upd (H := upd H4 dy (.own y)) (o := .ins C dy []) (by rw [upd_ne (Ne.symm ney)]; exact ny))
      have hy : (upd (upd H4 dy (.own y)) y (.ins C dy [])) y = some (.ins C dy []) := upd_same
      have hdy : (upd (upd H4 dy (.own y)) y (.ins C dy [])) dy = some (.own y) := by rw [upd_ne ney, upd_same]
      have S7 := same_trans s4 s7
      have nHy := none_same s4 ny
      generalize upd (upd H4 dy (.own y)) y (.ins C dy []) = H7 at s7 hy hdy S7 ⊢
      have W7 := W.same S7
      exact ⟨y, dy, t', a', ms, zs, rfl, hy, hdy, tu.same S7, sm, few, ⟨rd_same ra s7, fun k m => W7.row.each k (mf k m), Nat.le_trans lf W.row.few⟩, fun c H' s8 => bad c H' (same_trans S7 s8), fun c H' sv Wn => ⟨rfl, good c H' y a' (fun b u e => sv b u (ne_of_none e nHy) (S7 _ _ e)) nHy Wn⟩⟩
end
end Lx

/-! Webs: without_places. -/
namespace Lx
open PySem PySem.Spec PyProof.Rows L2 Fw
abbrev sWoP : Stmt := meth 15
def lessN (ns gs : List Str) : List Str := ns.filter fun z => !inV (.str z) (gs.map V.str)
def spWoP (C CW : Addr) : Sp := fun vs H Q E => ∃ (x t a g : Addr) (ns : List Str) (ks : List (Addr × List Str)) (gs : List Str), vs = [.ref x, .ref g] ∧ WebAt C H x t a ns ks ∧ ns.length ≤ 1000 ∧ Rd H g (.tup (gs.map V.str)) ∧ (∀ z ∈ gs, z ∈ ns) ∧
  (webB (lessN ns gs) ((ks.filter fun k => bothIn (lessN ns gs) k.2).map (·.2)) = false → ∀ H', Same H H' → E (.ref CW) none H') ∧
  (webB (lessN ns gs) ((ks.filter fun k => bothIn (lessN ns gs) k.2).map (·.2)) = true → ∀ H' y t' a', Same H H' → H y = none → WebAt C H' y t' a' (lessN ns gs) (ks.filter fun k => bothIn (lessN ns gs) k.2) → Q (.ref y) H')
structure TxV (K : PySem.W.Frag) (mg : Str → Option Value) (fO : Addr) (dO : FuncData) : Prop where
  mO : mg "web_on" = some (.ref fO)
  FO : Fun K "web_on" "web_on" sOn fO dO
  bO : Binds K dO ["web", "places"] []
theorem op_notInK {X : Cx} {K : PySem.W.Frag} (h : X.K = K) : OpR X (compareOp .NotIn) (rIn K true) := h ▸ op_notIn_seq
abbrev nX : List Str := ["self", "places", "place"]
section
variable {P : Program} {w : World} {K : PySem.W.Frag} {mg : Str → Option Value} {base : Heap} {gg : Bool}
theorem scWoP : FnScope nX ["self", "places"] (defScope sWoP) := ⟨rfl, rfl, rfl, by decide +kernel, rfl, by decide +kernel, by decide +kernel⟩
theorem ok_wop {C CW f fi fA fNm fK fD fC fT fL fMt fO fE pP gP pT gT fN fP fV : Addr} {fd di dA dNm dK dD dC dT dL dMt dO dE dP dT' dN dQ dV : FuncData} (F : Fun K "without_places" "Web.without_places" sWoP f fd) (Nm : TxN K mg fA fNm fK fD dA dNm dK dD) (B : TxB K mg fC fT dC dT) (O : TxO K mg fL fMt dL dMt)
    (I : TxI K mg fO fE dO dE) (X : ExP K mg "InvalidWeb" CW) (T : TxC K C) (G : TxG K mg C fi di) (R : TxPr K C pP gP pT gT dP dT') (U : TxQ K mg fN fP dN dQ) (V' : TxV K mg fV dV) :
    FnV gg P w K mg base (L2.CX P w) 10 f fd ["self", "places"] (spWoP C CW) := by
  have GN : FnR P w K mg base CX0 3 fN (spNeedR C) := need_ok T R U
  have GO : FnV gg P w K mg base (L2.CX P w) 9 fV dV ["web", "places"] (spOn C CW) := ok_on V'.FO Nm B O I X T G R
  refine fnV F scWoP (fun vs H Q E h => ?_) (fun cdv Ar fr s H vs Q E hG hr h => ?_)
  · obtain ⟨x, t, a, g, ns, ks, gs, rfl, _⟩ := h
    rfl
  · obtain ⟨x, t, a, g, ns, ks, gs, rfl, W, few, hg, inn, bad, good⟩ := h
    have tk : Takes (cxOf (L2.CX P w) P w K mg base nX "Web.without_places" (defScope sWoP) f cdv Ar fr s H E) (fun cls d _ H => E cls d H) := takes_of rfl rfl rfl rfl
    refine ⟨_, pss_cons (ps_if (pt_not (pt_val (pe_is (t := "tuple") (.inr (.inr (.inr (.inl rfl)))) (by rfl) Nm.T.isi (by rfl) Nm.T.tuple (by decide +kernel) (pv 1) mono_var))) (pss_one ps_never) pss_nil)
      (pss_cons (ps_for (passes_of rfl) rfl (pi_tup (pv 1)) (pg_name (i := 2) scWoP.nd rfl (Or.inl rfl)) (pss_one (ps_expr (pe_callR (E := E0) GN (hr.mono (by decide)) (by rfl) U.mN U.FN.kp pass0 (pa_cons (pv 0) (pa_cons (pv 2) pa_nil))))))
        (pss_one (ps_ret (pe_callV (E := WE fun cls d _ H => E cls d H) hG GO hr (by rfl) V'.mO V'.FO.kp V'.bO .nil (fun σ => passAt tk σ) (pa_cons (pv 0) (pa_cons (pe_callTy cr_tupF (by rfl) Nm.T.tuple (by decide +kernel) (pa_cons
          (pe_lc (own := [("place", 2)]) (g := gName 2) (by rfl) scWoP.nd (pi_tup (pe_fld (pv 0) rfl))
            (blkOk_by (N := nX) (sc := defScope sWoP) (own := [("place", 2)]) (by decide +kernel)) (fun _ _ _ _ _ => pg_name (i := 2) scWoP.nd rfl (Or.inl rfl))
            (fun _ _ _ _ _ => pts_one (pt_cmpR (op_notInK (K := K) rfl) (pv 2) (pv 1) (by rfl)))
            (fun _ _ _ _ _ => pv 2)) pa_nil)) pa_nil)))))), ?_⟩
    obtain ⟨dx, D, e1, e2, e3⟩ := W.ins
    refine ⟨_, rfl, _, Kn.rd hg, _, rfl, ?_⟩
    dsimp only
    rw [if_neg (by decide)]
    refine ⟨_, rfl, g, rfl, ⟨_, .inl hg⟩, ?_⟩
    refine for_tup (K := K) (a := g) (xs := gs.map V.str) (fun i σ H' => (∃ u, σ = [some (.ref x), some (.ref g), u]) ∧ Same H H') ⟨⟨_, rfl⟩, fun _ _ e => e⟩ (fun i σ H' _ z => .inl (rd_same hg z.2)) ?_ ?_
    · rintro i y σ H' hy ⟨⟨u, rfl⟩, sm⟩
      rw [List.getElem?_map] at hy
      cases ez : gs[i]? with
      | none => rw [ez] at hy; cases hy
      | some z =>
        rw [ez] at hy
        obtain rfl : V.str z = y := Option.some.inj hy
        refine ⟨_, rfl, _, rfl, need1 (rest := [z]) (W.same sm) (by simp [inn z (List.mem_of_getElem? ez)]) (by simp) fun p np => ⟨⟨_, rfl⟩, same_trans sm (same_upd np)⟩⟩
    · rintro σ H1 ⟨⟨u, rfl⟩, s1⟩
      have W1 := W.same s1
      refine ⟨_, rfl, _, rfl, x, C, dx, _, _, rfl, s1 _ _ e1, T.cl, T.nP, rfl, t, rfl, ⟨_, .inl W1.tup.rd⟩, fun L nL => ?_⟩
      refine lc_tup (K := K) (a := t) (xs := ns.map V.str) (fun i Hc => Same H1 Hc ∧ Hc L = some (.lst ((lessN (ns.take i) gs).map V.str))) ⟨same_upd nL, upd_same⟩ (fun i Hc _ z => .inl (rd_same W1.tup.rd z.1)) ?_ ?_
      · rintro i y Hc hy ⟨sc, hL⟩
        rw [List.getElem?_map] at hy
        cases ez : ns[i]? with
        | none => rw [ez] at hy; cases hy
        | some z =>
          rw [ez] at hy
          obtain rfl : V.str z = y := Option.some.inj hy
          have tk1 : (ns.take (i + 1)) = ns.take i ++ [z] := by
            rw [List.take_add_one, ez]
            rfl
          refine ⟨rfl, _, rfl, _, rfl, g, _, rfl, .inr (.inl (rd_same hg (same_trans s1 sc))), rfl, strs_flat gs, _, rfl, ?_⟩
          dsimp only
          by_cases c : inV (.str z) (gs.map V.str) = true
          · rw [if_neg (by rw [if_pos rfl, c]; decide)]
            have e : lessN (ns.take (i + 1)) gs = lessN (ns.take i) gs := by
              unfold lessN
              rw [tk1, List.filter_append, show [z].filter (fun z => !inV (.str z) (gs.map V.str)) = [] by simp [c], List.append_nil]
            rw [e]
            exact ⟨sc, hL⟩
          · rw [if_pos (by rw [if_pos rfl, Bool.eq_false_iff.mpr c]; rfl)]
            refine ⟨_, rfl, _, hL, ?_, fun b o e => ?_, ?_⟩
            · rw [List.length_map]
              have y := Nat.le_trans (List.length_filter_le (fun z => !inV (.str z) (gs.map V.str)) (ns.take i)) (List.length_take_le' i ns)
              exact Nat.lt_of_le_of_lt (Nat.le_trans y few) (by decide)
            · rw [upd_ne (ne_of_none e nL)]
              exact sc _ _ e
            · rw [upd_same]
              refine congrArg (fun l => some (HO.lst l)) ?_
              unfold lessN
              rw [tk1, List.filter_append, show [z].filter (fun z => !inV (.str z) (gs.map V.str)) = [z] by simp [c], List.map_append]
              rfl
      · rintro Hc ⟨sc, hL⟩
        rw [List.length_map, List.take_length] at hL
        have lf : (lessN ns gs).length ≤ ns.length := List.length_filter_le _ _
        have mf : ∀ z ∈ lessN ns gs, z ∈ ns := fun z m => (List.mem_filter.mp m).1
        refine ⟨L, _, rfl, .inl ⟨SqL.of hL, fun t' o nt ot => ?_⟩⟩
        have s4 := same_trans sc (same_upd (o := .frz o (.tup ((lessN ns gs).map V.str))) nt)
        have tu : TupK (upd Hc t' (.frz o (.tup ((lessN ns gs).map V.str)))) t' ((lessN ns gs).map V.str) := TupK.new ot
        generalize upd Hc t' (.frz o (.tup ((lessN ns gs).map V.str))) = H4 at s4 tu ⊢
        have S4 := same_trans s1 s4
        exact ⟨x, t, a, t', ns, ks, lessN ns gs, rfl, W.same S4, tu, fun y m => W.sm y (mf y m), Nat.le_trans lf few, fun c H' s' => bad c H' (same_trans S4 s'), fun c H' y a' s' ny Wn => good c H' y t' a' (same_trans S4 s') (none_same S4 ny) Wn⟩
end
end Lx

/-! Webs: sums and differences. -/
namespace Lx
open PySem PySem.Spec PyProof.Rows L2 Fw
abbrev sAdd : Stmt := meth 18
abbrev sSub : Stmt := meth 19
def spAdd (C CW : Addr) : Sp := fun vs H Q E => ∃ (x t a y t2 a2 : Addr) (ns ms : List Str) (ks ls : List (Addr × List Str)), vs = [.ref x, .ref y] ∧ WebAt C H x t a ns ks ∧ WebAt C H y t2 a2 ms ls ∧ ns.length + ms.length ≤ 62 ∧ ks.length + ls.length ≤ 62 ∧ Gath C CW H Q E (ns ++ ms) (ks.map (·.2) ++ ls.map (·.2))
structure TxS (K : PySem.W.Frag) (C fW : Addr) (dW : FuncData) : Prop where
  isC : C8.InsC K C
  mW : Meth K C "without_places" fW
  FW : Fun K "without_places" "Web.without_places" sWoP fW dW
  bW : Binds K dW ["self", "places"] []
theorem web_some {C : Addr} {H : Hp} {x t a : Addr} {ns : List Str} {ks : List (Addr × List Str)} (W : WebAt C H x t a ns ks) : ns ≠ [] := fun e => by
  have z := (webB_iff.mp W.ok).2.1
  rw [e] at z
  cases z
section
variable {P : Program} {w : World} {K : PySem.W.Frag} {mg : Str → Option Value} {base : Heap} {gg : Bool}
theorem scSub : FnScope ["self", "other"] ["self", "other"] (defScope sSub) := ⟨rfl, rfl, rfl, by decide +kernel, rfl, by decide +kernel, by decide +kernel⟩
theorem ok_sub {C CW f fi fA fNm fK fD fC fT fL fMt fO fE pP gP pT gT fN fP fV fW : Addr} {fd di dA dNm dK dD dC dT dL dMt dO dE dP dT' dN dQ dV dW : FuncData} (F : Fun K "__sub__" "Web.__sub__" sSub f fd) (Nm : TxN K mg fA fNm fK fD dA dNm dK dD) (B : TxB K mg fC fT dC dT) (O : TxO K mg fL fMt dL dMt)
    (I : TxI K mg fO fE dO dE) (X : ExP K mg "InvalidWeb" CW) (T : TxC K C) (G : TxG K mg C fi di) (R : TxPr K C pP gP pT gT dP dT') (U : TxQ K mg fN fP dN dQ) (V' : TxV K mg fV dV) (S : TxS K C fW dW) :
    FnV gg P w K mg base (L2.CX P w) 11 f fd ["self", "other"] (spWoP C CW) := by
  have GW : FnOk P w K mg base (L2.CX P w) 10 fW dW ["self", "places"] (spWoP C CW) := (ok_wop (gg := false) S.FW Nm B O I X T G R U V').ok
  refine fnV F scSub (fun vs H Q E h => ?_) (fun cdv Ar fr s H vs Q E hG hr h => ?_)
  · obtain ⟨x, t, a, g, ns, ks, gs, rfl, _⟩ := h
    rfl
  · have h' := h
    obtain ⟨x, t, a, g, ns, ks, gs, rfl, W, _⟩ := h
    have tk : Takes (cxOf (L2.CX P w) P w K mg base ["self", "other"] "Web.__sub__" (defScope sSub) f cdv Ar fr s H E) (fun cls d _ H => E cls d H) := takes_of rfl rfl rfl rfl
    obtain ⟨dx, D, e1, e2, e3⟩ := W.ins
    exact ⟨_, pss_one (ps_ret (pe_meth (E := E) (pv 0) T.cl S.mW GW hr S.bW .nil (passes_call tk fun _ _ _ _ h => h) (pa_cons (pv 1) pa_nil))), _, rfl, x, dx, _, rfl, e1, rfl, _, rfl, h'⟩
theorem scAdd : FnScope ["self", "other"] ["self", "other"] (defScope sAdd) := ⟨rfl, rfl, rfl, by decide +kernel, rfl, by decide +kernel, by decide +kernel⟩
theorem ok_add {C CW f fi fA fNm fK fD fC fT fL fMt fO fE pP gP pT gT fI fG fW : Addr} {fd di dA dNm dK dD dC dT dL dMt dO dE dP dT' dI dG dW : FuncData} (F : Fun K "__add__" "Web.__add__" sAdd f fd) (Nm : TxN K mg fA fNm fK fD dA dNm dK dD) (B : TxB K mg fC fT dC dT) (O : TxO K mg fL fMt dL dMt)
    (I : TxI K mg fO fE dO dE) (X : ExP K mg "InvalidWeb" CW) (T : TxC K C) (G : TxG K mg C fi di) (R : TxPr K C pP gP pT gT dP dT') (V' : TxT K mg C fI fG dI dG) (S : TxS K C fW dW) :
    FnV gg P w K mg base (L2.CX P w) 10 f fd ["self", "other"] (spAdd C CW) := by
  have GP : FnOk P w K mg base CX0 1 gP dP ["self"] (spP C) := (ok_getP (gg := false) R.FP T).ok
  have GT : FnOk P w K mg base CX0 1 gT dT' ["self"] (spT C) := (ok_getT (gg := false) R.FT T).ok
  have GG : FnV gg P w K mg base (L2.CX P w) 9 fG dG ["places", "ties"] (spGath K C CW) := ok_gath V'.FG Nm B O I X T G
  refine fnV F scAdd (fun vs H Q E h => ?_) (fun cdv Ar fr s H vs Q E hG hr h => ?_)
  · obtain ⟨x, t, a, y, t2, a2, ns, ms, ks, ls, rfl, _⟩ := h
    rfl
  · obtain ⟨x, t, a, y, t2, a2, ns, ms, ks, ls, rfl, W, W', fewN, fewT, g⟩ := h
    have tk : Takes (cxOf (L2.CX P w) P w K mg base ["self", "other"] "Web.__add__" (defScope sAdd) f cdv Ar fr s H E) (fun cls d _ H => E cls d H) := takes_of rfl rfl rfl rfl
    refine ⟨_, pss_cons (ps_if (pt_not (pt_val (pe_callB (C8.call_isC S.isC) (by rfl) Nm.T.isi (by decide +kernel) (pa_cons (pv 1) (pa_cons (pe_glob (v := .ref C) (by rfl) G.gC rfl) pa_nil))))) (pss_one ps_never) pss_nil)
      (pss_one (ps_ret (pe_callV (E := WE fun cls d _ H => E cls d H) hG GG hr (by rfl) V'.mG V'.FG.kp V'.bG .nil (fun σ => passAt tk σ)
        (pa_cons (pe_op op_catA (pe_fld (pv 0) rfl) (pe_prop (pv 1) T.cl R.pP GP (hr.mono (by decide)) R.bP .nil pass0 rfl)) (pa_cons (pe_op op_catA (pe_fld (pv 0) rfl) (pe_prop (pv 1) T.cl R.pT GT (hr.mono (by decide)) R.bT .nil pass0 rfl)) pa_nil))))), ?_⟩
    obtain ⟨dx, D, e1, e2, e3⟩ := W.ins
    obtain ⟨dy, D', e1', e2', e3'⟩ := W'.ins
    refine ⟨_, rfl, y, dy, _, rfl, e1', _, rfl, ?_⟩
    dsimp only
    rw [if_neg (by decide)]
    refine ⟨_, rfl, x, C, dx, _, _, rfl, e1, T.cl, T.nP, rfl, ?_⟩
    refine ⟨_, rfl, y, dy, _, rfl, e1', y, t2, a2, ms, ls, rfl, W', ?_⟩
    have sumN : (ns.map V.str).length + (ms.map V.str).length ≤ sizeLine := by
      rw [List.length_map, List.length_map, sizeLine_eq]
      omega
    refine ⟨t, t2, _, _, rfl, rfl, .inl W.tup.rd, .inl W'.tup.rd, sumN, fun e => absurd (List.map_eq_nil_iff.mp e) (web_some W), ⟨fun _ e => absurd (List.map_eq_nil_iff.mp e) (web_some W'), fun _ _ p np => ?_⟩⟩
    have s1 := same_upd (o := .tup ((ns.map V.str) ++ (ms.map V.str))) np
    have hp : (upd H p (.tup ((ns.map V.str) ++ (ms.map V.str)))) p = some (.tup ((ns ++ ms).map V.str)) := by rw [upd_same, List.map_append]
    generalize upd H p (.tup ((ns.map V.str) ++ (ms.map V.str))) = H1 at s1 hp ⊢
    have W1 := W.same s1
    have W1' := W'.same s1
    refine ⟨_, rfl, x, C, dx, _, _, rfl, s1 _ _ e1, T.cl, T.nT, rfl, ?_⟩
    refine ⟨_, rfl, y, dy, _, rfl, s1 _ _ e1', y, t2, a2, ms, ls, rfl, W1', ?_⟩
    have fin : ∀ (H5 : Hp) (c : Addr), Same H1 H5 → Rd H5 c (.tup ((ks ++ ls).map fun k => V.ref k.1)) → spGath K C CW [.ref p, .ref c] H5 Q E := fun H5 c s5 hc => by
      have W5 := W1.same s5
      have W5' := W1'.same s5
      refine ⟨p, c, ns ++ ms, ks ++ ls, rfl, .inr (.inl (.inl (s5 _ _ hp))), fun z m => ?_, by rw [List.length_append]; exact fewN, .inr (.inl hc), fun k m => ?_, fun k m => ?_, by rw [List.length_append]; exact fewT, ?_⟩
      · rcases List.mem_append.mp m with m | m
        · exact W.sm z m
        · exact W'.sm z m
      · rcases List.mem_append.mp m with m | m
        · exact W5.row.each k m
        · exact W5'.row.each k m
      · rcases List.mem_append.mp m with m | m
        · exact webTies W k m
        · exact webTies W' k m
      · rw [List.map_append]
        exact g.same (same_trans s1 s5)
    have sumT : (ks.map fun k => V.ref k.1).length + (ls.map fun k => V.ref k.1).length ≤ sizeLine := by
      rw [List.length_map, List.length_map, sizeLine_eq]
      omega
    refine ⟨a, a2, _, _, rfl, rfl, .inl W1.row.at_, .inl W1'.row.at_, sumT, fun e => ?_, ⟨fun _ e => ?_, fun _ _ q nq => ?_⟩⟩
    · have ek : ks = [] := List.map_eq_nil_iff.mp e
      exact fin H1 a2 (fun _ _ e => e) (by rw [ek]; exact W1'.row.at_)
    · have el : ls = [] := List.map_eq_nil_iff.mp e
      exact fin H1 a (fun _ _ e => e) (by rw [el, List.append_nil]; exact W1.row.at_)
    · refine fin _ q (same_upd nq) (.inl ?_)
      rw [upd_same, List.map_append]
end
end Lx

/-! Webs: two places drawn together. -/
namespace Lx
open PySem PySem.Spec PyProof.Rows L2 Fw
abbrev sDT : Stmt := meth 16
/-- what goes over to u -/
def movedL (ns : List Str) (ts : List (List Str)) (u v : Str) : List (List Str) := ((neighL ns ts v).filter fun z => decide (z ≠ u)).map (pairT u)
theorem marked_sub {ns : List Str} {m : Int} : ∀ i, ∀ z ∈ markedTo ns m i, i ≤ ns.length → z ∈ ns
  | 0, z, h, _ => by cases h
  | i + 1, z, h, le => by
    have h' : z ∈ markedTo ns m i ++ (if bitOn m i = true then [ns.getD i Str.empty] else []) := h
    rcases List.mem_append.mp h' with h1 | h1
    · exact marked_sub i z h1 (by omega)
    · split at h1
      · obtain rfl : z = ns.getD i Str.empty := by simpa using h1
        rw [List.getD_eq_getElem?_getD, List.getElem?_eq_getElem (by omega)]
        exact List.getElem_mem _
      · cases h1
theorem neigh_sub {ns : List Str} {ts : List (List Str)} {v : Str} : ∀ z ∈ neighL ns ts v, z ∈ ns := fun z h => marked_sub _ z h (Nat.le_refl _)
def spDT (C CW CT : Addr) : Sp := fun vs H Q E => ∃ (x t a : Addr) (ns : List Str) (ks : List (Addr × List Str)) (u v : Str), vs = [.ref x, .str u, .str v] ∧ WebAt C H x t a ns ks ∧ u ∈ ns ∧ v ∈ ns ∧ ns.length ≤ 20 ∧ ks.length ≤ 40 ∧
  (decide (pairT u v ∈ ks.map (·.2)) = false → ∀ H', Same H H' → E (.ref CT) none H') ∧
  (decide (pairT u v ∈ ks.map (·.2)) = true → webB (lessN ns [v]) ((ks.filter fun k => bothIn (lessN ns [v]) k.2).map (·.2)) = true ∧ Gath C CW H Q E (lessN ns [v]) ((ks.filter fun k => bothIn (lessN ns [v]) k.2).map (·.2) ++ movedL ns (ks.map (·.2)) u v))
structure TxDT (K : PySem.W.Frag) (C fH : Addr) (dH : FuncData) : Prop where
  mH : Meth K C "neighbours" fH
  FH : Fun K "neighbours" "Web.neighbours" sNeigh fH dH
  bH : Binds K dH ["self", "place"] []
abbrev nD : List Str := ["self", "a", "b", "rest", "moved", "place"]
section
variable {P : Program} {w : World} {K : PySem.W.Frag} {mg : Str → Option Value} {base : Heap} {gg : Bool}
theorem scDT : FnScope nD ["self", "a", "b"] (defScope sDT) := ⟨rfl, rfl, rfl, by decide +kernel, rfl, by decide +kernel, by decide +kernel⟩
theorem ok_dt {C CW CT f fi fA fNm fK fD fC fT fL fMt fO fE pP gP pT gT fN fP fI fG fV fW fM fH : Addr} {fd di dA dNm dK dD dC dT dL dMt dO dE dP dT' dN dQ dI dG dV dW dM dH : FuncData} (F : Fun K "drawn_together" "Web.drawn_together" sDT f fd) (Nm : TxN K mg fA fNm fK fD dA dNm dK dD) (B : TxB K mg fC fT dC dT) (O : TxO K mg fL fMt dL dMt)
    (I : TxI K mg fO fE dO dE) (X : ExP K mg "InvalidWeb" CW) (XT : ExP K mg "InvalidTie" CT) (T : TxC K C) (G : TxG K mg C fi di) (R : TxPr K C pP gP pT gT dP dT') (U : TxQ K mg fN fP dN dQ) (V' : TxT K mg C fI fG dI dG) (V2 : TxV K mg fV dV) (S : TxS K C fW dW) (M : TxM K mg fM dM) (D' : TxDT K C fH dH) :
    FnV gg P w K mg base (L2.CX P w) 11 f fd ["self", "a", "b"] (spDT C CW CT) := by
  have GI : FnOk P w K mg base CX0 4 fI dI ["self", "a", "b"] (spTied C) := (ok_tied (gg := false) V'.FI T R U).ok
  have GH : FnOk P w K mg base CX0 4 fH dH ["self", "place"] (spNeigh C) := (ok_neigh (gg := false) D'.FH T R U M).ok
  have GP : FnV gg P w K mg base CX0 1 fP dQ ["a", "b"] spPair := ok_pair U.FP
  have GW : FnOk P w K mg base (L2.CX P w) 10 fW dW ["self", "places"] (spWoP C CW) := (ok_wop (gg := false) S.FW Nm B O I X T G R U V2).ok
  have GgP : FnOk P w K mg base CX0 1 gP dP ["self"] (spP C) := (ok_getP (gg := false) R.FP T).ok
  have GgT : FnOk P w K mg base CX0 1 gT dT' ["self"] (spT C) := (ok_getT (gg := false) R.FT T).ok
  have GG : FnV gg P w K mg base (L2.CX P w) 9 fG dG ["places", "ties"] (spGath K C CW) := ok_gath V'.FG Nm B O I X T G
  refine fnV F scDT (fun vs H Q E h => ?_) (fun cdv Ar fr s H vs Q E hG hr h => ?_)
  · obtain ⟨x, t, a, ns, ks, u, v, rfl, _⟩ := h
    rfl
  · obtain ⟨x, t, a, ns, ks, u, v, rfl, W, mu, mv, fewN, fewT, bad, good⟩ := h
    have tk : Takes (cxOf (L2.CX P w) P w K mg base nD "Web.drawn_together" (defScope sDT) f cdv Ar fr s H E) (fun cls d _ H => E cls d H) := takes_of rfl rfl rfl rfl
    refine ⟨_, pss_cons (ps_if (pt_not (pt_val (pe_meth (E := E0) (pv 0) T.cl V'.mI GI (hr.mono (by decide)) V'.bI .nil pass0 (pa_cons (pv 1) (pa_cons (pv 2) pa_nil)))))
        (pss_one (ps_raise rfl tk (pmk_own PySem.F.excBase_ValueError XT.plain XT.gl XT.kp (raises_own XT.hs XT.ty) (by rfl)))) pss_nil)
      (pss_cons (ps_set (i := 3) scDT.nd rfl (Or.inl rfl) (pe_meth (E := E) (pv 0) T.cl S.mW GW hr S.bW .nil (passes_call tk fun _ _ _ _ h => h) (pa_cons (pe_tup (pa_cons (pv 2) pa_nil)) pa_nil)))
        (pss_cons (ps_setLc (i := 4) (own := [("place", 5)]) (g := gName 5) (by rfl) scDT.nd rfl rfl (sw_true rfl rfl rfl (by decide +kernel)) (pi_tup (pe_meth (E := E0) (pv 0) T.cl D'.mH GH (hr.mono (by decide)) D'.bH .nil pass0 (pa_cons (pv 2) pa_nil)))
            (blkOk_by (N := nD) (sc := defScope sDT) (own := [("place", 5)]) (by decide +kernel)) (fun _ _ _ _ _ => pg_name (i := 5) scDT.nd rfl (Or.inl rfl))
            (fun _ _ _ _ _ => pts_one (pt_cmpR op_ne (pv 5) (pv 1) (nomark _)))
            (fun _ _ _ _ _ => pe_callV (E := fun _ _ _ _ => False) hG GP (hr.mono (by decide)) (by rfl) U.mP U.FP.kp U.bP .nil (fun _ => passAt0) (pa_cons (pv 1) (pa_cons (pv 5) pa_nil))))
          (pss_one (ps_ret (pe_callV (E := WE fun cls d _ H => E cls d H) hG GG (hr.mono (by decide)) (by rfl) V'.mG V'.FG.kp V'.bG .nil (fun σ => passAt tk σ)
            (pa_cons (pe_prop (pv 3) T.cl R.pP GgP (hr.mono (by decide)) R.bP .nil pass0 rfl) (pa_cons (pe_op op_catA (pe_prop (pv 3) T.cl R.pT GgT (hr.mono (by decide)) R.bT .nil pass0 rfl) (pe_callTy cr_tupF (by rfl) Nm.T.tuple (by decide +kernel) (pa_cons (pv 4) pa_nil))) pa_nil))))))), ?_⟩
    obtain ⟨dx, D, e1, e2, e3⟩ := W.ins
    refine ⟨_, rfl, x, dx, _, rfl, e1, rfl, _, rfl, _, rfl, x, t, a, ns, ks, u, v, rfl, W, mu, mv, fun H1 s1 => ⟨_, rfl, ?_⟩⟩
    dsimp only
    by_cases c1 : decide (pairT u v ∈ ks.map (·.2)) = true
    · rw [if_neg (by rw [c1]; decide)]
      obtain ⟨wb, g⟩ := good c1
      refine ⟨_, rfl, x, dx, _, rfl, s1 _ _ e1, rfl, _, rfl, by show 1 ≤ sizeLine; decide, fun b nb => ?_⟩
      have s2 := same_trans s1 (same_upd (o := .tup [V.str v]) nb)
      have hb2 : (upd H1 b (.tup [V.str v])) b = some (.tup ([v].map V.str)) := upd_same
      generalize upd H1 b (.tup [V.str v]) = H2 at s2 hb2 ⊢
      refine ⟨x, t, a, b, ns, ks, [v], rfl, W.same s2, by omega, .inl hb2, by simp [mv], fun c => ?_, fun _ H3 y t' a' s3 ny Wy => ?_⟩
      · rw [wb] at c
        cases c
      · have S3 := same_trans s2 s3
        have W3 := W.same S3
        refine ⟨_, rfl, x, dx, _, rfl, S3 _ _ e1, rfl, _, rfl, x, t, a, ns, ks, v, rfl, W3, mv, by omega, fun H4 q s4 nq tq => ?_⟩
        refine ⟨q, rfl, ⟨_, .inl tq.rd⟩, fun L nL => ?_⟩
        have S4 := same_trans S3 s4
        have Wy4 := Wy.same s4
        have W4 := W.same S4
        have nLn : (neighL ns (ks.map (·.2)) v).length ≤ 20 := Nat.le_trans (markedTo_len _ _ _) fewN
        refine lc_tup (K := K) (a := q) (xs := (neighL ns (ks.map (·.2)) v).map V.str) (fun i Hc => Same H4 Hc ∧ ∃ zs : List (Addr × List Str), Hc L = some (.lst (zs.map fun k => V.ref k.1)) ∧ zs.map (·.2) = (((neighL ns (ks.map (·.2)) v).take i).filter fun z => decide (z ≠ u)).map (pairT u) ∧ Each Hc zs ∧ (∀ k ∈ zs, k.2 ≠ []))
          ⟨same_upd nL, [], upd_same, rfl, (fun k m => absurd m (by simp)), fun k m => absurd m (by simp)⟩ (fun i Hc _ z => .inl (rd_same tq.rd z.1)) ?_ ?_
        · rintro i y' Hc hy ⟨sc, zs, hL, ez, each, ne⟩
          rw [List.getElem?_map] at hy
          cases en : (neighL ns (ks.map (·.2)) v)[i]? with
          | none => rw [en] at hy; cases hy
          | some z =>
            rw [en] at hy
            obtain rfl : V.str z = y' := Option.some.inj hy
            have mz : z ∈ ns := neigh_sub z (List.mem_of_getElem? en)
            have tk1 : ((neighL ns (ks.map (·.2)) v).take (i + 1)) = (neighL ns (ks.map (·.2)) v).take i ++ [z] := by
              rw [List.take_add_one, en]
              rfl
            refine ⟨rfl, _, rfl, _, rfl, rfl, _, rfl, ?_⟩
            dsimp only
            by_cases c : z = u
            · rw [if_neg (by rw [c]; simp)]
              refine ⟨sc, zs, hL, ?_, each, ne⟩
              rw [tk1, List.filter_append, show [z].filter (fun z => decide (z ≠ u)) = [] by simp [c], List.append_nil]
              exact ez
            · rw [if_pos (by simp [c])]
              refine ⟨_, rfl, _, rfl, u, z, rfl, fun r nr => ?_⟩
              have sr := same_upd (o := .tup ((pairT u z).map V.str)) nr
              have hr5 : (upd Hc r (.tup ((pairT u z).map V.str))) r = some (.tup ((pairT u z).map V.str)) := upd_same
              generalize upd Hc r (.tup ((pairT u z).map V.str)) = H5 at sr hr5 ⊢
              have hL5 := sr _ _ hL
              have lz : zs.length ≤ 20 := by
                have z1 := congrArg List.length ez
                rw [List.length_map, List.length_map] at z1
                rw [z1]
                exact Nat.le_trans (List.length_filter_le _ _) (Nat.le_trans (List.length_take_le' _ _) nLn)
              have keep : ∀ b o, b ≠ L → H5 b = some o → (upd H5 L (.lst ((zs.map fun k => V.ref k.1) ++ [V.ref r]))) b = some o := fun b o n e => by
                rw [upd_ne n]
                exact e
              have rdk : ∀ {b : Addr} {xs : List V}, Rd H5 b (.tup xs) → Rd (upd H5 L (.lst ((zs.map fun k => V.ref k.1) ++ [V.ref r]))) b (.tup xs) := fun {b xs} h => by
                rcases h with h | ⟨o, h⟩
                · exact .inl (keep b _ (fun z => by rw [z, hL5] at h; cases h) h)
                · exact .inr ⟨o, keep b _ (fun z => by rw [z, hL5] at h; cases h) h⟩
              refine ⟨_, hL5, by rw [List.length_map, sizeLine_eq]; omega, fun b o e => ?_, zs ++ [(r, pairT u z)], ?_, ?_, fun k m => ?_, fun k m => ?_⟩
              · exact keep b o (ne_of_none e nL) (sr _ _ (sc _ _ e))
              · rw [upd_same, List.map_append]
                rfl
              · rw [tk1, List.filter_append, show [z].filter (fun z => decide (z ≠ u)) = [z] by simp [c], List.map_append, List.map_append, ez]
                rfl
              · rcases List.mem_append.mp m with m | m
                · exact ⟨rdk (rd_same (each k m).1 sr), (each k m).2⟩
                · obtain rfl : k = (r, pairT u z) := by simpa using m
                  refine ⟨rdk (.inl hr5), fun w' mw => ?_, ?_⟩
                  · show w'.length ≤ 1000
                    have zz : w' = u ∨ w' = z := by
                      have mw' : w' ∈ pairT u z := mw
                      unfold pairT at mw'
                      split at mw' <;> simp at mw' <;> rcases mw' with z | z <;> simp [z]
                    rcases zz with e | e
                    · rw [e]; exact W.sm u mu
                    · rw [e]; exact W.sm z mz
                  · show (pairT u z).length ≤ 1000
                    unfold pairT
                    split <;> simp
              · rcases List.mem_append.mp m with m | m
                · exact ne k m
                · obtain rfl : k = (r, pairT u z) := by simpa using m
                  exact pairT_ne u z
        · rintro Hc ⟨sc, zs, hL, ez, each, ne⟩
          rw [List.length_map, List.take_length] at ez
          have ez' : zs.map (·.2) = movedL ns (ks.map (·.2)) u v := ez
          have lz : zs.length ≤ 20 := by
            have z1 := congrArg List.length ez
            rw [List.length_map, List.length_map] at z1
            rw [z1]
            exact Nat.le_trans (List.length_filter_le _ _) nLn
          have Wc := Wy4.same sc
          have lf := List.length_filter_le (fun k => bothIn (lessN ns [v]) k.2) ks
          have lm : (lessN ns [v]).length ≤ 20 := Nat.le_trans (List.length_filter_le _ _) fewN
          generalize ks.filter (fun k => bothIn (lessN ns [v]) k.2) = ws at Wc lf g
          obtain ⟨dy, Dy, f1, f2, f3⟩ := Wc.ins
          refine ⟨_, rfl, y, dy, _, rfl, f1, y, t', a', _, ws, rfl, Wc, ?_⟩
          refine ⟨_, rfl, y, dy, _, rfl, f1, y, t', a', _, ws, rfl, Wc, ?_⟩
          refine ⟨_, rfl, L, _, rfl, .inl ⟨SqL.of hL, fun l o nl ol => ?_⟩⟩
          have s5 := same_upd (o := .frz o (.tup (zs.map fun k => V.ref k.1))) nl
          have hl : Rd (upd Hc l (.frz o (.tup (zs.map fun k => V.ref k.1)))) l (.tup (zs.map fun k => V.ref k.1)) := .inr ⟨o, upd_same⟩
          generalize upd Hc l (.frz o (.tup (zs.map fun k => V.ref k.1))) = H5 at s5 hl ⊢
          have W5 := Wc.same s5
          have S5 := same_trans S4 (same_trans sc s5)
          have fin : ∀ (H6 : Hp) (c : Addr), Same H5 H6 → Rd H6 c (.tup ((ws ++ zs).map fun k => V.ref k.1)) → spGath K C CW [.ref t', .ref c] H6 Q E := fun H6 c s6 hc => by
            have W6 := W5.same s6
            refine ⟨t', c, lessN ns [v], ws ++ zs, rfl, .inr (.inl W6.tup.rd), W6.sm, by omega, .inr (.inl hc), fun k m => ?_, fun k m => ?_, by rw [List.length_append]; omega, ?_⟩
            · rcases List.mem_append.mp m with m | m
              · exact W6.row.each k m
              · exact (each.same s5).same s6 k m
            · rcases List.mem_append.mp m with m | m
              · exact webTies Wc k m
              · exact ne k m
            · rw [List.map_append, ez']
              exact g.same (same_trans S5 s6)
          have sumT : (ws.map fun k => V.ref k.1).length + (zs.map fun k => V.ref k.1).length ≤ sizeLine := by
            rw [List.length_map, List.length_map, sizeLine_eq]
            omega
          refine ⟨a', l, _, _, rfl, rfl, .inl W5.row.at_, .inl hl, sumT, fun e => ?_, ⟨fun _ e => ?_, fun _ _ p np => ?_⟩⟩
          · have ek : ws = [] := List.map_eq_nil_iff.mp e
            exact fin H5 l (fun _ _ e => e) (by rw [ek]; exact hl)
          · have el : zs = [] := List.map_eq_nil_iff.mp e
            exact fin H5 a' (fun _ _ e => e) (by rw [el, List.append_nil]; exact W5.row.at_)
          · refine fin _ p (same_upd np) (.inl ?_)
            rw [upd_same, List.map_append]
    · rw [if_pos (by rw [Bool.eq_false_iff.mpr c1]; rfl)]
      exact bad (Bool.eq_false_iff.mpr c1) H1 s1
end
end Lx

/-! Webs: other names. -/
namespace Lx
open PySem PySem.Spec PyProof.Rows L2 Fw
abbrev sRenamed : Stmt := meth 17
/-- the ties with other names -/
def tiesAs (f : Str → Str) (ts : List (List Str)) : List (List Str) := ts.map fun k => pairT (f (k.getD 0 Str.empty)) (f (k.getD 1 Str.empty))
/-- a right naming -/
def spRen (C CW : Addr) : Sp := fun vs H Q E => ∃ (x t a d : Addr) (ns : List Str) (ks : List (Addr × List Str)) (kvs : List (L2.Key × V)) (f : Str → Str), vs = [.ref x, .ref d] ∧ WebAt C H x t a ns ks ∧ H d = some (.dK kvs) ∧ kvs.length ≤ 1000 ∧ (∀ x ∈ kvs.map (·.2), Vok H x) ∧
  keysV kvs ns = true ∧ diffV (kvs.map (·.2)) 0 = true ∧ (∀ z ∈ ns, valV kvs (Sum.inr z) = some (.str (f z)) ∧ (f z).length ≤ 1000) ∧ ns.length ≤ 60 ∧ ks.length ≤ 60 ∧ Gath C CW H Q E (ns.map f) (tiesAs f (ks.map (·.2)))
structure TxRN (K : PySem.W.Frag) (mg : Str → Option Value) (fX : Addr) (dX : FuncData) : Prop where
  mX : mg "is_naming" = some (.ref fX)
  FX : Fun K "is_naming" "is_naming" sNaming fX dX
  bX : Binds K dX ["names", "value"] []
abbrev nRN : List Str := ["self", "names", "ties", "a", "b", "place"]
section
variable {P : Program} {w : World} {K : PySem.W.Frag} {mg : Str → Option Value} {base : Heap} {gg : Bool}
theorem scRenamed : FnScope nRN ["self", "names"] (defScope sRenamed) := ⟨rfl, rfl, rfl, by decide +kernel, rfl, by decide +kernel, by decide +kernel⟩
theorem ok_ren {C CW CP f fi fA fNm fK fD fC fT fL fMt fO fE fN fP fI fG fX : Addr} {fd di dA dNm dK dD dC dT dL dMt dO dE dN dQ dI dG dX : FuncData} (F : Fun K "renamed" "Web.renamed" sRenamed f fd) (Nm : TxN K mg fA fNm fK fD dA dNm dK dD) (B : TxB K mg fC fT dC dT) (O : TxO K mg fL fMt dL dMt)
    (I : TxI K mg fO fE dO dE) (X : ExP K mg "InvalidWeb" CW) (XP : ExP K mg "InvalidPlace" CP) (T : TxC K C) (G : TxG K mg C fi di) (U : TxQ K mg fN fP dN dQ) (V' : TxT K mg C fI fG dI dG) (RN : TxRN K mg fX dX) :
    FnV gg P w K mg base (L2.CX P w) 10 f fd ["self", "names"] (spRen C CW) := by
  have GX : FnV gg P w K mg base (L2.CX P w) 4 fX dX ["names", "value"] (spNaming CP) := ok_naming RN.FX XP Nm
  have GP : FnV gg P w K mg base CX0 1 fP dQ ["a", "b"] spPair := ok_pair U.FP
  have GG : FnV gg P w K mg base (L2.CX P w) 9 fG dG ["places", "ties"] (spGath K C CW) := ok_gath V'.FG Nm B O I X T G
  refine fnV F scRenamed (fun vs H Q E h => ?_) (fun cdv Ar fr s H vs Q E hG hr h => ?_)
  · obtain ⟨x, t, a, d, ns, ks, kvs, f', rfl, _⟩ := h
    rfl
  · obtain ⟨x, t, a, d, ns, ks, kvs, f', rfl, W, hd, fd', vok, kv, dv, val, fewN, fewT, g⟩ := h
    have hu := hr.units
    have tk : Takes (cxOf (L2.CX P w) P w K mg base nRN "Web.renamed" (defScope sRenamed) f cdv Ar fr s H E) (fun cls d _ H => E cls d H) := takes_of rfl rfl rfl rfl
    refine ⟨_, pss_cons (ps_if (pt_not (pt_val (pe_callV (E := WE fun cls d _ H => E cls d H) hG GX (hr.mono (by decide)) (by rfl) RN.mX RN.FX.kp RN.bX .nil (fun σ => passAt tk σ) (pa_cons (pe_fld (pv 0) rfl) (pa_cons (pv 1) pa_nil))))) (pss_one ps_never) pss_nil)
      (pss_cons (ps_setLc (i := 2) (own := [("a", 3), ("b", 4)]) (g := gTup K 2 (gCons (gName 3) (gCons (gName 4) gNil))) (by rfl) scRenamed.nd rfl rfl (sw_true rfl rfl rfl (by decide +kernel)) (pi_tup (pe_fld (pv 0) rfl))
          (blkOk_by (N := nRN) (sc := defScope sRenamed) (own := [("a", 3), ("b", 4)]) (by decide +kernel)) (fun _ _ _ _ _ => pg_tup rfl (pgs_cons (pg_name (i := 3) scRenamed.nd rfl (Or.inl rfl)) (pgs_cons (pg_name (i := 4) scRenamed.nd rfl (Or.inl rfl)) pgs_nil))) (fun _ _ _ _ _ => pts_nil)
          (fun _ _ _ _ _ => pe_callV (E := fun _ _ _ _ => False) hG GP (hr.mono (by decide)) (by rfl) U.mP U.FP.kp U.bP .nil (fun _ => passAt0) (pa_cons (pe_dget (by have z := hu; exact Nat.lt_of_le_of_lt (Nat.add_le_add_left (by decide) _) z) (pv 1) (pv 3) (fun _ _ => rfl)) (pa_cons (pe_dget (by have z := hu; exact Nat.lt_of_le_of_lt (Nat.add_le_add_left (by decide) _) z) (pv 1) (pv 4) (fun _ _ => rfl)) pa_nil))))
        (pss_one (ps_ret (pe_callV (E := WE fun cls d _ H => E cls d H) hG GG hr (by rfl) V'.mG V'.FG.kp V'.bG .nil (fun σ => passAt tk σ)
          (pa_cons (pe_lc (own := [("place", 5)]) (g := gName 5) (by rfl) scRenamed.nd (pi_tup (pe_fld (pv 0) rfl))
            (blkOk_by (N := nRN) (sc := defScope sRenamed) (own := [("place", 5)]) (by decide +kernel)) (fun _ _ _ _ _ => pg_name (i := 5) scRenamed.nd rfl (Or.inl rfl)) (fun _ _ _ _ _ => pts_nil)
            (fun _ _ _ _ _ => pe_dget (by have z := hu; exact Nat.lt_of_le_of_lt (Nat.add_le_add_left (by decide) _) z) (pv 1) (pv 5) (fun _ _ => rfl))) (pa_cons (pv 2) pa_nil)))))), ?_⟩
    obtain ⟨dx, D, e1, e2, e3⟩ := W.ins
    have names := place_ok W.ok
    have all : (ns.map V.str).all nameV = true := by
      rw [names_all]
      exact List.all_eq_true.mpr names
    refine ⟨_, rfl, x, C, dx, _, _, rfl, e1, T.cl, T.nP, rfl, _, rfl, .ref t, .ref d, true, rfl, all ▸ .tup W.tup.rd (vok_strs W.sm) (by rw [List.length_map]; omega), ⟨fun z => (absurd z (by simp)), fun _ => ⟨t, ns, true, rfl, W.tup.rd, by omega, ?_, fun H1 s1 => ⟨_, rfl, ?_⟩⟩⟩⟩
    · have z := NamingOf.dict (ns := ns) hd fd' vok
      rw [kv, dv] at z
      exact z
    · dsimp only
      rw [if_neg (by decide)]
      have W1 := W.same s1
      have hd1 := s1 _ _ hd
      have getd : ∀ {Hc : Hp} {p : Str}, Same H1 Hc → p ∈ ns → DGet Hc d (.str p) (some (.str (f' p))) := fun {Hc p} sc mp => by
        have z := DGet.k (k := Sum.inr p) (sc _ _ hd1)
        rw [(val p mp).1] at z
        exact z
      refine ⟨_, rfl, x, C, dx, _, _, rfl, s1 _ _ e1, T.cl, T.nT, rfl, a, rfl, ⟨_, .inl W1.row.at_⟩, fun L nL => ?_⟩
      refine lc_tup (K := K) (a := a) (xs := ks.map fun k => V.ref k.1) (fun i Hc => Same H1 Hc ∧ ∃ zs : List (Addr × List Str), Hc L = some (.lst (zs.map fun k => V.ref k.1)) ∧ zs.map (·.2) = tiesAs f' ((ks.map (·.2)).take i) ∧ Each Hc zs ∧ (∀ k ∈ zs, k.2 ≠ []))
        ⟨same_upd nL, [], upd_same, rfl, (fun k m => absurd m (by simp)), fun k m => absurd m (by simp)⟩ (fun i Hc _ z => .inl (rd_same W1.row.at_ z.1)) ?_ ?_
      · rintro i y' Hc hy ⟨sc, zs, hL, ez, each, ne⟩
        rw [List.getElem?_map] at hy
        cases ek : ks[i]? with
        | none => rw [ek] at hy; cases hy
        | some k =>
          rw [ek] at hy
          obtain rfl : V.ref k.1 = y' := Option.some.inj hy
          have mk := List.mem_of_getElem? ek
          obtain ⟨p, q, epq, mp, mq⟩ := ties_in W.ok k.2 (List.mem_map.mpr ⟨k, mk, rfl⟩)
          have ka := rd_same (W1.row.each k mk).1 sc
          rw [epq] at ka
          have li : i < ks.length := (List.getElem?_eq_some_iff.mp ek).1
          refine ⟨k.1, [.str p, .str q], rfl, .inl ka, rfl, _, _, rfl, _, _, rfl, rfl, rfl, ?_⟩
          refine ⟨_, rfl, _, rfl, d, _, rfl, getd sc mp, _, rfl, _, rfl, d, _, rfl, getd sc mq, f' p, f' q, rfl, fun r nr => ?_⟩
          have sr := same_upd (o := .tup ((pairT (f' p) (f' q)).map V.str)) nr
          have hr5 : (upd Hc r (.tup ((pairT (f' p) (f' q)).map V.str))) r = some (.tup ((pairT (f' p) (f' q)).map V.str)) := upd_same
          generalize upd Hc r (.tup ((pairT (f' p) (f' q)).map V.str)) = H5 at sr hr5 ⊢
          have hL5 := sr _ _ hL
          have lz : zs.length ≤ 60 := by
            have z1 := congrArg List.length ez
            unfold tiesAs at z1
            rw [List.length_map, List.length_map, List.length_take, List.length_map] at z1
            omega
          have keep : ∀ b o, b ≠ L → H5 b = some o → (upd H5 L (.lst ((zs.map fun k => V.ref k.1) ++ [V.ref r]))) b = some o := fun b o n e => by
            rw [upd_ne n]
            exact e
          have rdk : ∀ {b : Addr} {xs : List V}, Rd H5 b (.tup xs) → Rd (upd H5 L (.lst ((zs.map fun k => V.ref k.1) ++ [V.ref r]))) b (.tup xs) := fun {b xs} h => by
            rcases h with h | ⟨o, h⟩
            · exact .inl (keep b _ (fun z => by rw [z, hL5] at h; cases h) h)
            · exact .inr ⟨o, keep b _ (fun z => by rw [z, hL5] at h; cases h) h⟩
          refine ⟨_, hL5, by rw [List.length_map, sizeLine_eq]; omega, fun b o e => ?_, zs ++ [(r, pairT (f' p) (f' q))], ?_, ?_, fun k' m => ?_, fun k' m => ?_⟩
          · exact keep b o (ne_of_none e nL) (sr _ _ (sc _ _ e))
          · rw [upd_same, List.map_append]
            rfl
          · rw [take_one ek, List.map_append, ez]
            unfold tiesAs
            rw [List.map_append, epq]
            rfl
          · rcases List.mem_append.mp m with m | m
            · exact ⟨rdk (rd_same (each k' m).1 sr), (each k' m).2⟩
            · obtain rfl : k' = (r, pairT (f' p) (f' q)) := by simpa using m
              refine ⟨rdk (.inl hr5), fun w' mw => ?_, ?_⟩
              · show w'.length ≤ 1000
                have zz : w' = f' p ∨ w' = f' q := by
                  have mw' : w' ∈ pairT (f' p) (f' q) := mw
                  unfold pairT at mw'
                  split at mw' <;> simp at mw' <;> rcases mw' with z | z <;> simp [z]
                rcases zz with e | e
                · rw [e]; exact (val p mp).2
                · rw [e]; exact (val q mq).2
              · show (pairT (f' p) (f' q)).length ≤ 1000
                unfold pairT
                split <;> simp
          · rcases List.mem_append.mp m with m | m
            · exact ne k' m
            · obtain rfl : k' = (r, pairT (f' p) (f' q)) := by simpa using m
              exact pairT_ne _ _
      · rintro Hc ⟨sc, zs, hL, ez, each, ne⟩
        rw [List.length_map, List.take_of_length_le (by simp)] at ez
        have lz : zs.length ≤ 60 := by
          have z1 := congrArg List.length ez
          unfold tiesAs at z1
          rw [List.length_map, List.length_map, List.length_map] at z1
          omega
        have Wc := W1.same sc
        refine ⟨_, rfl, x, C, dx, _, _, rfl, sc _ _ (s1 _ _ e1), T.cl, T.nP, rfl, t, rfl, ⟨_, .inl Wc.tup.rd⟩, fun L2 nL2 => ?_⟩
        refine lc_tup (K := K) (a := t) (xs := ns.map V.str) (fun i Hd => Same Hc Hd ∧ Hd L2 = some (.lst (((ns.map f').take i).map V.str))) ⟨same_upd nL2, upd_same⟩ (fun i Hd _ z => .inl (rd_same Wc.tup.rd z.1)) ?_ ?_
        · rintro i y' Hd hy ⟨sd, hL2⟩
          rw [List.getElem?_map] at hy
          cases ez' : ns[i]? with
          | none => rw [ez'] at hy; cases hy
          | some z =>
            rw [ez'] at hy
            obtain rfl : V.str z = y' := Option.some.inj hy
            have li : i < ns.length := (List.getElem?_eq_some_iff.mp ez').1
            refine ⟨rfl, _, rfl, _, rfl, d, _, rfl, getd (same_trans sc sd) (List.mem_of_getElem? ez'), _, hL2, ?_, fun b o e => ?_, ?_⟩
            · rw [List.length_map, List.length_take, List.length_map, sizeLine_eq]
              omega
            · rw [upd_ne (ne_of_none e nL2)]
              exact sd _ _ e
            · rw [upd_same]
              refine congrArg (fun l => some (HO.lst l)) ?_
              rw [take_one ez', List.map_append]
              rfl
        · rintro Hd ⟨sd, hL2⟩
          rw [List.take_of_length_le (by simp)] at hL2
          refine ⟨_, rfl, L2, L, ns.map f', zs, rfl, .inl (SqL.of hL2), fun y m => ?_, by rw [List.length_map]; omega, .inl (SqL.of (sd _ _ hL)), each.same sd, ne, by omega, ?_⟩
          · obtain ⟨z, mz, rfl⟩ := List.mem_map.mp m
            exact (val z mz).2
          · rw [ez]
            exact g.same (same_trans (same_trans s1 sc) sd)
end
end Lx

/-! Webs: equality. -/
namespace Lx
open PySem PySem.Spec PyProof.Rows L2 Fw
abbrev sEq : Stmt := meth 24
def spEq (C : Addr) : Sp := fun vs H Q _ => ∃ (x t a y t2 a2 : Addr) (ns ms : List Str) (ks ls : List (Addr × List Str)), vs = [.ref x, .ref y] ∧ WebAt C H x t a ns ks ∧ WebAt C H y t2 a2 ms ls ∧ Q (.bl (decide (ns = ms) && decide (ks.map (·.2) = ls.map (·.2)))) H
theorem tie_names {C : Addr} {H : Hp} {x t a : Addr} {ns : List Str} {ks : List (Addr × List Str)} (W : WebAt C H x t a ns ks) : ∀ k ∈ ks, ∀ y ∈ k.2, nameS y = true := fun k m y my => by
  obtain ⟨p, q, e, mp, mq⟩ := ties_in W.ok k.2 (List.mem_map.mpr ⟨k, m, rfl⟩)
  rw [e] at my
  rcases (show y = p ∨ y = q by simpa using my) with z | z
  · rw [z]; exact place_ok W.ok p mp
  · rw [z]; exact place_ok W.ok q mq
def dataT (ts : List (List Str)) : List PyData := ts.map fun k => PyData.tuple (k.map PyData.str)
theorem dpTs {K : PySem.W.Frag} {H : Hp} : ∀ {ks : List (Addr × List Str)}, (∀ k ∈ ks, Rd H k.1 (.tup (k.2.map V.str))) → DpAll K H (ks.map fun k => V.ref k.1) (dataT (ks.map (·.2)))
  | [], _ => .nil
  | k :: ks, h => .cons (dpX (h k List.mem_cons_self)) (dpTs fun q m => h q (List.mem_cons_of_mem _ m))
theorem layTs : ∀ {ts : List (List Str)}, (∀ k ∈ ts, ∀ y ∈ k, nameS y = true) → PyData.canLayAll0 (dataT ts) = true ∧ PyData.depthAll (dataT ts) ≤ 1
  | [], _ => ⟨rfl, Nat.zero_le _⟩
  | k :: ts, h => by
    obtain ⟨a, b⟩ := layTs fun q m => h q (List.mem_cons_of_mem _ m)
    obtain ⟨c, d⟩ := layT k fun x m => low_ok (h k List.mem_cons_self x m)
    constructor
    · show (PyData.canLayAll0 (k.map PyData.str) && PyData.canLayAll0 (dataT ts)) = true
      rw [a, c]
      rfl
    · show max (PyData.depthAll (k.map PyData.str) + 1) (PyData.depthAll (dataT ts)) ≤ 1
      rw [d]
      omega
theorem shapedTs {ts : List (List Str)} (h : ∀ k ∈ ts, ∀ y ∈ k, nameS y = true) : SeqAt.shaped (.tuple (dataT ts)) = true := by
  obtain ⟨a, b⟩ := layTs h
  show (PyData.canLayAll0 (dataT ts) && decide (PyData.depthAll (dataT ts) + 1 ≤ 64)) = true
  rw [a, decide_eq_true (by omega)]
  rfl
theorem eqv_ts : ∀ j k : List (List Str), PyData.eqvAll (dataT j) (dataT k) = decide (j = k)
  | [], [] => rfl
  | [], y :: k => rfl
  | x :: j, [] => rfl
  | x :: j, y :: k => by
    show (PyData.eqvAll (x.map PyData.str) (y.map PyData.str) && PyData.eqvAll (dataT j) (dataT k)) = _
    rw [eqv_txt, eqv_ts j k]
    by_cases a : x = y
    · subst a
      by_cases b : j = k
      · subst b
        simp
      · simp [b]
    · simp [a]
section
variable {P : Program} {w : World} {K : PySem.W.Frag} {mg : Str → Option Value} {base : Heap} {gg : Bool}
theorem scEq : FnScope ["self", "other"] ["self", "other"] (defScope sEq) := ⟨rfl, rfl, rfl, by decide +kernel, rfl, by decide +kernel, by decide +kernel⟩
theorem ok_eq {C f fi fW : Addr} {fd di dW : FuncData} (F : Fun K "__eq__" "Web.__eq__" sEq f fd) (isi : mg "isinstance" = none) (T : TxC K C) (G : TxG K mg C fi di) (S : TxS K C fW dW) : FnV gg P w K mg base CX0 1 f fd ["self", "other"] (spEq C) := by
  refine fnV F scEq (fun vs H Q E h => ?_) (fun cdv Ar fr s H vs Q E hG hr h => ?_)
  · obtain ⟨x, t, a, y, t2, a2, ns, ms, ks, ls, rfl, _⟩ := h
    rfl
  · obtain ⟨x, t, a, y, t2, a2, ns, ms, ks, ls, rfl, W, W', q⟩ := h
    have hu := hr.units
    refine ⟨_, pss_one (ps_ret (pe_and (pe_callB (C8.call_isC S.isC) (by rfl) isi (by decide +kernel) (pa_cons (pv 1) (pa_cons (pe_glob (v := .ref C) (by rfl) G.gC rfl) pa_nil)))
      (pe_and (pe_cmpR (op_eqD (by exact hu)) (pe_fld (pv 0) rfl) (pe_fld (pv 1) rfl) (nomark _)) (pe_one (pe_cmpR (op_eqD (by exact hu)) (pe_fld (pv 0) rfl) (pe_fld (pv 1) rfl) (nomark _)))))), ?_⟩
    obtain ⟨dx, D, e1, e2, e3⟩ := W.ins
    obtain ⟨dy, D', e1', e2', e3'⟩ := W'.ins
    refine ⟨_, rfl, y, dy, _, rfl, e1', _, rfl, ?_⟩
    rw [if_pos rfl]
    refine ⟨_, rfl, x, C, dx, _, _, rfl, e1, T.cl, T.nP, rfl, _, rfl, y, C, dy, _, _, rfl, e1', T.cl, T.nP, rfl, .tuple (ns.map PyData.str), .tuple (ms.map PyData.str), dpX W.tup.rd, dpX W'.tup.rd, shapedX (place_ok W.ok), shapedX (place_ok W'.ok), _, rfl, ?_⟩
    have ev : PyData.eqv (.tuple (ns.map PyData.str)) (.tuple (ms.map PyData.str)) = decide (ns = ms) := eqv_txt ns ms
    rw [ev]
    by_cases c : ns = ms
    · rw [if_pos (decide_eq_true c)]
      have tn : ∀ {H : Hp} {x t a : Addr} {ns : List Str} {ks : List (Addr × List Str)}, WebAt C H x t a ns ks → ∀ k ∈ ks.map (·.2), ∀ y ∈ k, nameS y = true := fun W k m y my => by
        obtain ⟨k', m', rfl⟩ := List.mem_map.mp m
        exact tie_names W k' m' y my
      refine ⟨_, rfl, x, C, dx, _, _, rfl, e1, T.cl, T.nT, rfl, _, rfl, y, C, dy, _, _, rfl, e1', T.cl, T.nT, rfl, .tuple (dataT (ks.map (·.2))), .tuple (dataT (ls.map (·.2))), .tup (.inl W.row.at_) (dpTs fun k m => (W.row.each k m).1), .tup (.inl W'.row.at_) (dpTs fun k m => (W'.row.each k m).1), shapedTs (tn W), shapedTs (tn W'), ?_⟩
      have e4 : PyData.eqv (.tuple (dataT (ks.map (·.2)))) (.tuple (dataT (ls.map (·.2)))) = decide (ks.map (·.2) = ls.map (·.2)) := eqv_ts _ _
      rw [e4]
      rw [decide_eq_true c, Bool.true_and] at q
      exact q
    · rw [if_neg (by rw [decide_eq_false c]; decide)]
      rw [decide_eq_false c, Bool.false_and] at q
      exact q
end
end Lx

/-! Webs: the ties along a row, round a ring. -/
namespace Lx
open PySem PySem.Spec PyProof.Rows L2 Fw RZ
def alongT : List Str → List (List Str)
  | x :: y :: r => pairT x y :: alongT (y :: r)
  | _ => []
theorem alongT_len : ∀ ns : List Str, (alongT ns).length = ns.length - 1
  | [] => rfl
  | [_] => rfl
  | x :: y :: r => by
    show (alongT (y :: r)).length + 1 = _
    rw [alongT_len (y :: r)]
    rfl
theorem alongT_at : ∀ {ns : List Str} {i : Nat} {x y : Str}, ns[i]? = some x → ns[i + 1]? = some y → (alongT ns)[i]? = some (pairT x y)
  | u :: v :: r, 0, x, y, h1, h2 => by
    cases h1
    cases h2
    rfl
  | u :: v :: r, i + 1, x, y, h1, h2 => alongT_at (ns := v :: r) (i := i) h1 h2
  | [u], i, x, y, h1, h2 => by cases h2
  | [], i, x, y, h1, h2 => by cases h2
/-- new ties, in a new list -/
def NewT (Q : VK) (H : Hp) (ts : List (List Str)) : Prop := ∀ H' L ks, Same H H' → H L = none → H' L = some (.lst (ks.map fun k => V.ref k.1)) → ks.map (·.2) = ts → Each H' ks → (∀ k ∈ ks, k.2 ≠ []) → Q (.ref L) H'
def spAlong : Sp := fun vs H Q _ => ∃ (t : Addr) (ns : List Str), vs = [.ref t] ∧ Rd H t (.tup (ns.map V.str)) ∧ (∀ x ∈ ns, x.length ≤ 1000) ∧ ns ≠ [] ∧ ns.length ≤ 60 ∧ NewT Q H (alongT ns)
abbrev nAL : List Str := ["row", "a", "b"]
section
variable {P : Program} {w : World} {K : PySem.W.Frag} {mg : Str → Option Value} {base : Heap} {gg : Bool}
theorem scAlong : FnScope nAL ["row"] (defScope sAlong) := ⟨rfl, rfl, rfl, by decide +kernel, rfl, by decide +kernel, by decide +kernel⟩
theorem ok_along {f fN fP : Addr} {fd dN dQ : FuncData} (F : Fun K "ties_along" "ties_along" sAlong f fd) (mZip : mg "zip" = none) (U : TxQ K mg fN fP dN dQ) : FnV gg P w K mg base CX0 2 f fd ["row"] spAlong := by
  have GP : FnV gg P w K mg base CX0 1 fP dQ ["a", "b"] spPair := ok_pair U.FP
  refine fnV F scAlong (fun vs H Q E h => ?_) (fun cdv Ar fr s H vs Q E hG hr h => ?_)
  · obtain ⟨t, ns, rfl, _⟩ := h
    rfl
  · obtain ⟨t, ns, rfl, at_, sm, nn, few, q⟩ := h
    refine ⟨_, pss_one (ps_ret
        (pe_lc (own := [("a", 1), ("b", 2)]) (g := gTup K 2 (gCons (gName 1) (gCons (gName 2) gNil))) (by rfl) scAlong.nd (pi_zipA (by rfl) mZip (pa_cons (pv 0) (pa_cons (pe_slice sl_tupA (pv 0) (po_some pe_int) po_none) pa_nil)))
          (blkOk_by (N := nAL) (sc := defScope sAlong) (own := [("a", 1), ("b", 2)]) (by decide +kernel)) (fun _ _ _ _ _ => pg_tup rfl (pgs_cons (pg_name (i := 1) scAlong.nd rfl (Or.inl rfl)) (pgs_cons (pg_name (i := 2) scAlong.nd rfl (Or.inl rfl)) pgs_nil))) (fun _ _ _ _ _ => pts_nil)
          (fun _ _ _ _ _ => pe_callV (E := fun _ _ _ _ => False) hG GP hr (by rfl) U.mP U.FP.kp U.bP .nil (fun _ => passAt0) (pa_cons (pv 1) (pa_cons (pv 2) pa_nil))))), ?_⟩
    refine ⟨_, rfl, _, rfl, 1, rfl, t, _, rfl, .inl at_, fun hw => ?_, fun hw p np => ?_⟩
    · exfalso
      cases ns with
      | nil => exact nn rfl
      | cons x xs =>
        have z := hw.1
        have e1 : HT.sIx ((x :: xs).map V.str).length 0 (some 1) = 1 := by simp [HT.sIx]
        rw [e1] at z
        cases z
    · have sp := same_upd (o := .tup (cutV (ns.map V.str) (some 1) none)) np
      have atp : (upd H p (.tup (cutV (ns.map V.str) (some 1) none))) p = some (.tup ((ns.map V.str).drop 1)) := by rw [upd_same, cut1]
      have ata := rd_same at_ sp
      generalize upd H p (.tup (cutV (ns.map V.str) (some 1) none)) = H1 at sp atp ata ⊢
      refine ⟨t, p, ns.map V.str, (ns.map V.str).drop 1, rfl, .inr ⟨.inl ata, SqT.of atp, fun L nL => ?_⟩⟩
      have ln : min (ns.map V.str).length ((ns.map V.str).drop 1).length = (alongT ns).length := by
        rw [List.length_drop, List.length_map, alongT_len]
        omega
      have nHL := none_same sp nL
      refine lc_it (walk_zipT ln.symm) (fun i Hc => Same H1 Hc ∧ ∃ zs : List (Addr × List Str), Hc L = some (.lst (zs.map fun k => V.ref k.1)) ∧ zs.map (·.2) = (alongT ns).take i ∧ Each Hc zs ∧ (∀ k ∈ zs, k.2 ≠ []))
        ⟨same_upd nL, [], upd_same, rfl, (fun k m => absurd m (by simp)), fun k m => absurd m (by simp)⟩ (fun i Hc _ z => ⟨.inl (rd_same ata z.1), SqT.of (z.1 _ _ atp)⟩) ?_ ?_
      · rintro i y' Hc Hc' lt ⟨sc, zs, hL, ez, each, ne⟩ ⟨T, u, v, rfl, nT, rfl, eu, ev⟩
        obtain ⟨x, ex, rfl⟩ : ∃ x, ns[i]? = some x ∧ V.str x = u := by
          have eu' : (ns.map V.str)[i]? = some u := eu
          rw [List.getElem?_map] at eu'
          cases z : ns[i]? with
          | none => rw [z] at eu'; cases eu'
          | some y => rw [z] at eu'; exact ⟨y, rfl, Option.some.inj eu'⟩
        obtain ⟨y, ey, rfl⟩ : ∃ y, ns[i + 1]? = some y ∧ V.str y = v := by
          have ev' : ((ns.map V.str).drop 1)[i]? = some v := ev
          rw [List.getElem?_drop, List.getElem?_map, Nat.add_comm] at ev'
          cases z : ns[i + 1]? with
          | none => rw [z] at ev'; cases ev'
          | some y => rw [z] at ev'; exact ⟨y, rfl, Option.some.inj ev'⟩
        have st := same_upd (o := .tup [V.str x, V.str y]) nT
        have hT : (upd Hc T (.tup [V.str x, V.str y])) T = some (.tup [V.str x, V.str y]) := upd_same
        generalize upd Hc T (.tup [V.str x, V.str y]) = H2 at st hT ⊢
        refine ⟨T, [V.str x, V.str y], rfl, SqT.of hT, rfl, _, _, rfl, _, _, rfl, rfl, rfl, ?_⟩
        refine ⟨_, rfl, _, rfl, x, y, rfl, fun r nr => ?_⟩
        have sr := same_trans st (same_upd (o := .tup ((pairT x y).map V.str)) nr)
        have hr5 : (upd H2 r (.tup ((pairT x y).map V.str))) r = some (.tup ((pairT x y).map V.str)) := upd_same
        generalize upd H2 r (.tup ((pairT x y).map V.str)) = H5 at sr hr5 ⊢
        have hL5 := sr _ _ hL
        have lz : zs.length ≤ 60 := by
          have z1 := congrArg List.length ez
          rw [List.length_map, List.length_take, alongT_len] at z1
          omega
        have keep : ∀ b o, b ≠ L → H5 b = some o → (upd H5 L (.lst ((zs.map fun k => V.ref k.1) ++ [V.ref r]))) b = some o := fun b o n e => by
          rw [upd_ne n]
          exact e
        have rdk : ∀ {b : Addr} {xs : List V}, Rd H5 b (.tup xs) → Rd (upd H5 L (.lst ((zs.map fun k => V.ref k.1) ++ [V.ref r]))) b (.tup xs) := fun {b xs} h => by
          rcases h with h | ⟨o, h⟩
          · exact .inl (keep b _ (fun z => by rw [z, hL5] at h; cases h) h)
          · exact .inr ⟨o, keep b _ (fun z => by rw [z, hL5] at h; cases h) h⟩
        refine ⟨_, hL5, by rw [List.length_map, sizeLine_eq]; omega, fun b o e => ?_, zs ++ [(r, pairT x y)], ?_, ?_, fun k' m => ?_, fun k' m => ?_⟩
        · exact keep b o (ne_of_none e nL) (sr _ _ (sc _ _ e))
        · rw [upd_same, List.map_append]
          rfl
        · rw [List.map_append, ez, List.take_add_one, alongT_at ex ey]
          rfl
        · rcases List.mem_append.mp m with m | m
          · exact ⟨rdk (rd_same (each k' m).1 sr), (each k' m).2⟩
          · obtain rfl : k' = (r, pairT x y) := by simpa using m
            refine ⟨rdk (.inl hr5), fun w' mw => ?_, ?_⟩
            · show w'.length ≤ 1000
              have zz : w' = x ∨ w' = y := by
                have mw' : w' ∈ pairT x y := mw
                unfold pairT at mw'
                split at mw' <;> simp at mw' <;> rcases mw' with z | z <;> simp [z]
              rcases zz with e | e
              · rw [e]; exact sm x (List.mem_of_getElem? ex)
              · rw [e]; exact sm y (List.mem_of_getElem? ey)
            · show (pairT x y).length ≤ 1000
              unfold pairT
              split <;> simp
        · rcases List.mem_append.mp m with m | m
          · exact ne k' m
          · obtain rfl : k' = (r, pairT x y) := by simpa using m
            exact pairT_ne _ _
      · rintro Hc ⟨sc, zs, hL, ez, each, ne⟩
        rw [List.take_length] at ez
        exact q Hc L zs (same_trans sp sc) nHL hL ez each ne
end
end Lx

/-! Webs: rings. -/
namespace Lx
open PySem PySem.Spec PyProof.Rows L2 Fw
def roundT (ns : List Str) : List (List Str) := alongT (ns ++ ns.take 1)
theorem cutTo1 : ∀ {xs : List V}, 1 ≤ xs.length → cutV xs none (some 1) = xs.take 1
  | x :: xs, _ => by
    unfold cutV
    have e1 : HT.sIx (x :: xs).length 0 none = 0 := by simp [HT.sIx]
    have e2 : HT.sIx (x :: xs).length (x :: xs).length (some 1) = 1 := by simp [HT.sIx]
    rw [e1, e2]
    rfl
theorem NewT.same {Q : VK} {H H1 : Hp} {ts : List (List Str)} (q : NewT Q H ts) (s : Same H H1) : NewT Q H1 ts := fun H' L ks s' n a b c d => q H' L ks (same_trans s s') (none_same s n) a b c d
def spRound : Sp := fun vs H Q _ => ∃ (t : Addr) (ns : List Str), vs = [.ref t] ∧ Rd H t (.tup (ns.map V.str)) ∧ (∀ x ∈ ns, x.length ≤ 1000) ∧ 2 ≤ ns.length ∧ ns.length ≤ 59 ∧ NewT Q H (roundT ns)
def spRingW (C CW : Addr) : Sp := fun vs H Q E => ∃ (t : Addr) (ns : List Str), vs = [.ref t] ∧ Rd H t (.tup (ns.map V.str)) ∧ (∀ x ∈ ns, x.length ≤ 1000) ∧ ns.length ≤ 59 ∧ diffV (ns.map V.str) 3 = true ∧ Gath C CW H Q E ns (roundT ns)
structure TxRG (K : PySem.W.Frag) (mg : Str → Option Value) (fA fR : Addr) (dA dR : FuncData) : Prop where
  mA : mg "ties_along" = some (.ref fA)
  FA : Fun K "ties_along" "ties_along" sAlong fA dA
  bA : Binds K dA ["row"] []
  mR : mg "ties_round" = some (.ref fR)
  FR : Fun K "ties_round" "ties_round" sRound fR dR
  bR : Binds K dR ["ring"] []
section
variable {P : Program} {w : World} {K : PySem.W.Frag} {mg : Str → Option Value} {base : Heap} {gg : Bool}
theorem scRound : FnScope ["ring"] ["ring"] (defScope sRound) := ⟨rfl, rfl, rfl, by decide +kernel, rfl, by decide +kernel, by decide +kernel⟩
theorem ok_round {f fN fP fA fR : Addr} {fd dN dQ dA dR : FuncData} (F : Fun K "ties_round" "ties_round" sRound f fd) (mZip : mg "zip" = none) (U : TxQ K mg fN fP dN dQ) (A' : TxRG K mg fA fR dA dR) : FnV gg P w K mg base CX0 3 f fd ["ring"] spRound := by
  have GA : FnV gg P w K mg base CX0 2 fA dA ["row"] spAlong := ok_along A'.FA mZip U
  refine fnV F scRound (fun vs H Q E h => ?_) (fun cdv Ar fr s H vs Q E hG hr h => ?_)
  · obtain ⟨t, ns, rfl, _⟩ := h
    rfl
  · obtain ⟨t, ns, rfl, at_, sm, ge, few, q⟩ := h
    refine ⟨_, pss_one (ps_ret (pe_callV (E := fun _ _ _ _ => False) hG GA hr (by rfl) A'.mA A'.FA.kp A'.bA .nil (fun _ => passAt0) (pa_cons (pe_op op_catA (pv 0) (pe_slice sl_tupA (pv 0) po_none (po_some pe_int))) pa_nil))), ?_⟩
    have len : (ns.map V.str).length = ns.length := List.length_map _
    refine ⟨_, rfl, _, rfl, 1, rfl, t, _, rfl, .inl at_, fun hw => ?_, fun hw p np => ?_⟩
    · exfalso
      have z := hw.2
      cases ns with
      | nil => simp at ge
      | cons x r =>
        have e2 : HT.sIx ((x :: r).map V.str).length ((x :: r).map V.str).length (some 1) = 1 := by simp [HT.sIx]
        rw [e2, len] at z
        omega
    · have sp := same_upd (o := .tup (cutV (ns.map V.str) none (some 1))) np
      have hp : (upd H p (.tup (cutV (ns.map V.str) none (some 1)))) p = some (.tup ((ns.take 1).map V.str)) := by rw [upd_same, cutTo1 (by omega), List.map_take]
      generalize upd H p (.tup (cutV (ns.map V.str) none (some 1))) = H1 at sp hp ⊢
      have at1 := rd_same at_ sp
      have l1 : (ns.take 1).length = 1 := by rw [List.length_take]; omega
      refine ⟨t, p, _, _, rfl, rfl, .inl at1, SqT.of hp, by rw [List.length_map, List.length_map, l1, sizeLine_eq]; omega, fun e => ?_, ⟨fun _ e => ?_, fun _ _ r nr => ?_⟩⟩
      · rw [List.map_eq_nil_iff.mp e] at ge
        simp at ge
      · have z := congrArg List.length e
        rw [List.length_map, l1] at z
        cases z
      · have s2 := same_trans sp (same_upd (o := .tup ((ns.map V.str) ++ ((ns.take 1).map V.str))) nr)
        refine ⟨r, ns ++ ns.take 1, rfl, .inl (by rw [upd_same, List.map_append]), fun x m => ?_, fun e => ?_, by rw [List.length_append, l1]; omega, q.same s2⟩
        · rcases List.mem_append.mp m with m | m
          · exact sm x m
          · exact sm x (List.mem_of_mem_take m)
        · have z := congrArg List.length e
          rw [List.length_append, l1] at z
          simp at z
theorem scRing : FnScope ["ring"] ["ring"] (defScope sRing) := ⟨rfl, rfl, rfl, by decide +kernel, rfl, by decide +kernel, by decide +kernel⟩
theorem ok_ringW {C CW f fi fA fNm fK fD fC fT fL fMt fO fE fN fP fI fG fAl fR : Addr} {fd di dA dNm dK dD dC dT dL dMt dO dE dN dQ dI dG dAl dR : FuncData} (F : Fun K "ring_web" "ring_web" sRing f fd) (Nm : TxN K mg fA fNm fK fD dA dNm dK dD) (B : TxB K mg fC fT dC dT) (O : TxO K mg fL fMt dL dMt)
    (I : TxI K mg fO fE dO dE) (X : ExP K mg "InvalidWeb" CW) (T : TxC K C) (G : TxG K mg C fi di) (U : TxQ K mg fN fP dN dQ) (V' : TxT K mg C fI fG dI dG) (A' : TxRG K mg fAl fR dAl dR) :
    FnV gg P w K mg base (L2.CX P w) 10 f fd ["ring"] (spRingW C CW) := by
  have GD : FnV gg P w K mg base CX0 3 fD dD ["value", "least"] spDiff := ok_different Nm.FD Nm.T Nm.set Nm.mA Nm.FA Nm.bA Nm.mN Nm.FN Nm.bN
  have GR : FnV gg P w K mg base CX0 3 fR dR ["ring"] spRound := ok_round A'.FR B.zip U A'
  have GG : FnV gg P w K mg base (L2.CX P w) 9 fG dG ["places", "ties"] (spGath K C CW) := ok_gath V'.FG Nm B O I X T G
  refine fnV F scRing (fun vs H Q E h => ?_) (fun cdv Ar fr s H vs Q E hG hr h => ?_)
  · obtain ⟨t, ns, rfl, _⟩ := h
    rfl
  · obtain ⟨t, ns, rfl, at_, sm, few, df, g⟩ := h
    have tk : Takes (cxOf (L2.CX P w) P w K mg base ["ring"] "ring_web" (defScope sRing) f cdv Ar fr s H E) (fun cls d _ H => E cls d H) := takes_of rfl rfl rfl rfl
    refine ⟨_, pss_cons (ps_if (pt_not (pt_val (pe_callV (E := fun _ _ _ _ => False) hG GD (hr.mono (by decide)) (by rfl) Nm.mD Nm.FD.kp Nm.bD .nil (fun _ => passAt0) (pa_cons (pv 0) (pa_cons pe_int pa_nil))))) (pss_one ps_never) pss_nil)
      (pss_one (ps_ret (pe_callV (E := WE fun cls d _ H => E cls d H) hG GG hr (by rfl) V'.mG V'.FG.kp V'.bG .nil (fun σ => passAt tk σ)
        (pa_cons (pv 0) (pa_cons (pe_callV (E := fun _ _ _ _ => False) hG GR (hr.mono (by decide)) (by rfl) A'.mR A'.FR.kp A'.bR .nil (fun _ => passAt0) (pa_cons (pv 0) pa_nil)) pa_nil))))), ?_⟩
    refine ⟨_, rfl, t, ns.map V.str, 3, rfl, at_, vok_strs sm, by rw [List.length_map]; omega, fun H1 s1 => ⟨_, rfl, ?_⟩⟩
    dsimp only
    rw [if_neg (by rw [df]; decide)]
    have ge : 3 ≤ ns.length := by
      unfold diffV at df
      have z := of_decide_eq_true (Bool.and_eq_true_iff.mp (Bool.and_eq_true_iff.mp df).2).1
      rw [List.length_map] at z
      omega
    have at1 := rd_same at_ s1
    refine ⟨_, rfl, _, rfl, t, ns, rfl, at1, sm, by omega, few, fun H2 L ks s2 nL hL ek each ne => ?_⟩
    refine ⟨t, L, ns, ks, rfl, .inr (.inl (rd_same at1 s2)), sm, by omega, .inl (SqL.of hL), each, ne, ?_, ?_⟩
    · have z := congrArg List.length ek
      unfold roundT at z
      rw [List.length_map, alongT_len, List.length_append, List.length_take] at z
      omega
    · rw [ek]
      exact g.same (same_trans s1 s2)
end
end Lx

/-! The dice of a law: what they promise. -/
namespace Lx
open PySem PySem.Spec PyProof.Rows L2 Fw
abbrev sDice : Stmt := top 38
abbrev sRoll : Stmt := top 39
abbrev sPick : Stmt := top 40
/-- at p stand dice -/
def DiceAt (H : Hp) (p : Addr) : Prop := ∃ l s c : Int, H p = some (.lst [.int l, .int s, .int c])
/-- all but p stands as it stood -/
def But (p : Addr) (H H' : Hp) : Prop := ∀ b o, b ≠ p → H b = some o → H' b = some o
theorem But.refl {p : Addr} {H : Hp} : But p H H := fun _ _ _ e => e
theorem But.trans {p : Addr} {H H1 H2 : Hp} (a : But p H H1) (b : But p H1 H2) : But p H H2 := fun c o n e => b c o n (a c o n e)
theorem But.upd {p : Addr} {H : Hp} {o : HO} : But p H (upd H p o) := fun b u n e => by
  rw [upd_ne n]
  exact e
theorem But.same {p : Addr} {H H' : Hp} (s : Same H H') : But p H H' := fun b o _ e => s b o e
theorem DiceAt.same {H H' : Hp} {p : Addr} (d : DiceAt H p) (s : Same H H') : DiceAt H' p := by
  obtain ⟨l, z, c, e⟩ := d
  exact ⟨l, z, c, s _ _ e⟩
/-- a new dice list, made of the script's number -/
def spDice (K : PySem.W.Frag) : Sp := fun vs H Q _ => ∃ (a : Addr) (ns : List Int) (i : Int), vs = [.ref a, .int i] ∧ SqL K H a (ns.map V.int) ∧ ns.length ≤ 63 ∧ 0 ≤ i ∧ i ≤ 1 ∧ ∀ p H', Same H H' → H p = none → DiceAt H' p → Q (.ref p) H'
/-- some number below t -/
def spRoll : Sp := fun vs H Q _ => ∃ (p : Addr) (t : Int), vs = [.ref p, .int t] ∧ DiceAt H p ∧ 0 < t ∧ t < 1000000 ∧ ∀ (r : Int) H', 0 ≤ r → r < t → But p H H' → DiceAt H' p → Q (.int r) H'
/-- some item -/
def spPick (K : PySem.W.Frag) : Sp := fun vs H Q _ => ∃ (p b : Addr) (xs : List V), vs = [.ref p, .ref b] ∧ DiceAt H p ∧ SqL K H b xs ∧ p ≠ b ∧ 0 < xs.length ∧ xs.length < 1000000 ∧ ∀ (r : Nat) (x : V) H', xs[r]? = some x → But p H H' → DiceAt H' p → Q x H'
structure TxD (mg : Str → Option Value) : Prop where
  int : mg "int" = none
  len : mg "len" = none
  max : mg "max" = none
  abs : mg "abs" = none
section
variable {P : Program} {w : World} {K : PySem.W.Frag} {mg : Str → Option Value} {base : Heap} {CX : CXT}
theorem scDice : FnScope ["_law_script", "_law_spot", "_law_cell", "_law_left"] ["_law_script", "_law_spot"] (defScope sDice) := ⟨rfl, rfl, rfl, by decide +kernel, rfl, by decide +kernel, by decide +kernel⟩
theorem ok_dice {f : Addr} {fd : FuncData} (F : Fun K "_law_dice" "_law_dice" sDice f fd) (T : TxD mg) : FnG P w K mg base CX0 1 f fd ["_law_script", "_law_spot"] (spDice K) := by
  refine fnG F scDice (fun vs H Q E h => ?_) (fun cdv A fr s H vs Q E hG hr h => ?_)
  · obtain ⟨a, ns, i, rfl, _⟩ := h
    rfl
  · obtain ⟨a, ns, i, rfl, hS, hl, h0, h1, k⟩ := h
    refine ⟨_, pss_cons (ps_set (i := 2) scDice.nd rfl (Or.inl rfl) (pe_ifExp (pt_cmpR op_lt (pv 1) (pe_callB call_len_seq (by rfl) T.len PySem.boot_len (pa_cons (pv 0) pa_nil)) (nomark _))
          (pe_callTy call_int1 (by rfl) T.int (by decide +kernel) (pa_cons (pe_ix ix_list (pv 0) (pv 1) (fun _ _ => rfl)) pa_nil))
          (pe_op op_add (pe_op op_mul pe_int (pv 1)) pe_int)))
      (pss_cons (ps_set (i := 3) scDice.nd rfl (Or.inl rfl) (pe_op op_mod (pe_callB (call_max2 rfl) (by rfl) T.max (by decide +kernel) (pa_cons pe_int (pa_cons
          (pe_op op_sub (pe_callB call_abs (by rfl) T.abs (by decide +kernel) (pa_cons (pv 2) pa_nil)) (pe_op op_pow pe_int pe_int)) pa_nil)))
          (pe_op op_mulW (pe_op op_pow pe_int pe_int) (pe_op op_pow pe_int pe_int))))
      (pss_one (ps_ret (pe_lst (pa_cons (pv 3) (pa_cons
          (pe_op op_add (pe_op op_add (pe_op op_add (pe_op op_mul (pe_op op_mod (pe_callB call_abs (by rfl) T.abs (by decide +kernel) (pa_cons (pv 2) pa_nil)) pe_int) pe_int) (pe_op op_mul pe_int (pv 1)))
            (pe_op op_mul pe_int (pe_callTy call_int1 (by rfl) T.int (by decide +kernel) (pa_cons (pe_cmpR op_lt (pv 2) pe_int (nomark _)) pa_nil)))) pe_int)
          (pa_cons pe_int pa_nil))))))), ?_⟩
    have pw : ∀ k : Nat, k ≤ 100 → CPow 10 (k : Int) := fun k hk => ⟨by omega, by omega, by decide⟩
    have cm : CMulW (10 ^ Int.toNat 60) (10 ^ Int.toNat 60) := by
      unfold CMulW
      decide +kernel
    have ps1 : (0 : Int) < 10 ^ Int.toNat 60 * 10 ^ Int.toNat 60 := by decide +kernel
    have ps2 : (0 : Int) < 1152921504606846883 := by decide
    have few : ∀ x y z : V, [x, y, z].length ≤ sizeLine := fun _ _ _ => (by decide : 3 ≤ sizeLine)
    have done_ : ∀ l s' : Int, ∀ p, H p = none → Q (.ref p) (upd H p (.lst [.int l, .int s', .int 0])) := fun l s' p hp => k p _ (same_upd hp) hp ⟨l, s', 0, upd_same⟩
    refine ⟨_, rfl, _, rfl, a, _, rfl, .inl hS, _, _, rfl, rfl, _, rfl, ?_⟩
    refine ite2 (fun c => ?_) (fun c => ?_)
    · have lt : i.toNat < ns.length := by
        have c' : i < ((ns.map V.int).length : Int) := of_decide_eq_true c
        rw [List.length_map] at c'
        omega
      obtain ⟨n, hn⟩ : ∃ n, ns[i.toNat]? = some n := ⟨_, List.getElem?_eq_getElem lt⟩
      have at_ : atI (ns.map V.int) i = some (V.int n) := by
        have e := atI_nat (xs := ns.map V.int) (j := i.toNat) (v := V.int n) (by rw [List.getElem?_map, hn]; rfl)
        rw [Int.toNat_of_nonneg h0] at e
        exact e
      refine ⟨_, rfl, _, rfl, a, _, _, _, rfl, rfl, hS, at_, .inl ⟨_, rfl, ?_⟩⟩
      refine ⟨_, rfl, _, rfl, _, _, rfl, rfl, pw 16 (by decide), _, _, rfl, rfl, _, _, rfl, _, _, rfl, rfl, pw 60 (by decide), _, _, rfl, rfl, pw 60 (by decide), _, _, rfl, rfl, cm, _, _, rfl, rfl, ps1, ?_⟩
      refine ⟨_, rfl, _, rfl, _, rfl, _, _, rfl, rfl, ps2, _, _, rfl, rfl, .inr ⟨by decide, by decide⟩, _, rfl, _, _, rfl, rfl, .inl ⟨by decide, by decide⟩, _, _, rfl, rfl,
        _, rfl, _, _, rfl, rfl, .inr ⟨_, rfl, _, _, rfl, rfl, .inl ⟨by decide, by decide⟩, _, _, rfl, rfl, _, _, rfl, rfl, few _ _ _, done_ _ _⟩⟩
    · refine ⟨_, rfl, _, _, rfl, rfl, .inl ⟨by decide, by decide⟩, _, _, rfl, rfl, ?_⟩
      refine ⟨_, rfl, _, rfl, _, _, rfl, rfl, pw 16 (by decide), _, _, rfl, rfl, _, _, rfl, _, _, rfl, rfl, pw 60 (by decide), _, _, rfl, rfl, pw 60 (by decide), _, _, rfl, rfl, cm, _, _, rfl, rfl, ps1, ?_⟩
      refine ⟨_, rfl, _, rfl, _, rfl, _, _, rfl, rfl, ps2, _, _, rfl, rfl, .inr ⟨by decide, by decide⟩, _, rfl, _, _, rfl, rfl, .inl ⟨by decide, by decide⟩, _, _, rfl, rfl,
        _, rfl, _, _, rfl, rfl, .inr ⟨_, rfl, _, _, rfl, rfl, .inl ⟨by decide, by decide⟩, _, _, rfl, rfl, _, _, rfl, rfl, few _ _ _, done_ _ _⟩⟩
theorem scRoll : FnScope ["_law_dice_here", "_law_total", "_law_found", "_law_one", "_law_two"] ["_law_dice_here", "_law_total"] (defScope sRoll) := ⟨rfl, rfl, rfl, by decide +kernel, rfl, by decide +kernel, by decide +kernel⟩
theorem ok_roll {f : Addr} {fd : FuncData} (F : Fun K "_law_roll" "_law_roll" sRoll f fd) (T : TxD mg) : FnG P w K mg base CX0 1 f fd ["_law_dice_here", "_law_total"] spRoll := by
  refine fnG F scRoll (fun vs H Q E h => ?_) (fun cdv A fr s H vs Q E hG hr h => ?_)
  · obtain ⟨p, t, rfl, _⟩ := h
    rfl
  · obtain ⟨p, t, rfl, ⟨l, z, c, hp⟩, t0, t1, k⟩ := h
    refine ⟨_, pss_cons (ps_if (pt_cmpR op_gt (pe_ix ix_list (pv 0) pe_int (fun _ _ => rfl)) pe_int (nomark _))
        (pss_cons (ps_set (i := 2) scRoll.nd rfl (Or.inl rfl) (pe_op op_mod (pe_callTy call_int1 (by rfl) T.int (by decide +kernel) (pa_cons (pe_ix ix_list (pv 0) pe_int (fun _ _ => rfl)) pa_nil)) (pv 1)))
        (pss_cons (ps_asg (pe_op op_fdiv (pe_ix ix_list (pv 0) pe_int (fun _ _ => rfl)) (pv 1)) (pg_sub (pv 0) pe_int set_list))
        (pss_one (ps_ret (pv 2))))) pss_nil)
      (pss_cons (ps_asg (pe_op op_add (pe_ix ix_list (pv 0) pe_int (fun _ _ => rfl)) pe_int) (pg_sub (pv 0) pe_int set_list))
      (pss_cons (ps_set (i := 3) scRoll.nd rfl (Or.inl rfl) (pe_op op_mod (pe_callTy call_int1 (by rfl) T.int (by decide +kernel) (pa_cons (pe_op op_add (pe_ix ix_list (pv 0) pe_int (fun _ _ => rfl)) (pe_op op_mul pe_int (pe_ix ix_list (pv 0) pe_int (fun _ _ => rfl)))) pa_nil)) pe_int))
      (pss_cons (ps_set (i := 4) scRoll.nd rfl (Or.inl rfl) (pe_op op_add (pe_op op_mul (pe_op op_mod (pe_callTy call_int1 (by rfl) T.int (by decide +kernel) (pa_cons (pe_op op_add (pe_op op_mul (pv 3) (pv 3)) (pe_op op_mul pe_int (pe_ix ix_list (pv 0) pe_int (fun _ _ => rfl)))) pa_nil)) pe_int) pe_int) (pv 3)))
      (pss_one (ps_ret (pe_op op_mod (pe_callTy call_int1 (by rfl) T.int (by decide +kernel) (pa_cons (pe_op op_fdiv (pv 4) pe_int) pa_nil)) (pv 1))))))), ?_⟩
    have i0 : ∀ x y u : V, atI [x, y, u] 0 = some x := fun _ _ _ => rfl
    have i1 : ∀ x y u : V, atI [x, y, u] 1 = some y := fun _ _ _ => rfl
    have i2 : ∀ x y u : V, atI [x, y, u] 2 = some u := fun _ _ _ => rfl
    refine ⟨_, rfl, p, _, _, _, rfl, rfl, SqL.of hp, i0 _ _ _, _, _, rfl, rfl, _, rfl, ?_⟩
    refine ite2 (fun _ => ?_) (fun _ => ?_)
    · refine ⟨_, rfl, p, _, _, _, rfl, rfl, SqL.of hp, i0 _ _ _, .inl ⟨_, rfl, _, rfl, _, _, rfl, rfl, t0, ?_⟩⟩
      refine ⟨_, rfl, p, _, _, _, rfl, rfl, SqL.of hp, i0 _ _ _, _, rfl, _, _, rfl, rfl, ⟨t0, by omega⟩, ?_⟩
      refine ⟨_, rfl, p, _, 0, 0, rfl, rfl, hp, rfl, ?_⟩
      exact ⟨_, rfl, k _ _ (Int.emod_nonneg _ (by omega)) (Int.emod_lt_of_pos _ t0) But.upd ⟨_, _, _, upd_same⟩⟩
    · refine ⟨_, rfl, p, _, _, _, rfl, rfl, SqL.of hp, i2 _ _ _, _, _, rfl, rfl, ?_⟩
      refine ⟨_, rfl, p, _, 2, 2, rfl, rfl, hp, rfl, ?_⟩
      have hq : (upd H p (.lst [.int l, .int z, .int (c + 1)])) p = some (.lst [.int l, .int z, .int (c + 1)]) := upd_same
      refine ⟨_, rfl, p, _, _, _, rfl, rfl, SqL.of hq, i1 _ _ _, _, rfl, p, _, _, _, rfl, rfl, SqL.of hq, i2 _ _ _, _, _, rfl, rfl, .inl ⟨by decide, by decide⟩, _, _, rfl, rfl, .inl ⟨_, rfl, _, _, rfl, rfl, (by show (0 : Int) < 2305843009213693907; decide), ?_⟩⟩
      have b0 := Int.emod_nonneg (z + 57885161 * (c + 1)) (show (2305843009213693907 : Int) ≠ 0 by decide)
      have b1 := Int.emod_lt_of_pos (z + 57885161 * (c + 1)) (show (0 : Int) < 2305843009213693907 by decide)
      refine ⟨_, rfl, _, rfl, _, _, rfl, rfl, .inl ⟨by omega, by omega⟩, _, rfl, p, _, _, _, rfl, rfl, SqL.of hq, i2 _ _ _, _, _, rfl, rfl, .inl ⟨by decide, by decide⟩, _, _, rfl, rfl, .inl ⟨_, rfl, _, _, rfl, rfl, (by show (0 : Int) < 2305843009213693921; decide), _, _, rfl, rfl, .inr ⟨by decide, by decide⟩, _, rfl, _, _, rfl, rfl, ?_⟩⟩
      refine ⟨_, rfl, _, _, rfl, rfl, ⟨by decide, by decide⟩, .inl ⟨_, rfl, _, rfl, _, _, rfl, rfl, t0, ?_⟩⟩
      exact k _ _ (Int.emod_nonneg _ (by omega)) (Int.emod_lt_of_pos _ t0) But.upd ⟨_, _, _, upd_same⟩
theorem scPick : FnScope ["_law_dice_here", "_law_items"] ["_law_dice_here", "_law_items"] (defScope sPick) := ⟨rfl, rfl, rfl, by decide +kernel, rfl, by decide +kernel, by decide +kernel⟩
theorem But.seqL {p b : Addr} {H H' : Hp} {xs : List V} (u : But p H H') (n : b ≠ p) (h : SqL K H b xs) : SqL K H' b xs := by
  rcases h with (h | ⟨o, h⟩) | h
  · exact .inl (.inl (u _ _ n h))
  · exact .inl (.inr ⟨o, u _ _ n h⟩)
  · exact .inr h
theorem ok_pick {f fR : Addr} {fd fdR : FuncData} (F : Fun K "_law_pick" "_law_pick" sPick f fd) (T : TxD mg) (mR : mg "_law_roll" = some (.ref fR)) (FR : Fun K "_law_roll" "_law_roll" sRoll fR fdR) (bR : Binds K fdR ["_law_dice_here", "_law_total"] []) :
    FnG P w K mg base CX0 2 f fd ["_law_dice_here", "_law_items"] (spPick K) := by
  have GR : FnG P w K mg base CX0 1 fR fdR ["_law_dice_here", "_law_total"] spRoll := ok_roll FR T
  refine fnG F scPick (fun vs H Q E h => ?_) (fun cdv A fr s H vs Q E hG hr h => ?_)
  · obtain ⟨p, b, xs, rfl, _⟩ := h
    rfl
  · obtain ⟨p, b, xs, rfl, hd, hx, ne, l0, l1, k⟩ := h
    refine ⟨_, pss_one (ps_ret (pe_ix ix_list (pv 1) (pe_callG (E := fun _ _ _ _ => False) hG GR hr (by rfl) mR FR.kp bR .nil (fun _ => passAt0) (pa_cons (pv 0) (pa_cons (pe_callB call_len_seq (by rfl) T.len PySem.boot_len (pa_cons (pv 1) pa_nil)) pa_nil))) (fun _ _ => rfl))), ?_⟩
    refine ⟨_, rfl, _, rfl, _, rfl, b, _, rfl, .inl hx, ?_⟩
    refine ⟨p, _, rfl, hd, by omega, by omega, fun r H' r0 r1 but d' => ?_⟩
    have lt : r.toNat < xs.length := by omega
    refine ⟨b, xs, r, _, rfl, rfl, but.seqL ne.symm hx, ?_, k r.toNat _ H' (List.getElem?_eq_getElem lt) but d'⟩
    have e := atI_nat (xs := xs) (j := r.toNat) (List.getElem?_eq_getElem lt)
    rw [Int.toNat_of_nonneg r0] at e
    exact e
end
end Lx

/-! The law: items in drawn order. -/
namespace Lx
open PySem PySem.Spec PyProof.Rows L2 Fw
abbrev sMixed : Stmt := top 41
def spMixed (K : PySem.W.Frag) : Sp := fun vs H Q _ => ∃ (p b : Addr) (xs : List V), vs = [.ref p, .ref b] ∧ DiceAt H p ∧ SqL K H b xs ∧ xs.length ≤ 1000 ∧
  ∀ (ys : List V) (q : Addr) (H' : Hp), ys.Perm xs → But p H H' → DiceAt H' p → H q = none → H' q = some (.lst ys) → Q (.ref q) H'
theorem ix_nat {i n : Nat} (h : i < n) : seqIndex? (i : Int) n = some i := by
  unfold seqIndex?
  simp
  omega
section
variable {P : Program} {w : World} {K : PySem.W.Frag} {mg : Str → Option Value} {base : Heap}
theorem scMixed : FnScope ["_law_dice_here", "_law_items", "_law_left", "_law_found", "_law_turn"] ["_law_dice_here", "_law_items"] (defScope sMixed) := ⟨rfl, rfl, rfl, by decide +kernel, rfl, by decide +kernel, by decide +kernel⟩
theorem ok_mixed {f fR : Addr} {fd dR : FuncData} (F : Fun K "_law_mixed" "_law_mixed" sMixed f fd) (T : TxD mg) (mrg : mg "range" = none) (mls : mg "list" = none) (mR : mg "_law_roll" = some (.ref fR)) (FR : Fun K "_law_roll" "_law_roll" sRoll fR dR) (bR : Binds K dR ["_law_dice_here", "_law_total"] []) :
    FnG P w K mg base CX0 2 f fd ["_law_dice_here", "_law_items"] (spMixed K) := by
  have GR : FnG P w K mg base CX0 1 fR dR ["_law_dice_here", "_law_total"] spRoll := ok_roll FR T
  refine fnG F scMixed (fun vs H Q E h => ?_) (fun cdv A fr s H vs Q E hG hr h => ?_)
  · obtain ⟨p, b, xs, rfl, _⟩ := h
    rfl
  · obtain ⟨p, b, xs, rfl, hd, hb, few, q⟩ := h
    refine ⟨_, pss_cons (ps_par (i := 2) (j := 3) (by rfl) scMixed.nd rfl rfl (by decide) rfl rfl (pa_cons (pe_callTy call_list_of (by rfl) mls (by decide +kernel) (pa_cons (pv 1) pa_nil)) (pa_cons (pe_lst pa_nil) pa_nil)) (by rfl))
      (pss_cons (ps_for (passes_of rfl) rfl (pi_range1 (by rfl) mrg (pa_cons (pe_callB call_len_seq (by rfl) T.len PySem.boot_len (pa_cons (pv 1) pa_nil)) pa_nil)) (pg_name (i := 4) scMixed.nd rfl (Or.inl rfl))
        (pss_one (ps_expr (pe_bm PySem.F.plainAttrs_list PySem.F.slot_list_append PySem.F.type_list_append mt_append (pv 3) (pa_cons
          (pe_bm PySem.F.plainAttrs_list PySem.F.slot_list_pop PySem.F.type_list_pop mt_popAt (pv 2) (pa_cons (pe_callG (E := fun _ _ _ _ => False) hG GR hr (by rfl) mR FR.kp bR .nil (fun _ => passAt0) (pa_cons (pv 0) (pa_cons (pe_callB call_len_seq (by rfl) T.len PySem.boot_len (pa_cons (pv 2) pa_nil)) pa_nil))) pa_nil)) pa_nil)))))
      (pss_one (ps_ret (pv 3)))), ?_⟩
    refine ⟨_, rfl, b, xs, rfl, .inl hb, fun l nl => ⟨Nat.zero_le _, fun g ng => ⟨_, _, rfl, ?_⟩⟩⟩
    have nlg : g ≠ l := fun z => by
      rw [z, upd_same] at ng
      cases ng
    have zl := same_upd (o := .lst xs) nl
    have zg := same_upd (o := .lst []) ng
    have S := same_trans zl zg
    have atl : (upd (upd H l (.lst xs)) g (.lst [])) l = some (.lst xs) := zg _ _ upd_same
    have atg : (upd (upd H l (.lst xs)) g (.lst [])) g = some (.lst []) := upd_same
    have ng0 : H g = none := by
      rw [upd_ne nlg] at ng
      exact ng
    generalize upd (upd H l (.lst xs)) g (.lst []) = H2 at S atl atg ⊢
    clear zl zg ng
    have nlp : l ≠ p := fun z => by
      obtain ⟨_, _, _, e⟩ := hd
      rw [← z, nl] at e
      cases e
    have ngp : g ≠ p := fun z => by
      obtain ⟨_, _, _, e⟩ := hd
      rw [← z, ng0] at e
      cases e
    refine ⟨_, rfl, b, xs, rfl, .inl (S.seq hb), (xs.length : Int), rfl, by omega, by omega, ?_⟩
    refine for_range (lo := 0) (n := ((xs.length : Nat) : Int).toNat) (fun i σ Hc => ∃ (v4 : Option V) (left found : List V), σ = [some (.ref p), some (.ref b), some (.ref l), some (.ref g), v4] ∧ But p H Hc ∧ DiceAt Hc p ∧ Hc l = some (.lst left) ∧ Hc g = some (.lst found) ∧
      (found ++ left).Perm xs ∧ found.length = i) ⟨none, xs, [], rfl, But.same S, hd.same S, atl, atg, List.Perm.refl _, rfl⟩ ?_ ?_
    · rintro i σ Hc hi ⟨v4, left, found, rfl, bc, dc, al, ag, pm, len⟩
      have tot := pm.length_eq
      rw [List.length_append, len] at tot
      have lt0 : i < xs.length := by simpa using hi
      have pos : 0 < left.length := by omega
      refine ⟨_, rfl, .inl ⟨rfl, _, SqL.of ag⟩, _, rfl, .inl ⟨rfl, _, SqL.of al⟩, _, rfl, _, rfl, l, left, rfl, .inl (SqL.of al), p, _, rfl, dc, by omega, by omega, fun r H3 r0 r1 b3 d3 => ?_⟩
      have al3 := b3 _ _ nlp al
      have ag3 := b3 _ _ ngp ag
      have ltr : r.toNat < left.length := by omega
      have ex : seqIndex? r left.length = some r.toNat := by
        have z := ix_nat ltr
        rwa [Int.toNat_of_nonneg r0] at z
      refine ⟨l, left, r, r.toNat, left[r.toNat], rfl, rfl, al3, by omega, by omega, ex, List.getElem?_eq_getElem ltr, ?_⟩
      have ag4 : (upd H3 l (.lst (left.eraseIdx r.toNat))) g = some (.lst found) := by
        rw [upd_ne nlg]
        exact ag3
      refine ⟨g, found, left[r.toNat], rfl, rfl, ag4, Nat.lt_of_lt_of_le (show found.length < 1001 by omega) (by decide), ?_⟩
      refine ⟨_, left.eraseIdx r.toNat, found ++ [left[r.toNat]], rfl, fun c o nc e => ?_, ?_, ?_, upd_same, ?_, ?_⟩
      · have e3 := b3 _ _ nc (bc _ _ nc e)
        rw [upd_ne (ne_of_none e ng0), upd_ne (ne_of_none e nl)]
        exact e3
      · obtain ⟨a1, a2, a3, e⟩ := d3
        exact ⟨a1, a2, a3, by rw [upd_ne ngp.symm, upd_ne nlp.symm]; exact e⟩
      · rw [upd_ne nlg.symm, upd_same]
      · rw [List.append_assoc]
        refine List.Perm.trans (List.Perm.append_left found ?_) pm
        exact erase_perm left r.toNat _ (List.getElem?_eq_getElem ltr)
      · rw [List.length_append, len]
        rfl
    · rintro σ Hc ⟨v4, left, found, rfl, bc, dc, al, ag, pm, len⟩
      have tot := pm.length_eq
      rw [List.length_append, len] at tot
      have zero : left = [] := List.length_eq_zero_iff.mp (by omega)
      rw [zero, List.append_nil] at pm
      exact ⟨_, rfl, q found g Hc pm bc dc ng0 ag⟩
end
end Lx

/-! max(s, t), min(s, t), texts. -/
namespace Fw
open PySem PySem.Spec PyProof.Rows L2
section
variable {prog : Program} {w : World} {A : Around} {E : Value → Shared → Prop} {s : Shared} {x y : Str} {t u : Tok}
/-- the two, as a tuple holds them -/
def twoS (x y : Str) (i : Nat) : Str := if i = 0 then x else y
theorem two_at {i : Nat} {v : Value} (h : (#[Value.str x t, Value.str y u])[i]? = some v) : ∃ k, v = .str (twoS x y i) k := by
  match i, h with
  | 0, h => exact ⟨t, (Option.some.inj h).symm⟩
  | 1, h => exact ⟨u, (Option.some.inj h).symm⟩
theorem best_two {op : CmpOp} {bt : Nat → Nat → Bool} {Q : Value → Shared → Prop} {nm : String} (hh : A.handled = none)
    (two : wpAny (model prog w) A.in1 (pyIter (.ref s.heap.objs.size)) (fun it s2 => ∃ I fp wr n P St bt, it = .ref I ∧ Walks prog w A.in1 I fp wr n P St ∧ St 0 s2.heap ∧ (∀ b ∈ fp, b < s2.heap.objs.size) ∧ 0 < n ∧ CmpOf prog w A.in1 op P bt ∧
      ∀ v h' tk, P (argBest bt (n - 1)) v → (∀ b o, b ∉ wr → s2.heap.get? b = some o → h'.get? b = some o) → Q v { s2 with heap := h', toks := tk }) E { s with heap := s.heap.push { cls := .type "tuple", data := .seq #[.str x t, .str y u] } } → wpAny (model prog w) A (call (.builtin nm) [.str x t, .str y u]) Q E s)
    (cmp : CmpOf prog w A.in1 op (fun i v => (#[Value.str x t, Value.str y u])[i]? = some v) bt)
    (q : ∀ h' tk, (∀ c o, s.heap.get? c = some o → h'.get? c = some o) → Q (if bt 1 0 = true then .str y u else .str x t) { s with heap := h', toks := tk }) :
    wpAny (model prog w) A (call (.builtin nm) [.str x t, .str y u]) Q E s := by
  have hT : (s.heap.push { cls := .type "tuple", data := .seq #[.str x t, .str y u] }).IsTuple s.heap.objs.size #[.str x t, .str y u] := ⟨_, Heap.get?_push_size _ rfl, rfl, 0, rfl⟩
  refine two (wpAny_pyIter_tuple hT ?_)
  have sz : (s.heap.push { cls := .type "tuple", data := .seq #[.str x t, .str y u] }).objs.size = s.heap.objs.size + 1 := Heap.size_push ..
  refine ⟨_, [_, s.heap.objs.size], [_], _, _, _, bt, rfl, Walks.tuple (A := A.in1) hh _ s.heap.objs.size (by rw [sz]; exact Nat.ne_of_lt (Nat.lt_succ_self _)) #[.str x t, .str y u], ⟨⟨_, Heap.get?_push_size _ rfl, rfl, rfl⟩, hT.push _⟩, fun c hc => ?_, by show 0 < 2; decide, cmp, fun v h' tk hP hk => ?_⟩
  · show c < ((s.heap.push _).push _).objs.size
    rw [Heap.size_push, sz]
    rcases (show c = (s.heap.push { cls := .type "tuple", data := .seq #[.str x t, .str y u] }).objs.size ∨ c = s.heap.objs.size by simpa using hc) with e | e
    · rw [e, sz]
      exact Nat.lt_succ_self _
    · rw [e]
      exact Nat.lt_succ_of_lt (Nat.lt_succ_self _)
  · have old : ∀ c o, s.heap.get? c = some o → h'.get? c = some o := fun c o e => by
      refine hk c o (fun m => ?_) (Heap.get?_push_of_some _ (Heap.get?_push_of_some _ e))
      have m' : c = (s.heap.push { cls := .type "tuple", data := .seq #[.str x t, .str y u] }).objs.size := by simpa using m
      have l := Heap.lt_size e
      rw [m', sz] at l
      exact absurd (Nat.lt_trans (Nat.lt_succ_self _) l) (Nat.lt_irrefl _)
    have hv : v = if bt 1 0 = true then .str y u else .str x t := by
      have z : (#[Value.str x t, Value.str y u])[argBest bt 1]? = some v := hP
      have e : argBest bt 1 = if bt 1 0 = true then 1 else 0 := rfl
      rw [e] at z
      by_cases c : bt 1 0 = true
      · rw [if_pos c] at z ⊢
        exact (Option.some.inj z).symm
      · rw [if_neg c] at z ⊢
        exact (Option.some.inj z).symm
    rw [hv]
    exact q h' tk old
end
section
variable {X : Cx}
theorem call_max2S (hc : X.calm = true) : CallR X (.builtin "max") (fun xs H Q => ∃ x y : Str, xs = [.str x, .str y] ∧ Q (.str (if decide (x.cps.toList < y.cps.toList) = true then y else x)) H) := by
  intro pins s σ H xs us Q I r h
  obtain ⟨x, y, rfl, q⟩ := h
  obtain ⟨v, v', rfl, ⟨t, rfl⟩, ⟨u, rfl⟩⟩ := vals2 r
  refine best_two (op := .Gt) (bt := fun i j => decide ((twoS x y j).cps.toList < (twoS x y i).cps.toList)) (I.ok.hd hc) call_max_two (fun i j vi vj s Q E hi hj hQ => ?_) fun h' tk k => ⟨_, H, I.kept k, ?_, q⟩
  · obtain ⟨k1, rfl⟩ := two_at hi
    obtain ⟨k2, rfl⟩ := two_at hj
    exact PySem.P.gt_str hQ
  · show RelV (.str (if decide (x.cps.toList < y.cps.toList) = true then y else x)) (if decide (x.cps.toList < y.cps.toList) = true then Value.str y u else Value.str x t)
    split
    · exact ⟨_, rfl⟩
    · exact ⟨_, rfl⟩
theorem call_min2S (hc : X.calm = true) : CallR X (.builtin "min") (fun xs H Q => ∃ x y : Str, xs = [.str x, .str y] ∧ Q (.str (if decide (y.cps.toList < x.cps.toList) = true then y else x)) H) := by
  intro pins s σ H xs us Q I r h
  obtain ⟨x, y, rfl, q⟩ := h
  obtain ⟨v, v', rfl, ⟨t, rfl⟩, ⟨u, rfl⟩⟩ := vals2 r
  refine best_two (op := .Lt) (bt := fun i j => decide ((twoS x y i).cps.toList < (twoS x y j).cps.toList)) (I.ok.hd hc) call_min_two (fun i j vi vj s Q E hi hj hQ => ?_) fun h' tk k => ⟨_, H, I.kept k, ?_, q⟩
  · obtain ⟨k1, rfl⟩ := two_at hi
    obtain ⟨k2, rfl⟩ := two_at hj
    exact PySem.P.lt_str hQ
  · show RelV (.str (if decide (y.cps.toList < x.cps.toList) = true then y else x)) (if decide (y.cps.toList < x.cps.toList) = true then Value.str y u else Value.str x t)
    split
    · exact ⟨_, rfl⟩
    · exact ⟨_, rfl⟩
end
end Fw

/-! The law: a tie of two names. -/
namespace Lx
open PySem PySem.Spec PyProof.Rows L2 Fw
abbrev sLTie : Stmt := top 42
theorem pairT_mm (x y : Str) : pairT x y = [(if decide (y.cps.toList < x.cps.toList) = true then y else x), (if decide (x.cps.toList < y.cps.toList) = true then y else x)] := by
  unfold pairT ltS
  by_cases a : x.cps.toList < y.cps.toList
  · have b : ¬ y.cps.toList < x.cps.toList := fun l => List.lt_irrefl _ (List.lt_trans a l)
    simp [a, b]
  · by_cases b : y.cps.toList < x.cps.toList
    · simp [a, b]
    · have e : x = y := str_of_cps (List.le_antisymm (List.not_lt.mp b) (List.not_lt.mp a))
      subst e
      simp [a]
section
variable {P : Program} {w : World} {K : PySem.W.Frag} {mg : Str → Option Value} {base : Heap} {gg : Bool}
theorem scLTie : FnScope ["_law_a", "_law_b"] ["_law_a", "_law_b"] (defScope sLTie) := ⟨rfl, rfl, rfl, by decide +kernel, rfl, by decide +kernel, by decide +kernel⟩
theorem ok_ltie {f : Addr} {fd : FuncData} (F : Fun K "_law_tie" "_law_tie" sLTie f fd) (mMin : mg "min" = none) (mMax : mg "max" = none) : FnV gg P w K mg base CX0 1 f fd ["_law_a", "_law_b"] spPair := by
  refine fnV F scLTie (fun vs H Q E h => ?_) (fun cdv Ar fr s H vs Q E hG hr h => ?_)
  · obtain ⟨x, y, rfl, _⟩ := h
    rfl
  · obtain ⟨x, y, rfl, q⟩ := h
    refine ⟨_, pss_one (ps_ret (pe_tup (pa_cons (pe_callB (call_min2S rfl) (by rfl) mMin (by decide +kernel) (pa_cons (pv 0) (pa_cons (pv 1) pa_nil))) (pa_cons (pe_callB (call_max2S rfl) (by rfl) mMax (by decide +kernel) (pa_cons (pv 0) (pa_cons (pv 1) pa_nil))) pa_nil)))), ?_⟩
    refine ⟨_, rfl, _, rfl, x, y, rfl, _, rfl, _, rfl, x, y, rfl, by show 2 ≤ sizeLine; decide, fun p np => ?_⟩
    have z := q p np
    rw [pairT_mm] at z
    exact z
end
end Lx

/-! The law: a web made of a plain one. -/
namespace Lx
open PySem PySem.Spec PyProof.Rows L2 Fw
abbrev sMade : Stmt := top 44
/-- a dict of two lists: places and ties -/
structure PlainAt (H : Hp) (d : Addr) (ns : List Str) (ks : List (Addr × List Str)) : Prop where
  at_ : ∃ l1 l2, H d = some (.dK [(Sum.inr "places", .ref l1), (Sum.inr "ties", .ref l2)]) ∧ H l1 = some (.lst (ns.map V.str)) ∧ H l2 = some (.lst (ks.map fun k => V.ref k.1))
  each : Each H ks
theorem PlainAt.same {H H' : Hp} {d : Addr} {ns : List Str} {ks : List (Addr × List Str)} (h : PlainAt H d ns ks) (s : Same H H') : PlainAt H' d ns ks := by
  obtain ⟨⟨l1, l2, a, b, c⟩, e⟩ := h
  exact ⟨⟨l1, l2, s _ _ a, s _ _ b, s _ _ c⟩, e.same s⟩
theorem name_short {x : Str} (h : nameS x = true) : x.length ≤ 1000 := by
  unfold nameS at h
  have z := of_decide_eq_true (Bool.and_eq_true_iff.mp (Bool.and_eq_true_iff.mp h).2).1
  omega
def spMade (C : Addr) : Sp := fun vs H Q _ => ∃ (d : Addr) (ns : List Str) (ks : List (Addr × List Str)), vs = [.ref d] ∧ PlainAt H d ns ks ∧ webB ns (ks.map (·.2)) = true ∧ ∀ H' y t a, Same H H' → H y = none → WebAt C H' y t a ns ks → (∀ b o, H b = some o → Apart H' y b) → Q (.ref y) H'
section
variable {P : Program} {w : World} {K : PySem.W.Frag} {mg : Str → Option Value} {base : Heap} {gg : Bool}
theorem scMade : FnScope ["_law_plain_here"] ["_law_plain_here"] (defScope sMade) := ⟨rfl, rfl, rfl, by decide +kernel, rfl, by decide +kernel, by decide +kernel⟩
theorem ok_made {C CW f fi fA fNm fK fD fC fT fL fMt fO fE : Addr} {fd di dA dNm dK dD dC dT dL dMt dO dE : FuncData} (F : Fun K "_law_made" "_law_made" sMade f fd) (Nm : TxN K mg fA fNm fK fD dA dNm dK dD) (B : TxB K mg fC fT dC dT) (O : TxO K mg fL fMt dL dMt)
    (I : TxI K mg fO fE dO dE) (X : ExP K mg "InvalidWeb" CW) (T : TxC K C) (G : TxG K mg C fi di) : FnV gg P w K mg base (L2.CX P w) 9 f fd ["_law_plain_here"] (spMade C) := by
  have GM : FnOk P w K mg base (L2.CX P w) 7 fi di ["self", "places", "ties"] (spInitD C CW) := (ok_initD (gg := false) G.F Nm B O I X T).ok
  refine fnV F scMade (fun vs H Q E h => ?_) (fun cdv Ar fr s H vs Q E hG hr h => ?_)
  · obtain ⟨d, ns, ks, rfl, _⟩ := h
    rfl
  · obtain ⟨d, ns, ks, rfl, pl, ok, q⟩ := h
    have hu := hr.units
    have tk : Takes (cxOf (L2.CX P w) P w K mg base ["_law_plain_here"] "_law_made" (defScope sMade) f cdv Ar fr s H E) (fun cls d _ H => E cls d H) := takes_of rfl rfl rfl rfl
    refine ⟨_, pss_one (ps_ret (pe_make (E := E) G.mkC GM hr (by rfl) G.gC G.b .nil (passes_call tk fun _ _ _ _ h => h)
      (pa_cons (pe_callTy cr_tupF (by rfl) Nm.T.tuple (by decide +kernel) (pa_cons (pe_dget (by have z := hu; exact Nat.lt_of_le_of_lt (Nat.add_le_add_left (by decide) _) z) (pv 0) pe_str (fun _ _ => rfl)) pa_nil))
        (pa_cons (pe_callTy cr_tupF (by rfl) Nm.T.tuple (by decide +kernel) (pa_cons (pe_dget (by have z := hu; exact Nat.lt_of_le_of_lt (Nat.add_le_add_left (by decide) _) z) (pv 0) pe_str (fun _ _ => rfl)) pa_nil)) pa_nil)))), ?_⟩
    obtain ⟨⟨l1, l2, a1, a2, a3⟩, each⟩ := pl
    obtain ⟨nm, _, few, _, fewT, _, _⟩ := webB_iff.mp ok
    have sm : ∀ x ∈ ns, x.length ≤ 1000 := fun x m => name_short (nm x m)
    rw [List.length_map] at fewT
    refine ⟨_, rfl, d, _, rfl, DGet.k (k := Sum.inr "places") a1, l1, _, rfl, .inl ⟨SqL.of a2, fun t o nt ot => ?_⟩⟩
    have s1 := same_upd (o := .frz o (.tup (ns.map V.str))) nt
    have tu : TupK (upd H t (.frz o (.tup (ns.map V.str)))) t (ns.map V.str) := TupK.new ot
    generalize upd H t (.frz o (.tup (ns.map V.str))) = H1 at s1 tu ⊢
    refine ⟨_, rfl, d, _, rfl, DGet.k (k := Sum.inr "ties") (s1 _ _ a1), l2, _, rfl, .inl ⟨SqL.of (s1 _ _ a3), fun a o2 na oa => ?_⟩⟩
    have s2 := same_upd (o := .frz o2 (.tup (ks.map fun k => V.ref k.1))) na
    have ra : Rd (upd H1 a (.frz o2 (.tup (ks.map fun k => V.ref k.1)))) a (.tup (ks.map fun k => V.ref k.1)) := .inr ⟨o2, upd_same⟩
    generalize upd H1 a (.frz o2 (.tup (ks.map fun k => V.ref k.1))) = H4 at s2 ra ⊢
    have S4 := same_trans s1 s2
    refine fun y dy ny ndy ney => ?_
    have s7 := same_trans (same_upd (o := .own y) ndy) (same_upd (H := upd H4 dy (.own y)) (o := .ins C dy []) (by rw [upd_ne (Ne.symm ney)]; exact ny))
    have hy : (upd (upd H4 dy (.own y)) y (.ins C dy [])) y = some (.ins C dy []) := upd_same
    have hdy : (upd (upd H4 dy (.own y)) y (.ins C dy [])) dy = some (.own y) := by rw [upd_ne ney, upd_same]
    have S7 := same_trans S4 s7
    have nHy := none_same S4 ny
    generalize upd (upd H4 dy (.own y)) y (.ins C dy []) = H7 at s7 hy hdy S7 ⊢
    refine ⟨y, dy, t, a, ns, ks, rfl, hy, hdy, (tu.same s2).same s7, sm, by omega, ⟨rd_same ra s7, each.same S7, by omega⟩, fun c => ?_, fun _ H' sv Wn ap => ⟨rfl, ?_⟩⟩
    · rw [ok] at c
      cases c
    · exact q H' y t a (fun b u e => sv b u (ne_of_none e nHy) (S7 _ _ e)) nHy Wn fun b o e => ap b o (S7 _ _ e)
end
end Lx

/-! The law: a web told as a plain one. -/
namespace Lx
open PySem PySem.Spec PyProof.Rows L2 Fw
abbrev sToldW : Stmt := top 52
def spToldW (C : Addr) : Sp := fun vs H Q _ => ∃ (x t a : Addr) (ns : List Str) (ks : List (Addr × List Str)), vs = [.ref x] ∧ WebAt C H x t a ns ks ∧ ∀ H' d, Same H H' → H d = none → PlainAt H' d ns ks → Q (.ref d) H'
section
variable {P : Program} {w : World} {K : PySem.W.Frag} {mg : Str → Option Value} {base : Heap} {gg : Bool}
theorem scToldW : FnScope ["_law_web"] ["_law_web"] (defScope sToldW) := ⟨rfl, rfl, rfl, by decide +kernel, rfl, by decide +kernel, by decide +kernel⟩
theorem ok_toldW {C f pP gP pT gT : Addr} {fd dP dT' : FuncData} (F : Fun K "_law_told_web" "_law_told_web" sToldW f fd) (mL : mg "list" = none) (T : TxC K C) (R : TxPr K C pP gP pT gT dP dT') : FnV gg P w K mg base CX0 3 f fd ["_law_web"] (spToldW C) := by
  have GP : FnOk P w K mg base CX0 1 gP dP ["self"] (spP C) := (ok_getP (gg := false) R.FP T).ok
  have GT : FnOk P w K mg base CX0 1 gT dT' ["self"] (spT C) := (ok_getT (gg := false) R.FT T).ok
  refine fnV F scToldW (fun vs H Q E h => ?_) (fun cdv Ar fr s H vs Q E hG hr h => ?_)
  · obtain ⟨x, t, a, ns, ks, rfl, _⟩ := h
    rfl
  · obtain ⟨x, t, a, ns, ks, rfl, W, q⟩ := h
    refine ⟨_, pss_one (ps_ret (pe_disp (pps_cons pe_str (pe_callTy call_list_of (by rfl) mL (by decide +kernel) (pa_cons (pe_prop (pv 0) T.cl R.pP GP hr R.bP .nil pass0 rfl) pa_nil))
      (pps_cons pe_str (pe_callTy call_list_of (by rfl) mL (by decide +kernel) (pa_cons (pe_prop (pv 0) T.cl R.pT GT hr R.bT .nil pass0 rfl) pa_nil)) pps_nil)) (by rfl) (by rfl) (fun z => by cases z) (by decide))), ?_⟩
    obtain ⟨dx, D, e1, e2, e3⟩ := W.ins
    refine fun d nd => ?_
    have s0 := same_upd (o := .dK []) nd
    have hd0 : (upd H d (.dK [])) d = some (.dK []) := upd_same
    generalize upd H d (.dK []) = H0 at s0 hd0 ⊢
    have W0 := W.same s0
    refine ⟨_, rfl, x, dx, _, rfl, s0 _ _ e1, x, t, a, ns, ks, rfl, W0, t, _, rfl, .inr (.inl W0.tup.rd), fun l1 n1 => ?_⟩
    have s1 := same_upd (o := .lst (ns.map V.str)) n1
    have h1 : (upd H0 l1 (.lst (ns.map V.str))) l1 = some (.lst (ns.map V.str)) := upd_same
    have hd1 := s1 _ _ hd0
    generalize upd H0 l1 (.lst (ns.map V.str)) = H1 at s1 h1 hd1 ⊢
    have W1 := W0.same s1
    refine ⟨_, rfl, x, dx, _, rfl, s1 _ _ (s0 _ _ e1), x, t, a, ns, ks, rfl, W1, a, _, rfl, .inr (.inl W1.row.at_), fun l2 n2 => ?_⟩
    have s2 := same_upd (o := .lst (ks.map fun k => V.ref k.1)) n2
    have h2 : (upd H1 l2 (.lst (ks.map fun k => V.ref k.1))) l2 = some (.lst (ks.map fun k => V.ref k.1)) := upd_same
    have hd2 := s2 _ _ hd1
    have h12 := s2 _ _ h1
    generalize upd H1 l2 (.lst (ks.map fun k => V.ref k.1)) = H2 at s2 h2 hd2 h12 ⊢
    refine ⟨hd2, [(Sum.inr "places", .ref l1), (Sum.inr "ties", .ref l2)], rfl, by show 2 ≤ 15; decide, ?_⟩
    have W2 := W1.same s2
    have keep : ∀ b o, b ≠ d → H2 b = some o → (upd H2 d (.dK [(Sum.inr "places", V.ref l1), (Sum.inr "ties", V.ref l2)])) b = some o := fun b o n e => by
      rw [upd_ne n]
      exact e
    have rdk : ∀ {b : Addr} {xs : List V}, Rd H2 b (.tup xs) → Rd (upd H2 d (.dK [(Sum.inr "places", V.ref l1), (Sum.inr "ties", V.ref l2)])) b (.tup xs) := fun {b xs} h => by
      rcases h with h | ⟨o, h⟩
      · exact .inl (keep b _ (fun z => by rw [z, hd2] at h; cases h) h)
      · exact .inr ⟨o, keep b _ (fun z => by rw [z, hd2] at h; cases h) h⟩
    refine q _ d (fun b o e => keep b o (ne_of_none e nd) (s2 _ _ (s1 _ _ (s0 _ _ e)))) nd ⟨⟨l1, l2, upd_same, keep _ _ (fun z => by rw [z, hd2] at h12; cases h12) h12, keep _ _ (fun z => by rw [z, hd2] at h2; cases h2) h2⟩, fun k m => ⟨rdk (W2.row.each k m).1, (W2.row.each k m).2⟩⟩
end
end Lx

/-! The law: a plain web of places and ties in any order. -/
namespace Lx
open PySem PySem.Spec PyProof.Rows L2 Fw
abbrev sPlain : Stmt := top 43
def asTie (k : List Str) : List Str := pairT (k.getD 0 Str.empty) (k.getD 1 Str.empty)
def spPlain (K : PySem.W.Frag) : Sp := fun vs H Q _ => ∃ (p r : Addr) (ns pool : List Str) (ks : List (Addr × List Str)), vs = [.ref p, .ref r] ∧ SqL K H p (ns.map V.str) ∧ SqL K H r (ks.map fun k => V.ref k.1) ∧ Each H ks ∧ (∀ k ∈ ks, ∃ x y, k.2 = [x, y]) ∧
  pool.length ≤ 60 ∧ (∀ z ∈ ns, z ∈ pool) ∧ (∀ k ∈ ks, ∀ z ∈ k.2, z ∈ pool) ∧ (∀ z ∈ pool, z.length ≤ 1000) ∧ ns.length ≤ 100 ∧ ks.length ≤ 62 ∧
  ∀ H' d ns' ks', Same H H' → H d = none → AscN ns' → (∀ z, z ∈ ns' ↔ z ∈ ns ++ ks.flatMap (·.2)) → AscT (ks'.map (·.2)) → (∀ z, z ∈ ks'.map (·.2) ↔ z ∈ ks.map fun k => asTie k.2) → (∀ k ∈ ks', k.2 ≠ []) → PlainAt H' d ns' ks' → Q (.ref d) H'
theorem sqL_same {K : PySem.W.Frag} {H H' : Hp} {p : Addr} {xs : List V} (h : SqL K H p xs) (s : Same H H') : SqL K H' p xs := by
  rcases h with h | h
  · exact .inl (rd_same h s)
  · exact .inr h
theorem flat2 : ∀ {l : List (Addr × List Str)}, (∀ k ∈ l, ∃ x y, k.2 = [x, y]) → (l.flatMap (·.2)).length = 2 * l.length
  | [], _ => rfl
  | k :: l, h => by
    obtain ⟨x, y, e⟩ := h k List.mem_cons_self
    rw [List.flatMap_cons, List.length_append, flat2 fun q m => h q (List.mem_cons_of_mem _ m), e, List.length_cons]
    simp
    omega
abbrev nLP : List Str := ["_law_places", "_law_ties", "_law_found", "_law_a", "_law_b"]
theorem nodup_len {α : Type} [DecidableEq α] : ∀ (l D : List α), l.Nodup → (∀ x ∈ l, x ∈ D) → l.length ≤ D.length
  | [], _, _, _ => Nat.zero_le _
  | x :: l, D, hn, hs => by
    obtain ⟨a, b⟩ := List.nodup_cons.mp hn
    have mx := hs x List.mem_cons_self
    have ih := nodup_len l (D.erase x) b fun y m => (List.mem_erase_of_ne fun e => a (by rw [← e]; exact m)).2 (hs y (List.mem_cons_of_mem _ m))
    have e := List.length_erase_of_mem mx
    have p : 0 < D.length := List.length_pos_of_mem mx
    rw [List.length_cons]
    omega
theorem pool_few {pool l : List Str} (h : ∀ z ∈ l, z ∈ pool) : (dedT l).length ≤ pool.length :=
  nodup_len _ _ (dedT_nodup l) fun z m => h z ((dedT_mem l z).mp m)
section
variable {P : Program} {w : World} {K : PySem.W.Frag} {mg : Str → Option Value} {base : Heap} {gg : Bool}
theorem scPlain : FnScope nLP ["_law_places", "_law_ties"] (defScope sPlain) := ⟨rfl, rfl, rfl, by decide +kernel, rfl, by decide +kernel, by decide +kernel⟩
theorem ok_plain {f fT : Addr} {fd dT : FuncData} (F : Fun K "_law_plain" "_law_plain" sPlain f fd) (mL : mg "list" = none) (mS : mg "set" = none) (mO : mg "sorted" = none) (mMin : mg "min" = none) (mMax : mg "max" = none)
    (mT : mg "_law_tie" = some (.ref fT)) (FT : Fun K "_law_tie" "_law_tie" sLTie fT dT) (bT : Binds K dT ["_law_a", "_law_b"] []) : FnV gg P w K mg base CX0 2 f fd ["_law_places", "_law_ties"] (spPlain K) := by
  have GT : FnV gg P w K mg base CX0 1 fT dT ["_law_a", "_law_b"] spPair := ok_ltie FT mMin mMax
  refine fnV F scPlain (fun vs H Q E h => ?_) (fun cdv Ar fr s H vs Q E hG hr h => ?_)
  · obtain ⟨p, r, ns, pool, ks, rfl, _⟩ := h
    rfl
  · obtain ⟨p, r, ns, pool, ks, rfl, hp, hq, each, two, fp, inN, inT, sm, fewN, fewT, q⟩ := h
    have hu := hr.units
    refine ⟨_, pss_cons (ps_set (i := 2) scPlain.nd rfl (Or.inl rfl) (pe_callTy call_list_of (by rfl) mL (by decide +kernel) (pa_cons (pv 0) pa_nil)))
      (pss_cons (ps_for (passes_of rfl) rfl (pi_list (pv 1)) (pg_tup rfl (pgs_cons (pg_name (i := 3) scPlain.nd rfl (Or.inl rfl)) (pgs_cons (pg_name (i := 4) scPlain.nd rfl (Or.inl rfl)) pgs_nil)))
          (pss_one (ps_expr (pe_bm PySem.F.plainAttrs_list PySem.F.slot_list_extend PySem.F.type_list_extend mt_extend (pv 2) (pa_cons (pe_lst (pa_cons (pv 3) (pa_cons (pv 4) pa_nil))) pa_nil)))))
        (pss_one (ps_ret (pe_disp (pps_cons pe_str (pe_callB (cr_sortedWk (w := w) rfl rfl) (by rfl) mO (by decide +kernel) (pa_cons (pe_callTy (cr_setWk (w := w) rfl rfl) (by rfl) mS (by decide +kernel) (pa_cons (pv 2) pa_nil)) pa_nil))
          (pps_cons pe_str (pe_callB (cr_sortedPk (P := P) (w := w) rfl rfl rfl) (by rfl) mO (by decide +kernel) (pa_cons (pe_callTy (cr_setPk (P := P) (w := w) rfl rfl rfl (by exact hu)) (by rfl) mS (by decide +kernel) (pa_cons
            (pe_lc (own := [("_law_a", 3), ("_law_b", 4)]) (g := gTup K 2 (gCons (gName 3) (gCons (gName 4) gNil))) (by rfl) scPlain.nd (pi_list (pv 1))
              (blkOk_by (N := nLP) (sc := defScope sPlain) (own := [("_law_a", 3), ("_law_b", 4)]) (by decide +kernel)) (fun _ _ _ _ _ => pg_tup rfl (pgs_cons (pg_name (i := 3) scPlain.nd rfl (Or.inl rfl)) (pgs_cons (pg_name (i := 4) scPlain.nd rfl (Or.inl rfl)) pgs_nil))) (fun _ _ _ _ _ => pts_nil)
              (fun _ _ _ _ _ => pe_callV (E := fun _ _ _ _ => False) hG GT hr (by rfl) mT FT.kp bT .nil (fun _ => passAt0) (pa_cons (pv 3) (pa_cons (pv 4) pa_nil)))) pa_nil)) pa_nil)) pps_nil)) (by rfl) (by rfl) (fun z => by cases z) (by decide))))), ?_⟩
    refine ⟨_, rfl, p, _, rfl, .inl hp, fun F nF => ?_⟩
    have s1 := same_upd (o := .lst (ns.map V.str)) nF
    have hF1 : (upd H F (.lst (ns.map V.str))) F = some (.lst ((ns ++ ([] : List Str)).map V.str)) := by rw [upd_same, List.append_nil]
    generalize upd H F (.lst (ns.map V.str)) = H1 at s1 hF1 ⊢
    refine ⟨_, rfl, r, rfl, ⟨_, sqL_same hq s1⟩, ?_⟩
    refine for_list (K := K) (a := r) (xs := ks.map fun k => V.ref k.1) (fun i σ H' => (∃ u1 u2, σ = [some (.ref p), some (.ref r), some (.ref F), u1, u2]) ∧ Same H H' ∧ H' F = some (.lst ((ns ++ (ks.take i).flatMap (·.2)).map V.str))) ⟨⟨_, _, rfl⟩, s1, hF1⟩ (fun i σ H' _ z => sqL_same hq z.2.1) ?_ ?_
    · rintro i y σ H' hy ⟨⟨u1, u2, rfl⟩, sm', hF'⟩
      rw [List.getElem?_map] at hy
      cases ek : ks[i]? with
      | none => rw [ek] at hy; cases hy
      | some k =>
        rw [ek] at hy
        obtain rfl : V.ref k.1 = y := Option.some.inj hy
        have mk := List.mem_of_getElem? ek
        obtain ⟨a, b, eab⟩ := two k mk
        have ka := rd_same (each k mk).1 sm'
        rw [eab] at ka
        have tk1 : (ks.take (i + 1)) = ks.take i ++ [k] := by
          rw [List.take_add_one, ek]
          rfl
        have lf := flat2 (l := ks.take i) fun q m => two q (List.mem_of_mem_take m)
        have lt := List.length_take_le' i ks
        refine ⟨k.1, [.str a, .str b], rfl, .inl ka, rfl, _, _, rfl, _, _, rfl, rfl, ?_⟩
        refine ⟨_, rfl, .inl ⟨rfl, _, SqL.of hF'⟩, _, rfl, _, rfl, by show 2 ≤ sizeLine; decide, fun c nc => ?_⟩
        have s2 := same_upd (o := .lst [V.str a, V.str b]) nc
        have hF2 := s2 _ _ hF'
        have hc2 : (upd H' c (.lst [V.str a, V.str b])) c = some (.lst [V.str a, V.str b]) := upd_same
        generalize upd H' c (.lst [V.str a, V.str b]) = H2 at s2 hF2 hc2 ⊢
        refine ⟨F, c, _, _, rfl, rfl, hF2, hc2, by rw [List.length_map, List.length_append, lf, sizeLine_eq]; simp; omega, ⟨_, _, rfl⟩, fun d o e => ?_, ?_⟩
        · rw [upd_ne (ne_of_none e nF)]
          exact s2 _ _ (sm' _ _ e)
        · rw [upd_same, tk1, List.flatMap_append, List.map_append, List.map_append, List.map_append]
          simp [eab]
    · rintro σ H3 ⟨⟨u1, u2, rfl⟩, s3, hF3⟩
      rw [List.length_map, List.take_length] at hF3
      have lff := flat2 two
      generalize ef : ns ++ ks.flatMap (·.2) = found at hF3
      have fin : ∀ z ∈ found, z ∈ pool := fun z m => by
        rw [← ef] at m
        rcases List.mem_append.mp m with m | m
        · exact inN z m
        · obtain ⟨k, mk, mz⟩ := List.mem_flatMap.mp m
          exact inT k mk z mz
      have lfo : found.length ≤ 1000 := by
        rw [← ef, List.length_append, lff]
        omega
      refine fun d nd => ?_
      have s4 := same_upd (o := .dK []) nd
      have hd4 : (upd H3 d (.dK [])) d = some (.dK []) := upd_same
      have nHd := none_same s3 nd
      generalize upd H3 d (.dK []) = H4 at s4 hd4 ⊢
      refine ⟨_, rfl, F, found, rfl, .inl (SqL.of (s4 _ _ hF3)), lfo, fun q1 n1 => ?_⟩
      have s5 := same_upd (o := SetWO w q1 (dedT found)) n1
      have a5 : (upd H4 q1 (SetWO w q1 (dedT found))) q1 = some (SetWO w q1 (dedT found)) := upd_same
      refine ⟨q1, dedT found, rfl, a5, Nat.lt_of_le_of_lt (Nat.le_trans (pool_few fin) fp) (by decide), fun ys l1 py so n2 => ?_⟩
      have s6 := same_trans s5 (same_upd (o := .lst (ys.map V.str)) n2)
      have h6 : (upd (upd H4 q1 (SetWO w q1 (dedT found))) l1 (.lst (ys.map V.str))) l1 = some (.lst (ys.map V.str)) := upd_same
      generalize upd (upd H4 q1 (SetWO w q1 (dedT found))) l1 (.lst (ys.map V.str)) = H6 at s6 h6 ⊢
      have hd6 := s6 _ _ hd4
      have S6 := same_trans s3 (same_trans s4 s6)
      refine ⟨_, rfl, r, rfl, ⟨_, sqL_same hq S6⟩, fun L nL => ?_⟩
      have nHL := none_same S6 nL
      refine lc_list (K := K) (a := r) (xs := ks.map fun k => V.ref k.1) (fun i Hc => Same H6 Hc ∧ ∃ zs : List (Addr × List Str), Hc L = some (.lst (zs.map fun k => V.ref k.1)) ∧ zs.map (·.2) = (ks.take i).map (fun k => asTie k.2) ∧ Each Hc zs ∧ (∀ k ∈ zs, k.2 ≠ []))
        ⟨same_upd nL, [], upd_same, rfl, (fun k m => absurd m (by simp)), fun k m => absurd m (by simp)⟩ (fun i Hc _ z => sqL_same hq (same_trans S6 z.1)) ?_ ?_
      · rintro i y' Hc hy ⟨sc, zs, hL, ez, eachz, ne⟩
        rw [List.getElem?_map] at hy
        cases ek : ks[i]? with
        | none => rw [ek] at hy; cases hy
        | some k =>
          rw [ek] at hy
          obtain rfl : V.ref k.1 = y' := Option.some.inj hy
          have mk := List.mem_of_getElem? ek
          obtain ⟨a, b, eab⟩ := two k mk
          have ka := rd_same (each k mk).1 (same_trans S6 sc)
          rw [eab] at ka
          refine ⟨k.1, [.str a, .str b], rfl, .inl ka, rfl, _, _, rfl, _, _, rfl, rfl, rfl, ?_⟩
          refine ⟨_, rfl, _, rfl, a, b, rfl, fun c nc => ?_⟩
          have sr := same_upd (o := .tup ((pairT a b).map V.str)) nc
          have hr5 : (upd Hc c (.tup ((pairT a b).map V.str))) c = some (.tup ((pairT a b).map V.str)) := upd_same
          generalize upd Hc c (.tup ((pairT a b).map V.str)) = H5 at sr hr5 ⊢
          have hL5 := sr _ _ hL
          have lz : zs.length ≤ 62 := by
            have z1 := congrArg List.length ez
            rw [List.length_map, List.length_map, List.length_take] at z1
            omega
          have keep : ∀ b o, b ≠ L → H5 b = some o → (upd H5 L (.lst ((zs.map fun k => V.ref k.1) ++ [V.ref c]))) b = some o := fun b o n e => by
            rw [upd_ne n]
            exact e
          have rdk : ∀ {b : Addr} {xs : List V}, Rd H5 b (.tup xs) → Rd (upd H5 L (.lst ((zs.map fun k => V.ref k.1) ++ [V.ref c]))) b (.tup xs) := fun {b xs} h => by
            rcases h with h | ⟨o, h⟩
            · exact .inl (keep b _ (fun z => by rw [z, hL5] at h; cases h) h)
            · exact .inr ⟨o, keep b _ (fun z => by rw [z, hL5] at h; cases h) h⟩
          refine ⟨_, hL5, by rw [List.length_map, sizeLine_eq]; omega, fun b o e => ?_, zs ++ [(c, pairT a b)], ?_, ?_, fun k' m => ?_, fun k' m => ?_⟩
          · have n : b ≠ L := fun z => by
              rw [z, nL] at e
              cases e
            exact keep b o n (sr _ _ (sc _ _ e))
          · rw [upd_same, List.map_append]
            rfl
          · have tk2 : (ks.take (i + 1)) = ks.take i ++ [k] := by
              rw [List.take_add_one, ek]
              rfl
            rw [tk2, List.map_append, List.map_append, ez]
            have e9 : asTie k.2 = pairT a b := by
              rw [eab]
              rfl
            show _ ++ [pairT a b] = _ ++ [asTie k.2]
            rw [e9]
          · rcases List.mem_append.mp m with m | m
            · exact ⟨rdk (rd_same (eachz k' m).1 sr), (eachz k' m).2⟩
            · obtain rfl : k' = (c, pairT a b) := by simpa using m
              refine ⟨rdk (.inl hr5), fun w' mw => ?_, ?_⟩
              · show w'.length ≤ 1000
                have zz : w' = a ∨ w' = b := by
                  have mw' : w' ∈ pairT a b := mw
                  unfold pairT at mw'
                  split at mw' <;> simp at mw' <;> rcases mw' with z | z <;> simp [z]
                rcases zz with e | e
                · rw [e]; exact sm a (inT k mk a (by rw [eab]; simp))
                · rw [e]; exact sm b (inT k mk b (by rw [eab]; simp))
              · show (pairT a b).length ≤ 1000
                unfold pairT
                split <;> simp
          · rcases List.mem_append.mp m with m | m
            · exact ne k' m
            · obtain rfl : k' = (c, pairT a b) := by simpa using m
              exact pairT_ne _ _
      · rintro Hc ⟨sc, zs, hL, ez, eachz, ne⟩
        rw [List.length_map, List.take_length] at ez
        have lz : zs.length ≤ 62 := by
          have z1 := congrArg List.length ez
          rw [List.length_map, List.length_map] at z1
          omega
        refine ⟨L, zs, rfl, .inl (SqL.of hL), fun k m => (eachz k m).1, lz, fun q3 n3 => ?_⟩
        have s7 := same_upd (o := SetPO P w q3 (dedK zs)) n3
        have a7 : (upd Hc q3 (SetPO P w q3 (dedK zs))) q3 = some (SetPO P w q3 (dedK zs)) := upd_same
        refine ⟨q3, dedK zs, rfl, a7, fun k m => ⟨rd_same (eachz k (dedK_sub zs k m)).1 s7, ne k (dedK_sub zs k m)⟩, fun ws l2 pz az n4 => ?_⟩
        have s8 := same_trans s7 (same_upd (o := .lst (ws.map fun k => V.ref k.1)) n4)
        have h8 : (upd (upd Hc q3 (SetPO P w q3 (dedK zs))) l2 (.lst (ws.map fun k => V.ref k.1))) l2 = some (.lst (ws.map fun k => V.ref k.1)) := upd_same
        generalize upd (upd Hc q3 (SetPO P w q3 (dedK zs))) l2 (.lst (ws.map fun k => V.ref k.1)) = H8 at s8 h8 ⊢
        have S8 := same_trans sc s8
        have hd8 := S8 _ _ hd6
        have h68 := S8 _ _ h6
        refine ⟨hd8, [(Sum.inr "places", .ref l1), (Sum.inr "ties", .ref l2)], rfl, by show 2 ≤ 15; decide, ?_⟩
        have keep : ∀ b o, b ≠ d → H8 b = some o → (upd H8 d (.dK [(Sum.inr "places", V.ref l1), (Sum.inr "ties", V.ref l2)])) b = some o := fun b o n e => by
          rw [upd_ne n]
          exact e
        have rdk : ∀ {b : Addr} {xs : List V}, Rd H8 b (.tup xs) → Rd (upd H8 d (.dK [(Sum.inr "places", V.ref l1), (Sum.inr "ties", V.ref l2)])) b (.tup xs) := fun {b xs} h => by
          rcases h with h | ⟨o, h⟩
          · exact .inl (keep b _ (fun z => by rw [z, hd8] at h; cases h) h)
          · exact .inr ⟨o, keep b _ (fun z => by rw [z, hd8] at h; cases h) h⟩
        have mws : ∀ k ∈ ws, k ∈ zs := fun k m => dedK_sub zs k (pz.mem_iff.mp m)
        refine q _ d ys ws (fun b o e => keep b o (ne_of_none e nHd) (S8 _ _ (S6 _ _ e))) nHd (ascN_of so (py.nodup_iff.mpr (dedT_nodup found))) (fun z => by rw [ef]; exact (py.mem_iff).trans (dedT_mem found z)) (List.pairwise_map.mpr az) (fun z => ?_) (fun k m => ne k (mws k m)) ⟨⟨l1, l2, upd_same, keep _ _ (fun z => by rw [z, hd8] at h68; cases h68) h68, keep _ _ (fun z => by rw [z, hd8] at h8; cases h8) h8⟩, fun k m => ⟨rdk (rd_same (eachz k (mws k m)).1 s8), (eachz k (mws k m)).2⟩⟩
        have e1 : z ∈ ws.map (·.2) ↔ z ∈ (dedK zs).map (·.2) := (pz.map (·.2)).mem_iff
        rw [← ez]
        exact e1.trans (dedK_keys zs z)
end
end Lx

/-! The law: what is beside a place. -/
namespace Lx
open PySem PySem.Spec PyProof.Rows L2 Fw
abbrev sBeside : Stmt := top 46
def fstOf (k : List Str) : Str := k.getD 0 Str.empty
def sndOf (k : List Str) : Str := k.getD 1 Str.empty
/-- the other ends of ties that begin, that end at u -/
def fromU (ts : List (List Str)) (u : Str) : List Str := (ts.filter fun k => decide (fstOf k = u)).map sndOf
def toU (ts : List (List Str)) (u : Str) : List Str := (ts.filter fun k => decide (sndOf k = u)).map fstOf
def spBeside : Sp := fun vs H Q _ => ∃ (d : Addr) (u : Str) (ns : List Str) (ks : List (Addr × List Str)), vs = [.ref d, .str u] ∧ PlainAt H d ns ks ∧ (∀ k ∈ ks, ∃ x y, k.2 = [x, y]) ∧ ks.length ≤ 31 ∧
  ∀ H' l ys, Same H H' → H l = none → ys.Perm (fromU (ks.map (·.2)) u ++ toU (ks.map (·.2)) u) → sortedS ys = true → H' l = some (.lst (ys.map V.str)) → Q (.ref l) H'
abbrev nLB : List Str := ["_law_plain_here", "_law_place", "_law_found", "_law_a", "_law_b"]
section
variable {P : Program} {w : World} {K : PySem.W.Frag} {mg : Str → Option Value} {base : Heap} {gg : Bool}
theorem scBeside : FnScope nLB ["_law_plain_here", "_law_place"] (defScope sBeside) := ⟨rfl, rfl, rfl, by decide +kernel, rfl, by decide +kernel, by decide +kernel⟩
theorem ok_beside {f : Addr} {fd : FuncData} (F : Fun K "_law_beside" "_law_beside" sBeside f fd) (mO : mg "sorted" = none) : FnV gg P w K mg base CX0 1 f fd ["_law_plain_here", "_law_place"] spBeside := by
  refine fnV F scBeside (fun vs H Q E h => ?_) (fun cdv Ar fr s H vs Q E hG hr h => ?_)
  · obtain ⟨d, u, ns, ks, rfl, _⟩ := h
    rfl
  · obtain ⟨d, u, ns, ks, rfl, pl, two, few, q⟩ := h
    have hu := hr.units
    refine ⟨_, pss_cons (ps_setLc (i := 2) (own := [("_law_a", 3), ("_law_b", 4)]) (g := gTup K 2 (gCons (gName 3) (gCons (gName 4) gNil))) (by rfl) scBeside.nd rfl rfl (sw_true rfl rfl rfl (by decide +kernel)) (pi_list (pe_dget (by have z := hu; exact Nat.lt_of_le_of_lt (Nat.add_le_add_left (by decide) _) z) (pv 0) pe_str (fun _ _ => rfl)))
          (blkOk_by (N := nLB) (sc := defScope sBeside) (own := [("_law_a", 3), ("_law_b", 4)]) (by decide +kernel)) (fun _ _ _ _ _ => pg_tup rfl (pgs_cons (pg_name (i := 3) scBeside.nd rfl (Or.inl rfl)) (pgs_cons (pg_name (i := 4) scBeside.nd rfl (Or.inl rfl)) pgs_nil)))
          (fun _ _ _ _ _ => pts_one (pt_cmpR op_eq (pv 3) (pv 1) (nomark _))) (fun _ _ _ _ _ => pv 4))
      (pss_one (ps_ret (pe_callB cr_sortedS (by rfl) mO (by decide +kernel) (pa_cons (pe_op op_cat (pv 2)
        (pe_lc (own := [("_law_a", 3), ("_law_b", 4)]) (g := gTup K 2 (gCons (gName 3) (gCons (gName 4) gNil))) (by rfl) scBeside.nd (pi_list (pe_dget (by have z := hu; exact Nat.lt_of_le_of_lt (Nat.add_le_add_left (by decide) _) z) (pv 0) pe_str (fun _ _ => rfl)))
          (blkOk_by (N := nLB) (sc := defScope sBeside) (own := [("_law_a", 3), ("_law_b", 4)]) (by decide +kernel)) (fun _ _ _ _ _ => pg_tup rfl (pgs_cons (pg_name (i := 3) scBeside.nd rfl (Or.inl rfl)) (pgs_cons (pg_name (i := 4) scBeside.nd rfl (Or.inl rfl)) pgs_nil)))
          (fun _ _ _ _ _ => pts_one (pt_cmpR op_eq (pv 4) (pv 1) (nomark _))) (fun _ _ _ _ _ => pv 3))) pa_nil)))), ?_⟩
    obtain ⟨⟨l1, l2, a1, a2, a3⟩, each⟩ := pl
    refine ⟨_, rfl, d, _, rfl, DGet.k (k := Sum.inr "ties") a1, l2, rfl, ⟨_, SqL.of a3⟩, fun L nL => ?_⟩
    refine lc_list (K := K) (a := l2) (xs := ks.map fun k => V.ref k.1) (fun i Hc => Same H Hc ∧ Hc L = some (.lst ((fromU ((ks.take i).map (·.2)) u).map V.str))) ⟨same_upd nL, upd_same⟩ (fun i Hc _ z => SqL.of (z.1 _ _ a3)) ?_ ?_
    · rintro i y' Hc hy ⟨sc, hL⟩
      rw [List.getElem?_map] at hy
      cases ek : ks[i]? with
      | none => rw [ek] at hy; cases hy
      | some k =>
        rw [ek] at hy
        obtain rfl : V.ref k.1 = y' := Option.some.inj hy
        have mk := List.mem_of_getElem? ek
        obtain ⟨a, b, eab⟩ := two k mk
        have ka := rd_same (each k mk).1 sc
        rw [eab] at ka
        have tk2 : (ks.take (i + 1)) = ks.take i ++ [k] := by
          rw [List.take_add_one, ek]
          rfl
        have fl : (fromU ((ks.take i).map (·.2)) u).length ≤ 31 := by
          unfold fromU
          rw [List.length_map]
          exact Nat.le_trans (List.length_filter_le _ _) (by rw [List.length_map]; exact Nat.le_trans (List.length_take_le' _ _) few)
        have step : fromU ((ks.take (i + 1)).map (·.2)) u = fromU ((ks.take i).map (·.2)) u ++ (if a = u then [b] else []) := by
          unfold fromU
          rw [tk2, List.map_append, List.filter_append, List.map_append]
          by_cases c : a = u <;> simp [eab, fstOf, sndOf, c]
        refine ⟨k.1, [.str a, .str b], rfl, .inl ka, rfl, _, _, rfl, _, _, rfl, rfl, rfl, ?_⟩
        refine ⟨_, rfl, _, rfl, rfl, _, rfl, ?_⟩
        dsimp only
        rw [step]
        by_cases c : a = u
        · rw [if_pos (by rw [c]; exact decide_eq_true rfl), if_pos c]
          refine ⟨_, rfl, _, hL, by rw [List.length_map, sizeLine_eq]; omega, fun b o e => ?_, ?_⟩
          · rw [upd_ne (ne_of_none e nL)]
            exact sc _ _ e
          · rw [upd_same, List.map_append]
            rfl
        · rw [if_neg (by simp [c]), if_neg c, List.append_nil]
          exact ⟨sc, hL⟩
    · rintro Hc ⟨sc, hL⟩
      rw [List.length_map, List.take_length] at hL
      have b3 := sc _ _ a3
      refine ⟨_, rfl, _, rfl, d, _, rfl, DGet.k (k := Sum.inr "ties") (sc _ _ a1), l2, rfl, ⟨_, SqL.of b3⟩, fun L2 nL2 => ?_⟩
      refine lc_list (K := K) (a := l2) (xs := ks.map fun k => V.ref k.1) (fun i Hd => Same Hc Hd ∧ Hd L2 = some (.lst ((toU ((ks.take i).map (·.2)) u).map V.str))) ⟨same_upd nL2, upd_same⟩ (fun i Hd _ z => SqL.of (z.1 _ _ b3)) ?_ ?_
      · rintro i y' Hd hy ⟨sd, hL2⟩
        rw [List.getElem?_map] at hy
        cases ek : ks[i]? with
        | none => rw [ek] at hy; cases hy
        | some k =>
          rw [ek] at hy
          obtain rfl : V.ref k.1 = y' := Option.some.inj hy
          have mk := List.mem_of_getElem? ek
          obtain ⟨a, b, eab⟩ := two k mk
          have ka := rd_same (each k mk).1 (same_trans sc sd)
          rw [eab] at ka
          have tk2 : (ks.take (i + 1)) = ks.take i ++ [k] := by
            rw [List.take_add_one, ek]
            rfl
          have fl : (toU ((ks.take i).map (·.2)) u).length ≤ 31 := by
            unfold toU
            rw [List.length_map]
            exact Nat.le_trans (List.length_filter_le _ _) (by rw [List.length_map]; exact Nat.le_trans (List.length_take_le' _ _) few)
          have step : toU ((ks.take (i + 1)).map (·.2)) u = toU ((ks.take i).map (·.2)) u ++ (if b = u then [a] else []) := by
            unfold toU
            rw [tk2, List.map_append, List.filter_append, List.map_append]
            by_cases c : b = u <;> simp [eab, fstOf, sndOf, c]
          refine ⟨k.1, [.str a, .str b], rfl, .inl ka, rfl, _, _, rfl, _, _, rfl, rfl, rfl, ?_⟩
          refine ⟨_, rfl, _, rfl, rfl, _, rfl, ?_⟩
          dsimp only
          rw [step]
          by_cases c : b = u
          · rw [if_pos (by rw [c]; exact decide_eq_true rfl), if_pos c]
            refine ⟨_, rfl, _, hL2, by rw [List.length_map, sizeLine_eq]; omega, fun b' o e => ?_, ?_⟩
            · rw [upd_ne (ne_of_none e nL2)]
              exact sd _ _ e
            · rw [upd_same, List.map_append]
              rfl
          · rw [if_neg (by simp [c]), if_neg c, List.append_nil]
            exact ⟨sd, hL2⟩
      · rintro Hd ⟨sd, hL2⟩
        rw [List.length_map, List.take_length] at hL2
        have f1 : (fromU (ks.map (·.2)) u).length ≤ 31 := by
          unfold fromU
          rw [List.length_map]
          exact Nat.le_trans (List.length_filter_le _ _) (by rw [List.length_map]; exact few)
        have f2 : (toU (ks.map (·.2)) u).length ≤ 31 := by
          unfold toU
          rw [List.length_map]
          exact Nat.le_trans (List.length_filter_le _ _) (by rw [List.length_map]; exact few)
        refine ⟨L, L2, _, _, rfl, rfl, sd _ _ hL, hL2, by rw [List.length_map, List.length_map, sizeLine_eq]; omega, fun p np => ?_⟩
        have s5 := same_upd (o := .lst ((fromU (ks.map (·.2)) u).map V.str ++ (toU (ks.map (·.2)) u).map V.str)) np
        refine ⟨p, fromU (ks.map (·.2)) u ++ toU (ks.map (·.2)) u, rfl, SqL.of (by rw [upd_same, List.map_append]), by rw [List.length_append]; omega, fun ys l py so nl => ?_⟩
        have S := same_trans (same_trans sc sd) s5
        exact q _ l ys (same_trans S (same_upd nl)) (none_same S nl) py so upd_same
end
end Lx

/-! The law: its names. -/
namespace Lx
open PySem PySem.Spec PyProof.Rows L2 Fw
abbrev sNamesL : Stmt := top 47
def poolN : List Str := ["a", "b", "c", "d", "e", "f", "g", "h", "place", "q", "tie", "zz", "zzzzzzzz", "ab"]
theorem poolN_ok : ∀ x ∈ poolN, nameS x = true := by decide +kernel
theorem poolN_nodup : poolN.Nodup := by decide +kernel
def spNamesL : Sp := fun vs H Q _ => vs = [] ∧ ∀ l, H l = none → Q (.ref l) (upd H l (.lst (poolN.map V.str)))
section
variable {P : Program} {w : World} {K : PySem.W.Frag} {mg : Str → Option Value} {base : Heap} {gg : Bool}
theorem scNamesL : FnScope [] [] (defScope sNamesL) := ⟨rfl, rfl, rfl, by decide +kernel, rfl, by decide +kernel, by decide +kernel⟩
theorem ok_namesL {f : Addr} {fd : FuncData} (F : Fun K "_law_names" "_law_names" sNamesL f fd) : FnV gg P w K mg base CX0 1 f fd [] spNamesL := by
  refine fnV F scNamesL (fun vs H Q E h => ?_) (fun cdv Ar fr s H vs Q E hG hr h => ?_)
  · obtain ⟨rfl, _⟩ := h
    rfl
  · obtain ⟨rfl, q⟩ := h
    refine ⟨_, pss_one (ps_ret (pe_lst (pa_cons pe_str (pa_cons pe_str (pa_cons pe_str (pa_cons pe_str (pa_cons pe_str (pa_cons pe_str (pa_cons pe_str (pa_cons pe_str (pa_cons pe_str (pa_cons pe_str (pa_cons pe_str (pa_cons pe_str (pa_cons pe_str (pa_cons pe_str pa_nil)))))))))))))))), ?_⟩
    exact ⟨by show 14 ≤ sizeLine; decide, fun l nl => q l nl⟩
end
end Lx

/-! The law: a plain web with other names. -/
namespace Lx
open PySem PySem.Spec PyProof.Rows L2 Fw
abbrev sLRen : Stmt := top 49
def spLRen : Sp := fun vs H Q _ => ∃ (d m : Addr) (ns : List Str) (ks : List (Addr × List Str)) (kvs : List (L2.Key × V)) (g : Str → Str), vs = [.ref d, .ref m] ∧ PlainAt H d ns ks ∧ H m = some (.dK kvs) ∧ (∀ k ∈ ks, ∃ x y, k.2 = [x, y] ∧ x ∈ ns ∧ y ∈ ns) ∧
  (∀ z ∈ ns, valV kvs (Sum.inr z) = some (.str (g z)) ∧ (g z).length ≤ 1000) ∧ ns.length ≤ 60 ∧ ks.length ≤ 60 ∧
  ∀ H' d' ns' ks', Same H H' → H d' = none → AscN ns' → (∀ z, z ∈ ns' ↔ z ∈ ns.map g) → AscT (ks'.map (·.2)) → (∀ z, z ∈ ks'.map (·.2) ↔ z ∈ tiesAs g (ks.map (·.2))) → (∀ k ∈ ks', k.2 ≠ []) → PlainAt H' d' ns' ks' → Q (.ref d') H'
abbrev nLR : List Str := ["_law_plain_here", "_law_names_here", "_law_ties", "_law_a", "_law_b", "_law_place"]
section
variable {P : Program} {w : World} {K : PySem.W.Frag} {mg : Str → Option Value} {base : Heap} {gg : Bool}
theorem scLRen : FnScope nLR ["_law_plain_here", "_law_names_here"] (defScope sLRen) := ⟨rfl, rfl, rfl, by decide +kernel, rfl, by decide +kernel, by decide +kernel⟩
theorem ok_lren {f fP fT : Addr} {fd dP dT : FuncData} (F : Fun K "_law_renamed" "_law_renamed" sLRen f fd) (mL : mg "list" = none) (mS : mg "set" = none) (mO : mg "sorted" = none) (mMin : mg "min" = none) (mMax : mg "max" = none)
    (mT : mg "_law_tie" = some (.ref fT)) (FT : Fun K "_law_tie" "_law_tie" sLTie fT dT) (bT : Binds K dT ["_law_a", "_law_b"] []) (mP : mg "_law_plain" = some (.ref fP)) (FP : Fun K "_law_plain" "_law_plain" sPlain fP dP) (bP : Binds K dP ["_law_places", "_law_ties"] []) :
    FnV gg P w K mg base CX0 3 f fd ["_law_plain_here", "_law_names_here"] spLRen := by
  have GP : FnV gg P w K mg base CX0 2 fP dP ["_law_places", "_law_ties"] (spPlain K) := ok_plain FP mL mS mO mMin mMax mT FT bT
  refine fnV F scLRen (fun vs H Q E h => ?_) (fun cdv Ar fr s H vs Q E hG hr h => ?_)
  · obtain ⟨d, m, ns, ks, kvs, g, rfl, _⟩ := h
    rfl
  · obtain ⟨d, m, ns, ks, kvs, g, rfl, pl, hm, two, val, fewN, fewT, q⟩ := h
    have hu := hr.units
    refine ⟨_, pss_cons (ps_setLc (i := 2) (own := [("_law_a", 3), ("_law_b", 4)]) (g := gTup K 2 (gCons (gName 3) (gCons (gName 4) gNil))) (by rfl) scLRen.nd rfl rfl (sw_true rfl rfl rfl (by decide +kernel)) (pi_list (pe_dget (by have z := hu; exact Nat.lt_of_le_of_lt (Nat.add_le_add_left (by decide) _) z) (pv 0) pe_str (fun _ _ => rfl)))
          (blkOk_by (N := nLR) (sc := defScope sLRen) (own := [("_law_a", 3), ("_law_b", 4)]) (by decide +kernel)) (fun _ _ _ _ _ => pg_tup rfl (pgs_cons (pg_name (i := 3) scLRen.nd rfl (Or.inl rfl)) (pgs_cons (pg_name (i := 4) scLRen.nd rfl (Or.inl rfl)) pgs_nil))) (fun _ _ _ _ _ => pts_nil)
          (fun _ _ _ _ _ => pe_tup (pa_cons (pe_dget (by have z := hu; exact Nat.lt_of_le_of_lt (Nat.add_le_add_left (by decide) _) z) (pv 1) (pv 3) (fun _ _ => rfl)) (pa_cons (pe_dget (by have z := hu; exact Nat.lt_of_le_of_lt (Nat.add_le_add_left (by decide) _) z) (pv 1) (pv 4) (fun _ _ => rfl)) pa_nil))))
      (pss_one (ps_ret (pe_callV (E := fun _ _ _ _ => False) hG GP hr (by rfl) mP FP.kp bP .nil (fun _ => passAt0) (pa_cons
        (pe_lc (own := [("_law_place", 5)]) (g := gName 5) (by rfl) scLRen.nd (pi_list (pe_dget (by have z := hu; exact Nat.lt_of_le_of_lt (Nat.add_le_add_left (by decide) _) z) (pv 0) pe_str (fun _ _ => rfl)))
          (blkOk_by (N := nLR) (sc := defScope sLRen) (own := [("_law_place", 5)]) (by decide +kernel)) (fun _ _ _ _ _ => pg_name (i := 5) scLRen.nd rfl (Or.inl rfl)) (fun _ _ _ _ _ => pts_nil)
          (fun _ _ _ _ _ => pe_dget (by have z := hu; exact Nat.lt_of_le_of_lt (Nat.add_le_add_left (by decide) _) z) (pv 1) (pv 5) (fun _ _ => rfl))) (pa_cons (pv 2) pa_nil))))), ?_⟩
    obtain ⟨⟨l1, l2, a1, a2, a3⟩, each⟩ := pl
    have getd : ∀ {Hc : Hp} {p : Str}, Same H Hc → p ∈ ns → DGet Hc m (.str p) (some (.str (g p))) := fun {Hc p} sc mp => by
      have z := DGet.k (k := Sum.inr p) (sc _ _ hm)
      rw [(val p mp).1] at z
      exact z
    refine ⟨_, rfl, d, _, rfl, DGet.k (k := Sum.inr "ties") a1, l2, rfl, ⟨_, SqL.of a3⟩, fun L nL => ?_⟩
    refine lc_list (K := K) (a := l2) (xs := ks.map fun k => V.ref k.1) (fun i Hc => Same H Hc ∧ ∃ zs : List (Addr × List Str), Hc L = some (.lst (zs.map fun k => V.ref k.1)) ∧ zs.map (·.2) = ((ks.take i).map (·.2)).map (·.map g) ∧ Each Hc zs)
      ⟨same_upd nL, [], upd_same, rfl, fun k m => absurd m (by simp)⟩ (fun i Hc _ z => SqL.of (z.1 _ _ a3)) ?_ ?_
    · rintro i y' Hc hy ⟨sc, zs, hL, ez, eachz⟩
      rw [List.getElem?_map] at hy
      cases ek : ks[i]? with
      | none => rw [ek] at hy; cases hy
      | some k =>
        rw [ek] at hy
        obtain rfl : V.ref k.1 = y' := Option.some.inj hy
        have mk := List.mem_of_getElem? ek
        obtain ⟨a, b, eab, ma, mb⟩ := two k mk
        have ka := rd_same (each k mk).1 sc
        rw [eab] at ka
        have tk2 : (ks.take (i + 1)) = ks.take i ++ [k] := by
          rw [List.take_add_one, ek]
          rfl
        refine ⟨k.1, [.str a, .str b], rfl, .inl ka, rfl, _, _, rfl, _, _, rfl, rfl, rfl, ?_⟩
        refine ⟨_, rfl, _, rfl, m, _, rfl, getd sc ma, _, rfl, _, rfl, m, _, rfl, getd sc mb, by show 2 ≤ sizeLine; decide, fun c nc => ?_⟩
        have sr := same_upd (o := .tup [V.str (g a), V.str (g b)]) nc
        have hr5 : (upd Hc c (.tup [V.str (g a), V.str (g b)])) c = some (.tup (([g a, g b]).map V.str)) := upd_same
        generalize upd Hc c (.tup [V.str (g a), V.str (g b)]) = H5 at sr hr5 ⊢
        have hL5 := sr _ _ hL
        have lz : zs.length ≤ 60 := by
          have z1 := congrArg List.length ez
          rw [List.length_map, List.length_map, List.length_map, List.length_take] at z1
          omega
        have keep : ∀ b o, b ≠ L → H5 b = some o → (upd H5 L (.lst ((zs.map fun k => V.ref k.1) ++ [V.ref c]))) b = some o := fun b o n e => by
          rw [upd_ne n]
          exact e
        have rdk : ∀ {b : Addr} {xs : List V}, Rd H5 b (.tup xs) → Rd (upd H5 L (.lst ((zs.map fun k => V.ref k.1) ++ [V.ref c]))) b (.tup xs) := fun {b xs} h => by
          rcases h with h | ⟨o, h⟩
          · exact .inl (keep b _ (fun z => by rw [z, hL5] at h; cases h) h)
          · exact .inr ⟨o, keep b _ (fun z => by rw [z, hL5] at h; cases h) h⟩
        refine ⟨_, hL5, by rw [List.length_map, sizeLine_eq]; omega, fun b o e => ?_, zs ++ [(c, [g a, g b])], ?_, ?_, fun k' m' => ?_⟩
        · exact keep b o (ne_of_none e nL) (sr _ _ (sc _ _ e))
        · rw [upd_same, List.map_append]
          rfl
        · rw [tk2, List.map_append, List.map_append, List.map_append, ez]
          have e9 : k.2.map g = [g a, g b] := by
            rw [eab]
            rfl
          show _ ++ [[g a, g b]] = _ ++ [k.2.map g]
          rw [e9]
        · rcases List.mem_append.mp m' with m' | m'
          · exact ⟨rdk (rd_same (eachz k' m').1 sr), (eachz k' m').2⟩
          · obtain rfl : k' = (c, [g a, g b]) := by simpa using m'
            refine ⟨rdk (.inl hr5), fun w' mw => ?_, by show 2 ≤ 1000; decide⟩
            rcases (show w' = g a ∨ w' = g b by simpa using mw) with e | e
            · rw [e]; exact (val a ma).2
            · rw [e]; exact (val b mb).2
    · rintro Hc ⟨sc, zs, hL, ez, eachz⟩
      rw [List.length_map, List.take_length] at ez
      have b2 := sc _ _ a2
      refine ⟨_, rfl, d, _, rfl, DGet.k (k := Sum.inr "places") (sc _ _ a1), l1, rfl, ⟨_, SqL.of b2⟩, fun L2 nL2 => ?_⟩
      refine lc_list (K := K) (a := l1) (xs := ns.map V.str) (fun i Hd => Same Hc Hd ∧ Hd L2 = some (.lst (((ns.map g).take i).map V.str))) ⟨same_upd nL2, upd_same⟩ (fun i Hd _ z => SqL.of (z.1 _ _ b2)) ?_ ?_
      · rintro i y' Hd hy ⟨sd, hL2⟩
        rw [List.getElem?_map] at hy
        cases en : ns[i]? with
        | none => rw [en] at hy; cases hy
        | some z =>
          rw [en] at hy
          obtain rfl : V.str z = y' := Option.some.inj hy
          have li : i < ns.length := (List.getElem?_eq_some_iff.mp en).1
          refine ⟨rfl, _, rfl, _, rfl, m, _, rfl, getd (same_trans sc sd) (List.mem_of_getElem? en), _, hL2, ?_, fun b o e => ?_, ?_⟩
          · rw [List.length_map, List.length_take, List.length_map, sizeLine_eq]
            omega
          · rw [upd_ne (ne_of_none e nL2)]
            exact sd _ _ e
          · rw [upd_same]
            refine congrArg (fun l => some (HO.lst l)) ?_
            rw [take_one en, List.map_append]
            rfl
      · rintro Hd ⟨sd, hL2⟩
        rw [List.take_of_length_le (by simp)] at hL2
        have S := same_trans sc sd
        have lz : zs.length = ks.length := by
          have z1 := congrArg List.length ez
          rwa [List.length_map, List.length_map, List.length_map] at z1
        have zk : ∀ k ∈ zs, ∃ k' ∈ ks, ∃ a b, k'.2 = [a, b] ∧ a ∈ ns ∧ b ∈ ns ∧ k.2 = [g a, g b] := fun k mk => by
          have m1 : k.2 ∈ zs.map (·.2) := List.mem_map.mpr ⟨k, mk, rfl⟩
          rw [ez] at m1
          obtain ⟨j, mj, ej⟩ := List.mem_map.mp m1
          obtain ⟨k', mk', rfl⟩ := List.mem_map.mp mj
          obtain ⟨a, b, eab, ma, mb⟩ := two k' mk'
          refine ⟨k', mk', a, b, eab, ma, mb, ?_⟩
          rw [← ej, eab]
          rfl
        have inz : ∀ k ∈ zs, ∀ z ∈ k.2, z ∈ ns.map g := fun k mk z mz => by
          obtain ⟨k', _, a, b, _, ma, mb, e⟩ := zk k mk
          rw [e] at mz
          rcases (show z = g a ∨ z = g b by simpa using mz) with e | e
          · rw [e]; exact List.mem_map.mpr ⟨a, ma, rfl⟩
          · rw [e]; exact List.mem_map.mpr ⟨b, mb, rfl⟩
        refine ⟨_, rfl, L2, L, ns.map g, ns.map g, zs, rfl, SqL.of hL2, SqL.of (sd _ _ hL), eachz.same sd, fun k mk => ?_, by rw [List.length_map]; exact fewN, fun z mz => mz, inz, fun z mz => ?_, by rw [List.length_map]; omega, by omega, fun H' d' ns' ks' s' nd as mn at' mt ne pl' => ?_⟩
        · obtain ⟨_, _, a, b, _, _, _, e⟩ := zk k mk
          exact ⟨g a, g b, e⟩
        · obtain ⟨y, my, rfl⟩ := List.mem_map.mp mz
          exact (val y my).2
        · refine q H' d' ns' ks' (same_trans S s') (none_same S nd) as (fun z => (mn z).trans ⟨fun h => ?_, fun h => List.mem_append_left _ h⟩) at' (fun z => (mt z).trans ?_) ne pl'
          · rcases List.mem_append.mp h with h | h
            · exact h
            · obtain ⟨k, mk, mz⟩ := List.mem_flatMap.mp h
              exact inz k mk z mz
          · have e7 : (zs.map fun k => asTie k.2) = tiesAs g (ks.map (·.2)) := by
              have e8 : (zs.map fun k => asTie k.2) = (zs.map (·.2)).map asTie := by rw [List.map_map]; rfl
              rw [e8, ez]
              unfold tiesAs
              rw [List.map_map, List.map_map, List.map_map]
              refine List.map_congr_left fun k mk => ?_
              obtain ⟨a, b, eab, _, _⟩ := two k mk
              show asTie (k.2.map g) = pairT (g (k.2.getD 0 Str.empty)) (g (k.2.getD 1 Str.empty))
              rw [eab]
              rfl
            rw [e7]
end
end Lx

/-! The law: a plain web, if there is such a web. -/
namespace Lx
open PySem PySem.Spec PyProof.Rows L2 Fw
abbrev sChecked : Stmt := top 54
def fits (ns : List Str) (ks : List (Addr × List Str)) : Bool := decide (1 ≤ ns.length) && decide (ns.length ≤ 12) && decide (ks.length ≤ 40)
def spChecked (K : PySem.W.Frag) : Sp := fun vs H Q E => spPlain K vs H (fun v H' => ∃ d ns ks, v = .ref d ∧ PlainAt H' d ns ks ∧ (fits ns ks = true → Q (.ref d) H') ∧ (fits ns ks = false → Q (.str "web") H')) E
abbrev nLC : List Str := ["_law_places", "_law_ties", "_law_plain_here"]
section
variable {P : Program} {w : World} {K : PySem.W.Frag} {mg : Str → Option Value} {base : Heap} {gg : Bool}
theorem scChecked : FnScope nLC ["_law_places", "_law_ties"] (defScope sChecked) := ⟨rfl, rfl, rfl, by decide +kernel, rfl, by decide +kernel, by decide +kernel⟩
theorem ok_checked {f fP fT : Addr} {fd dP dT : FuncData} (F : Fun K "_law_checked" "_law_checked" sChecked f fd) (mLen : mg "len" = none) (mL : mg "list" = none) (mS : mg "set" = none) (mO : mg "sorted" = none) (mMin : mg "min" = none) (mMax : mg "max" = none)
    (mT : mg "_law_tie" = some (.ref fT)) (FT : Fun K "_law_tie" "_law_tie" sLTie fT dT) (bT : Binds K dT ["_law_a", "_law_b"] []) (mP : mg "_law_plain" = some (.ref fP)) (FP : Fun K "_law_plain" "_law_plain" sPlain fP dP) (bP : Binds K dP ["_law_places", "_law_ties"] []) :
    FnV gg P w K mg base CX0 3 f fd ["_law_places", "_law_ties"] (spChecked K) := by
  have GP : FnV gg P w K mg base CX0 2 fP dP ["_law_places", "_law_ties"] (spPlain K) := ok_plain FP mL mS mO mMin mMax mT FT bT
  refine fnV F scChecked (fun vs H Q E h => ?_) (fun cdv Ar fr s H vs Q E hG hr h => ?_)
  · obtain ⟨p, r, ns, pool, ks, rfl, _⟩ := h
    rfl
  · have hu := hr.units
    obtain ⟨p, r, ns, pool, ks, rfl, h1, h2, h3, h4, h5, h6, h7, h8, h9, h10, q⟩ := h
    refine ⟨_, pss_cons (ps_set (i := 2) scChecked.nd rfl (Or.inl rfl) (pe_callV (E := fun _ _ _ _ => False) hG GP hr (by rfl) mP FP.kp bP .nil (fun _ => passAt0) (pa_cons (pv 0) (pa_cons (pv 1) pa_nil))))
      (pss_one (ps_ret (pe_ifExp (PW.pt (pw_and (pt_chain op_le op_le pe_int (pe_callB call_len_seq (by rfl) mLen PySem.boot_len (pa_cons (pe_dget (by have z := hu; exact Nat.lt_of_le_of_lt (Nat.add_le_add_left (by decide) _) z) (pv 2) pe_str (fun _ _ => rfl)) pa_nil)) pe_int)
        (pw_and1 (pt_cmpR op_le (pe_callB call_len_seq (by rfl) mLen PySem.boot_len (pa_cons (pe_dget (by have z := hu; exact Nat.lt_of_le_of_lt (Nat.add_le_add_left (by decide) _) z) (pv 2) pe_str (fun _ _ => rfl)) pa_nil)) pe_int (nomark _))))) (pv 2) pe_str))), ?_⟩
    refine ⟨_, rfl, _, rfl, p, r, ns, pool, ks, rfl, h1, h2, h3, h4, h5, h6, h7, h8, h9, h10, fun H' d ns' ks' s' nd as mn at' mt ne pl => ?_⟩
    obtain ⟨d0, ns0, ks0, ed, pl0, yes, no⟩ := q H' d ns' ks' s' nd as mn at' mt ne pl
    cases ed
    obtain ⟨⟨l1, l2, a1, a2, a3⟩, each⟩ := pl0
    refine ⟨_, rfl, d, _, rfl, DGet.k (k := Sum.inr "places") a1, l1, _, rfl, .inl (SqL.of a2), 1, _, rfl, rfl, _, rfl, ?_⟩
    have ln : ((ns0.map V.str).length : Int) = (ns0.length : Int) := by rw [List.length_map]
    have lk : ((ks0.map fun k => V.ref k.1).length : Int) = (ks0.length : Int) := by rw [List.length_map]
    try dsimp only
    by_cases c1 : 1 ≤ ns0.length
    · rw [if_pos (decide_eq_true (by rw [ln]; omega))]
      refine ⟨_, _, rfl, rfl, _, rfl, ?_⟩
      try dsimp only
      by_cases c2 : ns0.length ≤ 12
      · rw [if_pos (decide_eq_true (by rw [ln]; omega))]
        refine ⟨_, rfl, d, _, rfl, DGet.k (k := Sum.inr "ties") a1, l2, _, rfl, .inl (SqL.of a3), _, _, rfl, rfl, _, rfl, ?_⟩
        dsimp only
        by_cases c3 : ks0.length ≤ 40
        · rw [if_pos (decide_eq_true (by rw [lk]; omega))]
          exact ⟨_, rfl, yes (by unfold fits; rw [decide_eq_true c1, decide_eq_true c2, decide_eq_true c3]; rfl)⟩
        · rw [if_neg (by rw [decide_eq_true_eq, lk]; omega)]
          exact no (by unfold fits; rw [decide_eq_false c3, Bool.and_false])
      · rw [if_neg (by rw [decide_eq_true_eq, ln]; omega)]
        exact no (by unfold fits; rw [decide_eq_false c2, Bool.and_false, Bool.false_and])
    · rw [if_neg (by rw [decide_eq_true_eq, ln]; omega)]
      refine ⟨_, rfl, ?_⟩
      try dsimp only
      rw [if_neg (by decide)]
      exact no (by unfold fits; rw [decide_eq_false c1, Bool.false_and, Bool.false_and])
end
end Lx

/-! The law: what is kept of a plain web. -/
namespace Lx
open PySem PySem.Spec PyProof.Rows L2 Fw
abbrev sKept : Stmt := top 55
def outG (gs k : List Str) : Bool := k.all fun z => !inV (.str z) (gs.map V.str)
/-- what the plain web of these may be, if there is one -/
def CheckQ (Q : VK) (H : Hp) (ns : List Str) (ts : List (List Str)) : Prop := ∀ H' d ns' ks', Same H H' → H d = none → AscN ns' → (∀ z, z ∈ ns' ↔ z ∈ ns ∨ ∃ k ∈ ts, z ∈ k) → AscT (ks'.map (·.2)) → (∀ z, z ∈ ks'.map (·.2) ↔ ∃ k ∈ ts, z = asTie k) → (∀ k ∈ ks', k.2 ≠ []) → PlainAt H' d ns' ks' → (fits ns' ks' = true → Q (.ref d) H') ∧ (fits ns' ks' = false → Q (.str "web") H')
theorem CheckQ.same {Q : VK} {H H1 : Hp} {ns : List Str} {ts : List (List Str)} (q : CheckQ Q H ns ts) (s : Same H H1) : CheckQ Q H1 ns ts := fun H' d ns' ks' s' n a b c e f g => q H' d ns' ks' (same_trans s s') (none_same s n) a b c e f g
theorem checked_of {K : PySem.W.Frag} {H : Hp} {p r : Addr} {ns pool : List Str} {ks : List (Addr × List Str)} {Q : VK} {E : XK} (h1 : SqL K H p (ns.map V.str)) (h2 : SqL K H r (ks.map fun k => V.ref k.1)) (h3 : Each H ks) (h4 : ∀ k ∈ ks, ∃ x y, k.2 = [x, y]) (h5 : pool.length ≤ 60) (h6 : ∀ z ∈ ns, z ∈ pool)
    (h7 : ∀ k ∈ ks, ∀ z ∈ k.2, z ∈ pool) (h8 : ∀ z ∈ pool, z.length ≤ 1000) (h9 : ns.length ≤ 100) (h10 : ks.length ≤ 62) (q : CheckQ Q H ns (ks.map (·.2))) : spChecked K [.ref p, .ref r] H Q E :=
  ⟨p, r, ns, pool, ks, rfl, h1, h2, h3, h4, h5, h6, h7, h8, h9, h10, fun H' d ns' ks' s' nd as mn at' mt ne pl => by
    have m1 : ∀ z, z ∈ ns' ↔ z ∈ ns ∨ ∃ k ∈ ks.map (·.2), z ∈ k := fun z => by
      refine (mn z).trans ⟨fun h => ?_, fun h => ?_⟩
      · rcases List.mem_append.mp h with h | h
        · exact .inl h
        · obtain ⟨k, mk, mz⟩ := List.mem_flatMap.mp h
          exact .inr ⟨k.2, List.mem_map.mpr ⟨k, mk, rfl⟩, mz⟩
      · rcases h with h | ⟨j, mj, mz⟩
        · exact List.mem_append_left _ h
        · obtain ⟨k, mk, rfl⟩ := List.mem_map.mp mj
          exact List.mem_append_right _ (List.mem_flatMap.mpr ⟨k, mk, mz⟩)
    have m2 : ∀ z, z ∈ ks'.map (·.2) ↔ ∃ k ∈ ks.map (·.2), z = asTie k := fun z => by
      refine (mt z).trans ⟨fun h => ?_, fun h => ?_⟩
      · obtain ⟨k, mk, rfl⟩ := List.mem_map.mp h
        exact ⟨k.2, List.mem_map.mpr ⟨k, mk, rfl⟩, rfl⟩
      · obtain ⟨j, mj, rfl⟩ := h
        obtain ⟨k, mk, rfl⟩ := List.mem_map.mp mj
        exact List.mem_map.mpr ⟨k, mk, rfl⟩
    obtain ⟨a, b⟩ := q H' d ns' ks' s' nd as m1 at' m2 ne pl
    exact ⟨d, ns', ks', rfl, pl, a, b⟩⟩
def spKept : Sp := fun vs H Q _ => ∃ (d gt : Addr) (ns gs : List Str) (ks : List (Addr × List Str)), vs = [.ref d, .ref gt] ∧ PlainAt H d ns ks ∧ Rd H gt (.tup (gs.map V.str)) ∧ (∀ k ∈ ks, ∃ x y, k.2 = [x, y] ∧ x ∈ ns ∧ y ∈ ns) ∧ (∀ z ∈ ns, z.length ≤ 1000) ∧ ns.length ≤ 60 ∧ ks.length ≤ 62 ∧
  CheckQ Q H (lessN ns gs) ((ks.map (·.2)).filter (outG gs))
abbrev nLK : List Str := ["_law_plain_here", "_law_gone", "_law_ties", "_law_tie_here", "_law_place"]
section
variable {P : Program} {w : World} {K : PySem.W.Frag} {mg : Str → Option Value} {base : Heap} {gg : Bool}
theorem scKept : FnScope nLK ["_law_plain_here", "_law_gone"] (defScope sKept) := ⟨rfl, rfl, rfl, by decide +kernel, rfl, by decide +kernel, by decide +kernel⟩
theorem ok_kept {f fP fT fC : Addr} {fd dP dT dC : FuncData} (F : Fun K "_law_kept" "_law_kept" sKept f fd) (mLen : mg "len" = none) (mL : mg "list" = none) (mS : mg "set" = none) (mO : mg "sorted" = none) (mMin : mg "min" = none) (mMax : mg "max" = none)
    (mT : mg "_law_tie" = some (.ref fT)) (FT : Fun K "_law_tie" "_law_tie" sLTie fT dT) (bT : Binds K dT ["_law_a", "_law_b"] []) (mP : mg "_law_plain" = some (.ref fP)) (FP : Fun K "_law_plain" "_law_plain" sPlain fP dP) (bP : Binds K dP ["_law_places", "_law_ties"] [])
    (mC : mg "_law_checked" = some (.ref fC)) (FC : Fun K "_law_checked" "_law_checked" sChecked fC dC) (bC : Binds K dC ["_law_places", "_law_ties"] []) : FnV gg P w K mg base CX0 4 f fd ["_law_plain_here", "_law_gone"] spKept := by
  have GC : FnV gg P w K mg base CX0 3 fC dC ["_law_places", "_law_ties"] (spChecked K) := ok_checked FC mLen mL mS mO mMin mMax mT FT bT mP FP bP
  refine fnV F scKept (fun vs H Q E h => ?_) (fun cdv Ar fr s H vs Q E hG hr h => ?_)
  · obtain ⟨d, gt, ns, gs, ks, rfl, _⟩ := h
    rfl
  · obtain ⟨d, gt, ns, gs, ks, rfl, pl, hg, two, sm, fewN, fewT, q⟩ := h
    have hu := hr.units
    refine ⟨_, pss_cons (ps_setLc (i := 2) (own := [("_law_tie_here", 3)]) (g := gName 3) (by rfl) scKept.nd rfl rfl (sw_true rfl rfl rfl (by decide +kernel)) (pi_list (pe_dget (by have z := hu; exact Nat.lt_of_le_of_lt (Nat.add_le_add_left (by decide) _) z) (pv 0) pe_str (fun _ _ => rfl)))
          (blkOk_by (N := nLK) (sc := defScope sKept) (own := [("_law_tie_here", 3)]) (by decide +kernel)) (fun _ _ _ _ _ => pg_name (i := 3) scKept.nd rfl (Or.inl rfl))
          (fun _ _ _ _ _ => pts_one (PW.pt (pw_and (pt_cmpR (op_notInK (K := K) rfl) (pe_ix (ix_tupK (K := K) rfl) (pv 3) pe_int (fun _ _ => rfl)) (pv 1) (by rfl)) (pw_and1 (pt_cmpR (op_notInK (K := K) rfl) (pe_ix (ix_tupK (K := K) rfl) (pv 3) pe_int (fun _ _ => rfl)) (pv 1) (by rfl)))))) (fun _ _ _ _ _ => pv 3))
      (pss_one (ps_ret (pe_callV (E := fun _ _ _ _ => False) hG GC hr (by rfl) mC FC.kp bC .nil (fun _ => passAt0) (pa_cons
        (pe_lc (own := [("_law_place", 4)]) (g := gName 4) (by rfl) scKept.nd (pi_list (pe_dget (by have z := hu; exact Nat.lt_of_le_of_lt (Nat.add_le_add_left (by decide) _) z) (pv 0) pe_str (fun _ _ => rfl)))
          (blkOk_by (N := nLK) (sc := defScope sKept) (own := [("_law_place", 4)]) (by decide +kernel)) (fun _ _ _ _ _ => pg_name (i := 4) scKept.nd rfl (Or.inl rfl))
          (fun _ _ _ _ _ => pts_one (pt_cmpR (op_notInK (K := K) rfl) (pv 4) (pv 1) (by rfl))) (fun _ _ _ _ _ => pv 4)) (pa_cons (pv 2) pa_nil))))), ?_⟩
    obtain ⟨⟨l1, l2, a1, a2, a3⟩, each⟩ := pl
    refine ⟨_, rfl, d, _, rfl, DGet.k (k := Sum.inr "ties") a1, l2, rfl, ⟨_, SqL.of a3⟩, fun L nL => ?_⟩
    refine lc_list (K := K) (a := l2) (xs := ks.map fun k => V.ref k.1) (fun i Hc => Same H Hc ∧ Hc L = some (.lst (((ks.take i).filter fun k => outG gs k.2).map fun k => V.ref k.1))) ⟨same_upd nL, upd_same⟩ (fun i Hc _ z => SqL.of (z.1 _ _ a3)) ?_ ?_
    · rintro i y' Hc hy ⟨sc, hL⟩
      rw [List.getElem?_map] at hy
      cases ek : ks[i]? with
      | none => rw [ek] at hy; cases hy
      | some k =>
        rw [ek] at hy
        obtain rfl : V.ref k.1 = y' := Option.some.inj hy
        have mk := List.mem_of_getElem? ek
        have tk1 : (ks.take (i + 1)) = ks.take i ++ [k] := by
          rw [List.take_add_one, ek]
          rfl
        obtain ⟨p, r, epq, mp, mq⟩ := two k mk
        have ka := rd_same (each k mk).1 sc
        have hg1 := rd_same hg sc
        have eb : outG gs k.2 = (!inV (.str p) (gs.map V.str) && !inV (.str r) (gs.map V.str)) := by
          rw [epq]
          show (!inV (.str p) (gs.map V.str) && (!inV (.str r) (gs.map V.str) && true)) = _
          rw [Bool.and_true]
        rw [epq] at ka
        have yes : outG gs k.2 = true → ∃ acc, Hc L = some (.lst acc) ∧ acc.length < sizeLine ∧ Same H (upd Hc L (.lst (acc ++ [V.ref k.1]))) ∧ (upd Hc L (.lst (acc ++ [V.ref k.1]))) L = some (.lst (((ks.take (i + 1)).filter fun k => outG gs k.2).map fun k => V.ref k.1)) := fun c => by
          refine ⟨_, hL, ?_, fun b o e => ?_, ?_⟩
          · rw [List.length_map]
            have y := Nat.le_trans (List.length_filter_le (fun k => outG gs k.2) (ks.take i)) (List.length_take_le' i ks)
            exact Nat.lt_of_le_of_lt (Nat.le_trans y fewT) (by decide)
          · rw [upd_ne (ne_of_none e nL)]
            exact sc _ _ e
          · rw [upd_same, tk1, List.filter_append, show [k].filter (fun k => outG gs k.2) = [k] by simp [c], List.map_append]
            rfl
        have no : outG gs k.2 = false → Same H Hc ∧ Hc L = some (.lst (((ks.take (i + 1)).filter fun k => outG gs k.2).map fun k => V.ref k.1)) := fun c => by
          rw [tk1, List.filter_append, show [k].filter (fun k => outG gs k.2) = [] by simp [c], List.append_nil]
          exact ⟨sc, hL⟩
        refine ⟨rfl, _, rfl, k.1, _, 0, .str p, rfl, rfl, .inl ka, by rfl, _, rfl, gt, _, rfl, .inr (.inl hg1), rfl, strs_flat gs, _, rfl, ?_⟩
        dsimp only
        by_cases c1 : inV (.str p) (gs.map V.str) = true
        · rw [if_neg (by rw [if_pos rfl, c1]; decide)]
          exact no (by rw [eb, c1]; rfl)
        · rw [if_pos (by rw [if_pos rfl, Bool.eq_false_iff.mpr c1]; rfl)]
          refine ⟨_, rfl, k.1, _, 1, .str r, rfl, rfl, .inl ka, by rfl, _, rfl, gt, _, rfl, .inr (.inl hg1), rfl, strs_flat gs, _, rfl, ?_⟩
          dsimp only
          by_cases c2 : inV (.str r) (gs.map V.str) = true
          · rw [if_neg (by rw [if_pos rfl, c2]; decide)]
            exact no (by rw [eb, c2]; simp)
          · rw [if_pos (by rw [if_pos rfl, Bool.eq_false_iff.mpr c2]; rfl)]
            exact ⟨_, rfl, yes (by rw [eb, Bool.eq_false_iff.mpr c1, Bool.eq_false_iff.mpr c2]; rfl)⟩
    · rintro Hc ⟨sc, hL⟩
      rw [List.length_map, List.take_length] at hL
      have b2 := sc _ _ a2
      refine ⟨_, rfl, d, _, rfl, DGet.k (k := Sum.inr "places") (sc _ _ a1), l1, rfl, ⟨_, SqL.of b2⟩, fun L2 nL2 => ?_⟩
      refine lc_list (K := K) (a := l1) (xs := ns.map V.str) (fun i Hd => Same Hc Hd ∧ Hd L2 = some (.lst ((lessN (ns.take i) gs).map V.str))) ⟨same_upd nL2, upd_same⟩ (fun i Hd _ z => SqL.of (z.1 _ _ b2)) ?_ ?_
      · rintro i y Hd hy ⟨sd, hL2⟩
        rw [List.getElem?_map] at hy
        cases ez : ns[i]? with
        | none => rw [ez] at hy; cases hy
        | some z =>
          rw [ez] at hy
          obtain rfl : V.str z = y := Option.some.inj hy
          have tk1 : (ns.take (i + 1)) = ns.take i ++ [z] := by
            rw [List.take_add_one, ez]
            rfl
          refine ⟨rfl, _, rfl, _, rfl, gt, _, rfl, .inr (.inl (rd_same hg (same_trans sc sd))), rfl, strs_flat gs, _, rfl, ?_⟩
          dsimp only
          by_cases c : inV (.str z) (gs.map V.str) = true
          · rw [if_neg (by rw [if_pos rfl, c]; decide)]
            have e : lessN (ns.take (i + 1)) gs = lessN (ns.take i) gs := by
              unfold lessN
              rw [tk1, List.filter_append, show [z].filter (fun z => !inV (.str z) (gs.map V.str)) = [] by simp [c], List.append_nil]
            rw [e]
            exact ⟨sd, hL2⟩
          · rw [if_pos (by rw [if_pos rfl, Bool.eq_false_iff.mpr c]; rfl)]
            refine ⟨_, rfl, _, hL2, ?_, fun b o e => ?_, ?_⟩
            · rw [List.length_map]
              have y := Nat.le_trans (List.length_filter_le (fun z => !inV (.str z) (gs.map V.str)) (ns.take i)) (List.length_take_le' i ns)
              exact Nat.lt_of_le_of_lt (Nat.le_trans y fewN) (by decide)
            · rw [upd_ne (ne_of_none e nL2)]
              exact sd _ _ e
            · rw [upd_same]
              refine congrArg (fun l => some (HO.lst l)) ?_
              unfold lessN
              rw [tk1, List.filter_append, show [z].filter (fun z => !inV (.str z) (gs.map V.str)) = [z] by simp [c], List.map_append]
              rfl
      · rintro Hd ⟨sd, hL2⟩
        rw [List.length_map, List.take_length] at hL2
        have S := same_trans sc sd
        have mz : ∀ k ∈ ks.filter (fun k => outG gs k.2), k ∈ ks := fun k m => (List.mem_filter.mp m).1
        refine ⟨_, rfl, checked_of (pool := ns) (ks := ks.filter fun k => outG gs k.2) (SqL.of hL2) (SqL.of (sd _ _ hL)) (fun k m => (each.same S) k (mz k m)) (fun k m => ?_) fewN (fun z m => (List.mem_filter.mp m).1) (fun k m z mm => ?_) sm (Nat.le_trans (List.length_filter_le _ _) (by omega)) (Nat.le_trans (List.length_filter_le _ _) fewT) ?_⟩
        · obtain ⟨p, r, e, _⟩ := two k (mz k m)
          exact ⟨p, r, e⟩
        · obtain ⟨p, r, e, mp, mq⟩ := two k (mz k m)
          rw [e] at mm
          rcases (show z = p ∨ z = r by simpa using mm) with e | e
          · rw [e]; exact mp
          · rw [e]; exact mq
        · have e : (ks.filter fun k => outG gs k.2).map (·.2) = (ks.map (·.2)).filter (outG gs) := by
            rw [List.filter_map]
            rfl
          rw [e]
          exact q.same S
end
end Lx

/-! Own operators: a + b, a - t, ~a, a != b of instances whose class has its own __add__, __sub__, __invert__, __eq__. -/
namespace Fw
open PySem PySem.Spec PyProof.Rows L2
/-- the class has this method for an operator's left side, and none for its right side -/
structure OwnOp (K : PySem.W.Frag) (C f : Addr) (op : Operator) : Prop where
  at_ : PySem.W.findIn K (.ref C) (PySem.dunder op.info.2) = some (some (.ref f))
  fn : PySem.W.isFn K (.ref f) = true
  rf : PySem.W.findIn K (.ref C) (dunderR op.info.2) = some none
  first : PySem.W.selfFirst K C = true
section
variable {X : Cx} {pins : List (Addr × Obj)} {σ : L2.St} {H : Hp} {s : Shared} {Q : VK} {u : Value} {s' : Shared}
theorem back_ep (h : EP X pins σ Q u s') : PySem.W.CmpBack (EP X pins σ Q) u s' := by
  cases u <;> first | exact h | skip
  obtain ⟨z, H', _, r, _⟩ := h
  cases z <;> first | (obtain ⟨t, r'⟩ := r; cases r') | cases r
theorem looks_typeIs {M : Model} {h : Heap} {a : Addr} {o : Obj} {T : String} (e : h.get? a = some o) (c : o.cls = .type T) : PySem.W.Looks M h (typeOf (.ref a)) (.type T) := fun A Q E s k q => by
  refine wpAny_typeOf_ref (k _ _ e) ?_
  rw [c]
  exact q
end
section
variable {prog : Program} {w : World} {A : Around} {E : Value → Shared → Prop} {s : Shared} {K : PySem.W.Frag} {x C L f : Addr} {base : Heap} {m : Str → Option Value} {ox : Obj} {od : Option Obj} {op : Operator} {b : Value} {Q : Value → Shared → Prop}
open PySem.W in
theorem bin_same (F : Fr base L s.heap m) (X₀ : K.In base) (I : InstAt s.heap x ox C od) (tb : ∀ hh : Heap, hh = s.heap → Looks (model prog w) hh (typeOf b) (.ref C)) (O : OwnOp K C f op)
    (h : wpAny (model prog w) A (call (.ref f) [.ref x, b]) (W.CmpBack Q) E s) : wpAny (model prog w) A (binaryOp op (.ref x) b) Q E s := by
  obtain ⟨hs, hf, hr, hc⟩ := O
  have X := X₀.keeps F.keep
  obtain ⟨cd, rest, hcd, hm⟩ := ksp_first hc
  rcases hi : op.info with ⟨sym, nm⟩
  rw [hi] at hs hr
  dsimp only at hs hr
  have one := ksp_try X I hs hf h
  obtain ⟨hh, g, d, tt, os⟩ := s
  have L1 : Looks (model prog w) hh (typeOf (.ref x)) (.ref C) := I.type
  have L2 : Looks (model prog w) hh (typeOf b) (.ref C) := tb hh rfl
  have L3 : Looks (model prog w) hh (fillsNumberSlot (.ref C) nm) true := fills_K X hcd hm hs
  simp only [binaryOp, hi]
  refine wpAny_holding (wpAny_bind ?_)
  unfold binaryOp1
  refine wpAny_bind (L1.at (wpAny_bind (L2.at (wpAny_bind (L3.at ?_)))))
  simp only [beq_self_eq_true, if_true]
  ksp_lk
  refine wpAny_mono one (fun r s' back => ?_) fun _ _ e => e
  obtain ⟨v, rfl, hq⟩ := back
  ksp_lk
  exact hq
/-- facts of tuples: neither a left nor a right side of this operator; no kind of the class -/
structure TupOp (K : PySem.W.Frag) (C : Addr) (op : Operator) : Prop where
  lf : PySem.W.findIn K (.type "tuple") (PySem.dunder op.info.2) = some none
  rf : PySem.W.findIn K (.type "tuple") (dunderR op.info.2) = some none
  sub : PySem.W.subIn K (.type "tuple") (.ref C) = some false
open PySem.W in
theorem bin_tup (F : Fr base L s.heap m) (X₀ : K.In base) (I : InstAt s.heap x ox C od) (tb : ∀ hh : Heap, hh = s.heap → Looks (model prog w) hh (typeOf b) (.type "tuple")) (O : OwnOp K C f op) (T : TupOp K C op)
    (h : wpAny (model prog w) A (call (.ref f) [.ref x, b]) (W.CmpBack Q) E s) : wpAny (model prog w) A (binaryOp op (.ref x) b) Q E s := by
  obtain ⟨hs, hf, hr, hc⟩ := O
  obtain ⟨h1, h2, hsub⟩ := T
  have X := X₀.keeps F.keep
  obtain ⟨cd, rest, hcd, hm⟩ := ksp_first hc
  rcases hi : op.info with ⟨sym, nm⟩
  rw [hi] at hs hr h1 h2
  dsimp only at hs hr h1 h2
  have one := ksp_try X I hs hf h
  obtain ⟨hh, g, d, tt, os⟩ := s
  have L1 : Looks (model prog w) hh (typeOf (.ref x)) (.ref C) := I.type
  have L2 : Looks (model prog w) hh (typeOf b) (.type "tuple") := tb hh rfl
  have L3 : Looks (model prog w) hh (fillsNumberSlot (.ref C) nm) true := fills_K X hcd hm hs
  have L4 : Looks (model prog w) hh (fillsNumberSlot (.type "tuple") nm) false := ksp_fillsT X h1 h2
  have ne : (Value.ref C == Value.type "tuple") = false := Bool.eq_false_iff.mpr fun q => by cases beq_iff_eq.mp q
  simp only [binaryOp, hi]
  refine wpAny_holding (wpAny_bind ?_)
  unfold binaryOp1
  refine wpAny_bind (L1.at (wpAny_bind (L2.at (wpAny_bind (L3.at ?_)))))
  simp only [ne, Bool.false_eq_true, if_false]
  ksp_lk
  refine wpAny_mono one (fun r s' back => ?_) fun _ _ e => e
  obtain ⟨v, rfl, hq⟩ := back
  ksp_lk
  exact hq
end
section
variable {X : Cx} {CX : CXT} {gg : Bool} {k : Nat} {C f : Addr} {fd : FuncData} {ps : List Str} {sp : Sp} {E : L2.St → XK} {op : Operator}
/-- x op y, x and y instances of the class -/
def rOwnI (C : Addr) (sp : Sp) (E : XK) : R2 := fun x y H Q => ∃ a b dx fs dy gs, x = .ref a ∧ y = .ref b ∧ H a = some (.ins C dx fs) ∧ H b = some (.ins C dy gs) ∧ sp [x, y] H Q E
def tOwn2 (r : XK → R2) (E : L2.St → XK) (ta tb : TE) : TE := fun σ H Q => ta σ H fun x H1 => tb σ H1 fun y H2 => r (E σ) x y H2 Q
theorem pe_ownI {a b : Expr} {ta tb : TE} {pos : Pos} (O : OwnOp X.K C f op) (G : gg = true → X.A.guards = some []) (F : FnV gg X.prog X.w X.K X.mg X.base CX k f fd ps sp) (hr : Room k X.A) (hb : Binds X.K fd ps []) (hx : ∀ σ, PassesAt CX X σ (E σ)) (ha : PE X a ta) (hbb : PE X b tb) :
    PE X (.BinOp a op b pos) (tOwn2 (rOwnI C sp) E ta tb) := by
  refine ⟨fun pins s σ H Q I h => ?_⟩
  refine wpAny_BinOp (thn (ha.run pins s σ H _ I h) fun v s1 ⟨x, H1, I1, rx, q1⟩ => thn (hbb.run pins s1 σ H1 _ I1 q1) fun u s2 ⟨y, H2, I2, ry, q2⟩ => ?_)
  obtain ⟨c, d, dx, fs, dy, gs, rfl, rfl, ec, ed, q⟩ := q2
  cases rx
  cases ry
  obtain ⟨mA, J, _⟩ := ins_get I2.hok ec
  obtain ⟨mB, J', _⟩ := ins_get I2.hok ed
  obtain ⟨od, J, _⟩ := J.look
  obtain ⟨od', J', _⟩ := J'.look
  obtain ⟨m, fr⟩ := I2.fr
  refine bin_same fr I2.ok.mod.kin J (fun hh e => e ▸ J'.type) O ?_
  exact wpAny_mono (runV (vs := [.ref c, .ref d]) (dvs := []) (ds := []) G F hr hb .nil (hx σ) I2 (.cons rfl (.cons rfl .nil)) q) (fun _ _ z => back_ep z) fun _ _ z => z
/-- x op y, y a tuple -/
def rOwnT (K : PySem.W.Frag) (C : Addr) (sp : Sp) (E : XK) : R2 := fun x y H Q => ∃ a b dx fs xs, x = .ref a ∧ y = .ref b ∧ H a = some (.ins C dx fs) ∧ SqT K H b xs ∧ sp [x, y] H Q E
theorem pe_ownT {a b : Expr} {ta tb : TE} {pos : Pos} (O : OwnOp X.K C f op) (T : TupOp X.K C op) (G : gg = true → X.A.guards = some []) (F : FnV gg X.prog X.w X.K X.mg X.base CX k f fd ps sp) (hr : Room k X.A) (hb : Binds X.K fd ps []) (hx : ∀ σ, PassesAt CX X σ (E σ)) (ha : PE X a ta) (hbb : PE X b tb) :
    PE X (.BinOp a op b pos) (tOwn2 (rOwnT X.K C sp) E ta tb) := by
  refine ⟨fun pins s σ H Q I h => ?_⟩
  refine wpAny_BinOp (thn (ha.run pins s σ H _ I h) fun v s1 ⟨x, H1, I1, rx, q1⟩ => thn (hbb.run pins s1 σ H1 _ I1 q1) fun u s2 ⟨y, H2, I2, ry, q2⟩ => ?_)
  obtain ⟨c, d, dx, fs, xs, rfl, rfl, ec, ed, q⟩ := q2
  cases rx
  cases ry
  obtain ⟨mA, J, _⟩ := ins_get I2.hok ec
  obtain ⟨od, J, _⟩ := J.look
  obtain ⟨its, rv, ⟨o2, e2, c2, n2, d2⟩, _⟩ := I2.tuple ed
  obtain ⟨m, fr⟩ := I2.fr
  refine bin_tup fr I2.ok.mod.kin J (fun hh e => e ▸ looks_typeIs e2 c2) O T ?_
  exact wpAny_mono (runV (vs := [.ref c, .ref d]) (dvs := []) (ds := []) G F hr hb .nil (hx σ) I2 (.cons rfl (.cons rfl .nil)) q) (fun _ _ z => back_ep z) fun _ _ z => z
/-- ~x -/
def tOwnU (C : Addr) (sp : Sp) (E : L2.St → XK) (ta : TE) : TE := fun σ H Q => ta σ H fun x H1 => ∃ a dx fs, x = .ref a ∧ H1 a = some (.ins C dx fs) ∧ sp [x] H1 Q (E σ)
theorem pe_ownInv {a : Expr} {ta : TE} {pos : Pos} (M : Meth X.K C "__invert__" f) (G : gg = true → X.A.guards = some []) (F : FnV gg X.prog X.w X.K X.mg X.base CX k f fd ps sp) (hr : Room k X.A) (hb : Binds X.K fd ps []) (hx : ∀ σ, PassesAt CX X σ (E σ)) (ha : PE X a ta) :
    PE X (.UnaryOp .Invert a pos) (tOwnU C sp E ta) := by
  refine ⟨fun pins s σ H Q I h => ?_⟩
  refine UnaryOp_ (thn (ha.run pins s σ H _ I h) fun v s1 ⟨x, H1, I1, rx, q1⟩ => ?_)
  obtain ⟨c, dx, fs, rfl, ec, q⟩ := q1
  cases rx
  obtain ⟨mA, J, _⟩ := ins_get I1.hok ec
  obtain ⟨od, J, _⟩ := J.look
  obtain ⟨m, fr⟩ := I1.fr
  exact PySem.W.ksp_inv fr I1.ok.mod.kin J M.at_ M.fn (runV (vs := [.ref c]) (dvs := []) (ds := []) G F hr hb .nil (hx σ) I1 (.cons rfl .nil) q)
end
/-! ### a != b by an own __eq__: object's __ne__ asks it -/
section
variable {prog : Program} {w : World} {A : Around} {E : Value → Shared → Prop} {s : Shared} {K : PySem.W.Frag} {x y C L f : Addr} {base : Heap} {m : Str → Option Value} {ox oy : Obj} {od od' : Option Obj} {Q : Value → Shared → Prop}
/-- the class's facts: object's __ne__, an own __eq__ -/
structure OwnNe (K : PySem.W.Frag) (C f : Addr) : Prop where
  ne : PySem.W.findIn K (.ref C) "__ne__" = some (some (.builtin "object.__ne__"))
  eq : PySem.W.findIn K (.ref C) "__eq__" = some (some (.ref f))
  fn : PySem.W.isFn K (.ref f) = true
  ob : PySem.W.mroIn K C (.type "object") = some true
theorem ifBound_ne {M : Model} {args : List Value} {R : Option Value → Shared → Prop} (X : K.In s.heap) (I : PySem.W.InstAt s.heap x ox C od) (at_ : PySem.W.findIn K (.ref C) "__ne__" = some (some (.builtin "object.__ne__")))
    (h : wpAny M A (call (.builtin "object.__ne__") (.ref x :: args)) (fun v => R (some v)) E s) : wpAny M A (callSpecialIfBound? (.ref x) "__ne__" args) R E s := by
  simp only [callSpecialIfBound?, bindSpecialIfBound?]
  refine wpAny_holding (wpAny_bind (wpAny_bind (wpAny_bind (I.type.here ((PySem.W.looks_findIn X at_).here ?_)))))
  refine wpAny_bind (wpAny_askSetting (wpAny_ite ?_))
  have ends : wpAny M A (call (.builtin "object.__ne__") ([.ref x] ++ args) >>= fun v => pure (some v)) R E s := wpAny_bind (wpAny_mono h (fun v t z => wpAny_pure z) fun _ _ z => z)
  split
  · exact wpAny_bind (wpAny_of_eq (F.cmp_object.ne.bind _) (wpAny_pure (by exact ends)))
  · exact wpAny_tryCatch (wpAny_bind (wpAny_of_eq (F.cmp_object.ne.bind _) (wpAny_pure (by exact ends))))
theorem ne_own (hu : A.units + 1 < cLine) (X : K.In s.heap) (I : PySem.W.InstAt s.heap x ox C od) (J : PySem.W.InstAt s.heap y oy C od') (O : OwnNe K C f)
    (h : wpAny (model prog w) A.in1 (call (.ref f) [.ref x, .ref y]) (fun v s' => ∃ b, v = .bool b ∧ Q (.bool (!b)) s') E s) : wpAny (model prog w) A (richCompare .NotEq (.ref x) (.ref y)) Q E s := by
  have hu0 : A.units < cLine := Nat.lt_of_succ_lt hu
  have one : wpAny (model prog w) A (tryCompare (.ref x) "__ne__" (.ref y)) (fun r s' => ∃ v, r = some v ∧ Q v s') E s := by
    unfold tryCompare
    refine wpAny_bind (ifBound_ne X I O.ne (wpAny_call (codeAny_call_builtin F.cmp_object.ne.plain F.cmpEntry_ne (PySem.W.check_slot F.cmpKind_ne F.cmpSplit_ne (I.type.andThen (PySem.W.looks_mroIn X O.ob)) (F.cmpArgs_ne _ _) ?_))))
    unfold Builtin.«object.__ne__»
    repeat (first | with_reducible refine wpAny_cRoomFor hu ?_ | with_reducible refine PySem.W.ifBound_K X I O.eq O.fn (wpAny_mono h (fun v t z => ?_) fun _ _ z => z) | wp_step)
    obtain ⟨b, rfl, q⟩ := z
    refine wpAny_bind (wpAny_truthy_bool ?_)
    repeat wp_step
    exact ⟨_, rfl, q⟩
  simp only [richCompare, cmpInfo_NotEq, oneThing_ref]
  refine wpAny_holding (wpAny_bind (wpAny_cRoomFor hu0 ?_))
  refine wpAny_bind (I.type.here (wpAny_bind (J.type.here ?_)))
  simp only [bne_self_eq_false, Bool.false_eq_true, if_false]
  refine wpAny_bind (wpAny_pure ?_)
  refine wpAny_bind (m := tryCompare (.ref x) _ (.ref y)) (wpAny_mono one (fun r t z => ?_) fun _ _ z => z)
  obtain ⟨v, rfl, q⟩ := z
  exact wpAny_pure q
end
section
variable {X : Cx} {k : Nat} {C f : Addr} {fd : FuncData} {ps : List Str} {sp : Sp}
/-- x == y, x != y of two instances: what the own __eq__ answers, and its opposite -/
def rCmpI (C : Addr) (sp : Sp) (neg : Bool) : R2 := fun x y H Q => ∃ a b dx fs dy gs, x = .ref a ∧ y = .ref b ∧ H a = some (.ins C dx fs) ∧ H b = some (.ins C dy gs) ∧ sp [x, y] H (fun v H' => ∃ b, v = .bl b ∧ Q (.bl (if neg then !b else b)) H') (fun _ _ _ => False)
theorem run_in1 {A : Around} (sub : Sub X k A) (F : FnV false X.prog X.w X.K X.mg X.base CX0 k f fd ps sp) (hb : Binds X.K fd ps []) {pins : List (Addr × Obj)} {σ : L2.St} {H : Hp} {s : Shared} {R : VK} {vs : List V} {us : List Value} (I : Inv X pins σ H s) (r : Vals vs us) (h : sp vs H R (fun _ _ _ => False)) :
    wpAny (model X.prog X.w) A (call (.ref f) us) (EP X pins σ R) X.xe s := by
  have same : us.length = ps.length := (Vals.length r).symm.trans (F.wide _ _ _ _ h)
  have e0 : Env0 X.prog X.w X.K X.mg X.base A X.stack s H := by
    have e := I.env0
    exact ⟨by rw [sub.fr]; exact e.frames, e.mod, e.bs, e.bsz, e.funs, e.frf, e.hok, e.bare⟩
  apply wpAny_call
  apply codeAny_mono (F.goes A X.stack s H ⟨us, []⟩ us vs R _ (fun z => nomatch z) sub.room e0 (by have z := hb s us I.kIn (by simpa using same); simpa using z) r h)
  intro res s' ends
  match res, ends with
  | .error er, ends => exact (ends : False).elim
  | .ok (.ret u), ends => exact I.after ends
  | .ok .next, ends => exact ends.elim
  | .ok .brk, ends => exact ends.elim
  | .ok .cont, ends => exact ends.elim
theorem op_neI (O : OwnNe X.K C f) (F : FnV false X.prog X.w X.K X.mg X.base CX0 k f fd ps sp) (hb : Binds X.K fd ps []) (hr : Room (k + 1) X.A) : OpR X (compareOp .NotEq) (rCmpI C sp true) := by
  intro pins s σ H x y v u Q I rx ry h
  obtain ⟨a, b, dx, fs, dy, gs, rfl, rfl, ea, eb, q⟩ := h
  cases rx
  cases ry
  obtain ⟨mA, J, _⟩ := ins_get I.hok ea
  obtain ⟨mB, J', _⟩ := ins_get I.hok eb
  obtain ⟨od, J, _⟩ := J.look
  obtain ⟨od', J', _⟩ := J'.look
  show wpAny (model X.prog X.w) X.A (richCompare .NotEq (.ref a) (.ref b)) (EP X pins σ Q) X.xe s
  refine ne_own (Nat.lt_of_le_of_lt (Nat.add_le_add_left (by decide) _) hr.units) I.kIn J J' O (wpAny_mono (run_in1 (⟨hr.in1, rfl⟩ : Sub X k X.A.in1) F hb (vs := [V.ref a, V.ref b]) I (.cons rfl (.cons rfl .nil)) q) (fun r t z => ?_) fun _ _ z => z)
  obtain ⟨z, H', I', rz, c, rfl, q'⟩ := z
  cases rz
  exact ⟨c, rfl, .bl (!c), H', I', rfl, q'⟩
theorem op_eqI (O : OwnNe X.K C f) (F : FnV false X.prog X.w X.K X.mg X.base CX0 k f fd ps sp) (hb : Binds X.K fd ps []) (hr : Room (k + 1) X.A) : OpR X (compareOp .Eq) (rCmpI C sp false) := by
  intro pins s σ H x y v u Q I rx ry h
  obtain ⟨a, b, dx, fs, dy, gs, rfl, rfl, ea, eb, q⟩ := h
  cases rx
  cases ry
  obtain ⟨mA, J, _⟩ := ins_get I.hok ea
  obtain ⟨mB, J', _⟩ := ins_get I.hok eb
  obtain ⟨od, J, _⟩ := J.look
  obtain ⟨od', J', _⟩ := J'.look
  obtain ⟨m, fr⟩ := I.fr
  show wpAny (model X.prog X.w) X.A (richCompare .Eq (.ref a) (.ref b)) (EP X pins σ Q) X.xe s
  refine PySem.W.cmp_K (op := .Eq) (tb := .ref C) hr.units0 fr I.ok.mod.kin J J'.type (by simp [PySem.W.notFirst]) O.eq O.fn (wpAny_mono (run_in1 (⟨hr.mono (Nat.le_succ _), rfl⟩ : Sub X k X.A) F hb (vs := [V.ref a, V.ref b]) I (.cons rfl (.cons rfl .nil)) q) (fun r t z => ?_) fun _ _ z => z)
  obtain ⟨z, H', I', rz, c, rfl, q'⟩ := z
  cases rz
  exact ⟨.bl c, H', I', rfl, q'⟩
end
end Fw

/-! {x for y in ys for x in y}: a set of texts gathered by two clauses. -/
namespace Fw
open PySem PySem.Spec PyProof.Rows L2
section
variable {P : Program} {w : World} {A : Around} {E : Value → Shared → Prop} {s : Shared} {a : Addr} {l : List Str} {k : Str} {tk : Tok} {Q : Value → Shared → Prop}
theorem addW_call (R : SetW w s.heap a l) (room : l.length + 1 < scanBound) (fin : ∀ h', Heap.SameBut a s.heap h' → SetW w h' a (addT l k) → Q .none { s with heap := h', toks := s.toks + 1 }) :
    wpAny (model P w) A (call (.builtin "set.add") [.ref a, .str k tk]) Q E s := by
  have so := R.setOf (P := P)
  refine wpAny_call_entry PySem.F.slot_set_add so.typeIs PySem.F.entry_set_add ?_ (PySem.F.args_set_add_2 _ _)
  unfold Builtin.«set.add» Builtin.Frozenset.oneOther
  simp only [List.isEmpty_nil, bind_assoc]
  unfold Builtin.Frozenset.addrOf setAdd
  refine wpAny_bind (wpAny_pure ?_)
  try dsimp only
  refine wpAny_bind (wpAny_pure ?_)
  try dsimp only
  refine wpAny_bind (wpAny_holding (wpAny_bind ((strKind P w).pyHash (k := k) (strKind_is P w k tk) ?_)))
  refine setW_add (s := { s with toks := s.toks + 1 }) R room fun h' but new => ?_
  show wpAny _ _ (ret Value.none) _ _ _
  exact wpAny_pure ⟨_, rfl, fin h' but new⟩
end
section
variable {X : Cx} {pins : List (Addr × Obj)} {σ : L2.St} {H : Hp} {s : Shared} {E : Value → Shared → Prop} {D : Addr} {l : List Str} {k : Str} {tk : Tok} {Q : Value → Shared → Prop}
theorem addW_ok (I : Inv X pins σ H s) (at_ : H D = some (SetWO X.w D l)) (room : l.length + 1 < scanBound) (fin : ∀ s', Inv X pins σ (upd H D (SetWO X.w D (addT l k))) s' → Q .none s') :
    wpAny (model X.prog X.w) X.A (call (.builtin "set.add") [.ref D, .str k tk]) Q E s := by
  refine addW_call (setWO_get I at_) room fun h' but new => ?_
  have is : ∃ u, h'.get? D = some u := by
    have ⟨o, _, _, _, ho, _⟩ := new
    exact ⟨o, ho⟩
  exact fin _ (I.write (e := D) (t' := s.toks + 1) (by rw [at_]; trivial) (.inl rfl) (fun b u nb e => (but.2 b nb).trans e) is (setWO_new new))
end
/-- the comprehension -/
abbrev two (elt t0 i0 : Expr) (c0 : List Expr) (t1 i1 : Expr) (c1 : List Expr) (sc : Scope) (pos : Pos) : Expr := .SetComp elt [⟨t0, i0, c0, 0⟩, ⟨t1, i1, c1, 0⟩] sc pos
/-- the tests of a clause, one by one -/
abbrev tests (cs : List Expr) (env : Env) : Sem Bool := forIn cs true fun c r => if r = true then do let ok ← isTrue c env (eval c env); pure (ForInStep.yield ok) else pure (ForInStep.yield r)
theorem turn_two0 (elt t0 i0 : Expr) (c0 : List Expr) (t1 i1 : Expr) (c1 : List Expr) (sc : Scope) (pos : Pos) (it acc : Value) (env : Env) :
    compTurn (two elt t0 i0 c0 t1 i1 c1 sc pos) 0 it acc env = (standAt i0.pos >>= fun _ => pyNext it >>= fun r => match r with
      | none => pure (.done .next)
      | some v => letOwnedTupleGo t0 it v >>= fun _ => assign t0 env v >>= fun _ => tests c0 env >>= fun ok => (do
          if ok then
            let x ← eval i1 env
            standAt i1.pos
            let x ← foldedSetIterable i1 env x
            let _ ← runOwn (.compStart (two elt t0 i0 c0 t1 i1 c1 sc pos) 1 (← holding [x] (pyIter x)) acc env) env
          again (.compLoop (two elt t0 i0 c0 t1 i1 c1 sc pos) 0 it acc env))) := by rfl
theorem turn_two1 (elt t0 i0 : Expr) (c0 : List Expr) (t1 i1 : Expr) (c1 : List Expr) (sc : Scope) (pos : Pos) (it acc : Value) (env : Env) :
    compTurn (two elt t0 i0 c0 t1 i1 c1 sc pos) 1 it acc env = (standAt i1.pos >>= fun _ => pyNext it >>= fun r => match r with
      | none => pure (.done .next)
      | some v => letOwnedTupleGo t1 it v >>= fun _ => assign t1 env v >>= fun _ => tests c1 env >>= fun ok => (do
          if ok then
            (do let v ← eval elt env; standAt elt.pos; let _ ← call (.builtin "set.add") [acc, v])
          again (.compLoop (two elt t0 i0 c0 t1 i1 c1 sc pos) 1 it acc env))) := by rfl
section
variable {prog : Program} {w : World} {A : Around} {R : Result → Shared → Prop} {s : Shared} {elt t0 i0 t1 i1 : Expr} {c0 c1 : List Expr} {sc : Scope} {pos : Pos} {it acc : Value} {env : Env}
/-- what a raise within a turn comes to -/
abbrev Noted (prog : Program) (w : World) (A : Around) (env : Env) (R : Result → Shared → Prop) : Value → Shared → Prop := notedBy (model prog w) A env fun e s' => R (.error e) s'
theorem loop_two0 (fold : ∀ x, foldedSetIterable i1 env x = pure x) (J : Nat → Shared → Prop)
    (turn : ∀ n s, J n s → wpAny (model prog w) A (pyNext it) (fun r s1 => match r with
      | none => R (.ok .next) s1
      | some v => wpAny (model prog w) A (letOwnedTupleGo t0 it v) (fun _ s2 => wpAny (model prog w) A (assign t0 env v) (fun _ s3 => wpAny (model prog w) A (tests c0 env) (fun ok s4 =>
          if ok = true then wpAny (model prog w) A (eval i1 env) (fun x s5 => wpAny (model prog w) A (pyIter x) (fun it1 s6 =>
            codeAny (model prog w) A (.compStart (two elt t0 i0 c0 t1 i1 c1 sc pos) 1 it1 acc env) (fun r s' => (∃ f, r = .ok f) ∧ ∃ m, m < n ∧ J m s') s6) (Noted prog w A env R) s5) (Noted prog w A env R) s4
          else ∃ m, m < n ∧ J m s4) (Noted prog w A env R) s3) (Noted prog w A env R) s2) (Noted prog w A env R) s1) (Noted prog w A env R) s)
    (n : Nat) (h : J n s) : codeAny (model prog w) A (.compLoop (two elt t0 i0 c0 t1 i1 c1 sc pos) 0 it acc env) R s := by
  refine codeAny_loop rfl J (fun n s hJ => ?_) n h
  show wpAny _ A ((compTurn (two elt t0 i0 c0 t1 i1 c1 sc pos) 0 it acc env).onRaise _) _ _ s
  refine wpAny_noted ?_
  rw [turn_two0]
  refine wpAny_bind (wpAny_standAt (wpAny_bind (wpAny_mono (turn n s hJ) (fun r s1 g1 => ?_) fun _ _ z => z)))
  cases r with
  | none => exact wpAny_pure g1
  | some v =>
    refine wpAny_bind (wpAny_mono g1 (fun _ s2 g2 => wpAny_bind (wpAny_mono g2 (fun _ s3 g3 => wpAny_bind (wpAny_mono g3 (fun ok s4 g4 => ?_) fun _ _ z => z)) fun _ _ z => z)) fun _ _ z => z)
    cases ok with
    | false => exact wpAny_pure ⟨rfl, g4⟩
    | true =>
      refine wpAny_bind (wpAny_mono g4 (fun x s5 g5 => wpAny_bind (wpAny_standAt (wpAny_bind (wpAny_of_eq (fold x) (wpAny_bind (wpAny_holding (wpAny_mono g5 (fun it1 s6 g6 => ?_) fun _ _ z => z))))))) fun _ _ z => z)
      refine wpAny_bind (wpAny_runOwn ?_)
      rw [Around.mark_none]
      refine codeAny_mono g6 fun r s' hr => ?_
      obtain ⟨⟨f, rfl⟩, hr⟩ := hr
      first
        | exact wpAny_pure ⟨rfl, hr⟩
        | exact wpAny_bind (wpAny_pure (wpAny_pure ⟨rfl, hr⟩))
theorem loop_two1 (J : Nat → Shared → Prop)
    (turn : ∀ n s, J n s → wpAny (model prog w) A (pyNext it) (fun r s1 => match r with
      | none => R (.ok .next) s1
      | some v => wpAny (model prog w) A (letOwnedTupleGo t1 it v) (fun _ s2 => wpAny (model prog w) A (assign t1 env v) (fun _ s3 => wpAny (model prog w) A (tests c1 env) (fun ok s4 =>
          if ok = true then wpAny (model prog w) A (eval elt env) (fun x s5 => wpAny (model prog w) A (call (.builtin "set.add") [acc, x]) (fun _ s6 => ∃ m, m < n ∧ J m s6) (Noted prog w A env R) s5) (Noted prog w A env R) s4
          else ∃ m, m < n ∧ J m s4) (Noted prog w A env R) s3) (Noted prog w A env R) s2) (Noted prog w A env R) s1) (Noted prog w A env R) s)
    (n : Nat) (h : J n s) : codeAny (model prog w) A (.compLoop (two elt t0 i0 c0 t1 i1 c1 sc pos) 1 it acc env) R s := by
  refine codeAny_loop rfl J (fun n s hJ => ?_) n h
  show wpAny _ A ((compTurn (two elt t0 i0 c0 t1 i1 c1 sc pos) 1 it acc env).onRaise _) _ _ s
  refine wpAny_noted ?_
  rw [turn_two1]
  refine wpAny_bind (wpAny_standAt (wpAny_bind (wpAny_mono (turn n s hJ) (fun r s1 g1 => ?_) fun _ _ z => z)))
  cases r with
  | none => exact wpAny_pure g1
  | some v =>
    refine wpAny_bind (wpAny_mono g1 (fun _ s2 g2 => wpAny_bind (wpAny_mono g2 (fun _ s3 g3 => wpAny_bind (wpAny_mono g3 (fun ok s4 g4 => ?_) fun _ _ z => z)) fun _ _ z => z)) fun _ _ z => z)
    cases ok with
    | false => exact wpAny_pure ⟨rfl, g4⟩
    | true => exact wpAny_bind (wpAny_bind (wpAny_mono g4 (fun x s5 g5 => wpAny_bind (wpAny_standAt (wpAny_bind (wpAny_mono g5 (fun _ s6 g6 => wpAny_pure (wpAny_pure ⟨rfl, g6⟩)) fun _ _ z => z)))) fun _ _ z => z))
theorem start_two1 (h0 : codeAny (model prog w) A (.compLoop (two elt t0 i0 c0 t1 i1 c1 sc pos) 1 it acc env) R s)
    (h : wpAny (model prog w) A (pyIter it) (fun it' s' => codeAny (model prog w) A (.compLoop (two elt t0 i0 c0 t1 i1 c1 sc pos) 1 it' acc env) R s') (Noted prog w A env R) s) :
    codeAny (model prog w) A (.compStart (two elt t0 i0 c0 t1 i1 c1 sc pos) 1 it acc env) R s := by
  refine codeAny_of_tree ?_
  show wpAny _ _ ((compStart (two elt t0 i0 c0 t1 i1 c1 sc pos) 1 it acc env).onRaise _) _ _ s
  refine wpAny_notedAt ?_
  unfold compStart
  show wpAny _ _ (ask >>= _) _ _ s
  refine wpAny_bind (wpAny_askSetting (wpAny_ite ?_))
  have once : wpAny (model prog w) A (standAt i1.pos >>= fun _ => pyIter it >>= fun it' => pure (Fin.again (.compLoop (two elt t0 i0 c0 t1 i1 c1 sc pos) 1 it' acc env))) (fun f s' => match f with | .done r => R (.ok r) s' | .again c => c.quiet = true ∧ codeAny (model prog w) A c R s') (Noted prog w A env R) s :=
    wpAny_bind (wpAny_standAt (wpAny_bind (wpAny_mono h (fun it' s' z => wpAny_pure (And.intro rfl z)) fun _ _ z => z)))
  split
  · first
      | exact wpAny_pure (And.intro rfl h0)
      | exact wpAny_bind (wpAny_pure (wpAny_pure (And.intro rfl h0)))
  · exact wpAny_bind (wpAny_rule once)
end
section
variable {X : Cx}
/-- D the new set; Nx: behind a turn of the first clause; vs: the block's slots, vs1: those of the second target -/
def tSc2 (w : World) (wi : TI) (g : TG) (tt : TT) (wi1 : TI) (g1 : TG) (tt1 : TT) (te : TE) (vs vs1 : List Nat) : TE := fun σ H Q => wi σ H fun J H1 => ∀ D, H1 D = none → ∃ W : Nat → Nat → Hp → Prop, (∃ m, W 0 m (upd H1 D (SetWO w D []))) ∧ ∀ i m H, W i m H →
  (J.stop i H ∧ Q (.ref D) H) ∨ (J.go i H ∧ ∃ Nx : Hp → Prop, (∀ H', Nx H' → ∃ m', m' < m ∧ W (i + 1) m' H') ∧ ∀ x H', J.yld i H x H' → g x (wipe σ vs) H' fun σ2 H2 => wipe σ2 vs = wipe σ vs ∧ tt σ2 H2 fun b H3 =>
    if b = true then wi1 σ2 H3 fun J1 H4 => ∃ W1 : Nat → Nat → Hp → Prop, (∃ m, W1 0 m H4) ∧ ∀ j k H, W1 j k H →
      (J1.stop j H ∧ Nx H) ∨ (J1.go j H ∧ ∃ Nx1 : Hp → Prop, (∀ H', Nx1 H' → ∃ k', k' < k ∧ W1 (j + 1) k' H') ∧ ∀ x H', J1.yld j H x H' → g1 x (wipe σ2 vs1) H' fun σ3 H5 => wipe σ3 vs1 = wipe σ2 vs1 ∧ tt1 σ3 H5 fun b H6 =>
        if b = true then te σ3 H6 fun y H7 => ∃ l k, y = .str k ∧ H7 D = some (SetWO w D l) ∧ l.length + 1 < scanBound ∧ Nx1 (upd H7 D (SetWO w D (addT l k))) else Nx1 H6)
    else Nx H3)
/-- any block of a comprehension over these scopes: what the rules of its parts are asked for -/
abbrev Blk (X : Cx) (sc : Scope) (p : Cx → Prop) : Prop := ∀ (s : Shared) (H : Hp) (C : Addr) (cl : List (Str × Addr)) (fp : List Addr), p (X.blk s H sc (compEnvC sc cl C X.env) fp)
theorem sc2_core {pins : List (Addr × Obj)} {s : Shared} {σ : L2.St} {H : Hp} {Q : VK} {elt t0 i0 t1 i1 : Expr} {c0 c1 : List Expr} {sc : Scope} {own : List (Str × Nat)} {vs1 : List Nat} {pos pos' : Pos} {wi wi1 : TI} {g g1 : TG} {tt tt1 : TT} {te : TE} {use : Option (Value → Sem Unit)} {Qf : Value → Shared → Prop}
    (calm : X.calm = true) (nd : X.N.Nodup) (inv : Inv X pins σ H s) (walk : PI X t0 i0 wi) (blk : BlkOk X.N X.env.scope sc own) (sub : ∀ i ∈ vs1, i ∈ own.map (·.2))
    (rg : Blk X sc fun Y => PG Y t0 g) (rt : Blk X sc fun Y => PTs Y c0 tt) (re : Blk X sc fun Y => PE Y elt te) (rw1 : Blk X sc fun Y => PI Y t1 i1 wi1) (rg1 : Blk X sc fun Y => PG Y t1 g1) (rt1 : Blk X sc fun Y => PTs Y c1 tt1)
    (fold0 : ∀ x, foldedSetIterable i0 X.env x = pure x) (fold1 : ∀ env x, foldedSetIterable i1 env x = pure x) (goal : tSc2 X.w wi g tt wi1 g1 tt1 te (own.map (·.2)) vs1 σ H Q)
    (ends : ∀ D C s' m H', Inv X pins σ H' s' → Q (.ref D) H' → s'.heap.Ns C m → FpOk X pins H' C → compPost (model X.prog X.w) X.A X.xe use Qf (.ref D) C (.ok .next) s') :
    wpAny (model X.prog X.w) X.A (comprehension (two elt t0 i0 c0 t1 i1 c1 sc pos) sc X.env pos' (PySem.newSet (.type "set")) false (eval i0 X.env) use) Qf X.xe s := by
  have free : ∀ y ∈ sc.names, y.2 = .free → ∃ c, X.env.cells.lookup y.1 = some c := fun y m e => (blk.free y m e).elim (fun k => inv.ok.has _ (.inl k)) fun k => inv.ok.has _ (.inr k)
  refine wpAny_comprehension_free (use := use) rfl fold0 (closure_ok free) blk.kind (fun y m e => by rw [blk.uniq y m, e]) (thn (walk.run pins s σ H _ inv goal) fun xv u1 a1 => thn a1 fun itv u2 a2 => ?_)
  obtain ⟨it, fp, tn, J, H2, rfl, inv2, T, st2, free2, q⟩ := a2
  refine PpSet.newSet_ok (newEnv_comp ?_)
  generalize eD : u2.heap.objs.size = D
  have nD : H2 D = none := inv2.hok.fresh (Nat.le_of_eq eD)
  obtain ⟨W, ⟨m0, w0⟩, turn⟩ := q D nD
  generalize e3 : ({ u2 with heap := u2.heap.push (Fw.newSet X.w) } : Shared) = u3
  have h3 : u3.heap = u2.heap.push (Fw.newSet X.w) := by rw [← e3]
  have inv3 : Inv X pins σ (upd H2 D (SetWO X.w D [])) u3 := by
    rw [← e3]
    refine inv2.laid (t' := u2.toks) (fun b o e => Heap.get?_push_of_some _ e) (Nat.le_of_eq eD) ?_
    rw [← eD]
    exact setWO_new (setW_fresh (Heap.get?_push_size _ rfl))
  have low : ∀ b ∈ fp, b < u2.heap.objs.size := fun b m => by
    obtain ⟨o, e, _⟩ := T.obj _ _ st2 b m
    exact Heap.lt_size e
  have free3 : ∀ b ∈ fp, FpOk X pins (upd H2 D (SetWO X.w D [])) b ∧ b < u3.heap.objs.size := fun b m => by
    have lt := low b m
    refine ⟨⟨?_, (free2 b m).2⟩, by rw [h3, Heap.size_push]; exact Nat.lt_succ_of_lt lt⟩
    rw [upd_ne (by rw [← eD]; exact Nat.ne_of_lt lt)]
    exact (free2 b m).1
  have st3 : tn 0 u3.heap := T.keep _ _ _ st2 fun b _ o e => by rw [h3]; exact Heap.get?_push_of_some _ e
  have inv4 := block_start inv3 blk nd free3
  have none3 : ∀ b ∈ fp, (upd H2 D (SetWO X.w D [])) b = none := fun b m => (free3 b m).1.1
  generalize eH3 : upd H2 D (SetWO X.w D []) = H3 at inv3 inv4 w0 none3 free3
  have kg := rg u3 H3 u3.heap.objs.size (cellsFrom (u3.heap.objs.size + 1) sc.names (cloFrom X.env.cells sc.names [])) fp
  have kt := rt u3 H3 u3.heap.objs.size (cellsFrom (u3.heap.objs.size + 1) sc.names (cloFrom X.env.cells sc.names [])) fp
  have ke := re u3 H3 u3.heap.objs.size (cellsFrom (u3.heap.objs.size + 1) sc.names (cloFrom X.env.cells sc.names [])) fp
  have kw1 := rw1 u3 H3 u3.heap.objs.size (cellsFrom (u3.heap.objs.size + 1) sc.names (cloFrom X.env.cells sc.names [])) fp
  have kg1 := rg1 u3 H3 u3.heap.objs.size (cellsFrom (u3.heap.objs.size + 1) sc.names (cloFrom X.env.cells sc.names [])) fp
  have kt1 := rt1 u3 H3 u3.heap.objs.size (cellsFrom (u3.heap.objs.size + 1) sc.names (cloFrom X.env.cells sc.names [])) fp
  show codeAny _ _ (.compStart (two elt t0 i0 c0 t1 i1 c1 sc pos) 0 (.ref it) (.ref D) _) (compPost (model X.prog X.w) X.A X.xe use Qf (.ref D) u3.heap.objs.size) { u3 with heap := pushCells (u3.heap.push { cls := .type "dict", data := .dict #[] }) sc.names }
  show codeAny _ _ (.compStart (two elt t0 i0 c0 t1 i1 c1 sc pos) 0 (.ref it) (.ref D) (compEnvC sc (cellsFrom (u3.heap.objs.size + 1) sc.names (cloFrom X.env.cells sc.names [])) u3.heap.objs.size X.env)) _ _
  generalize eC : compEnvC sc (cellsFrom (u3.heap.objs.size + 1) sc.names (cloFrom X.env.cells sc.names [])) u3.heap.objs.size X.env = ce at inv4 kg kt ke kw1 kg1 kt1 ⊢
  have locC : ce.locals = u3.heap.objs.size := by rw [← eC]; rfl
  generalize e4 : ({ u3 with heap := pushCells (u3.heap.push { cls := .type "dict", data := .dict #[] }) sc.names } : Shared) = u4 at inv4 ⊢
  have st4 : tn 0 u4.heap := T.keep _ _ _ st3 fun b _ o e => by rw [← e4]; exact pushCells_keeps _ _ _ _ (Heap.get?_push_of_some _ e)
  have stays : ∀ {σ' : L2.St} {H' : Hp} {s' : Shared}, Inv (X.blk u3 H3 sc ce fp) [] σ' H' s' → (∀ b ∈ fp, H' b = none) → ∀ b ∈ fp, FpOk (X.blk u3 H3 sc ce fp) [] H' b := fun {σ' H' s'} I' no b m =>
    ⟨no b m, (I'.ok.exf b m).1, I'.ok.exfs b m, .inl m, fun x c e => (I'.ok.exf b m).2 x c e, fun p hp => absurd (show p ∈ ([] : List (Addr × Obj)) ++ [] from hp) (by simp)⟩
  let Z : Nat → Shared → Prop := fun n s' => ∃ i H', Inv (X.blk u3 H3 sc ce fp) [] (wipe σ (own.map (·.2))) H' s' ∧ tn i s'.heap ∧ (∀ b ∈ fp, H' b = none) ∧ W i n H'
  have outer : codeAny (model X.prog X.w) X.A (.compLoop (two elt t0 i0 c0 t1 i1 c1 sc pos) 0 (.ref it) (.ref D) ce) (compPost (model X.prog X.w) X.A X.xe use Qf (.ref D) u3.heap.objs.size) u4 := by
    refine loop_two0 (fold1 ce) Z ?_ m0 ⟨0, H3, inv4, st4, none3, w0⟩
    rintro n u5 ⟨i, H5, inv5, st5, no5, w5⟩
    rcases turn i n H5 w5 with ⟨stop, qq⟩ | ⟨go, Nx, next, step⟩
    · refine thnF (T.done (X.blk u3 H3 sc ce fp) rfl rfl rfl calm i [] u5 _ H5 (fun _ _ => False) inv5 (stays inv5 no5) st5 stop) fun r u6 ⟨er, inv6⟩ => ?_
      subst er
      have back : Inv X pins σ H5 u6 := inv3.call' (ch := fp) inv6.os inv6.base inv6.hok inv6.bare fun b m => ⟨(free3 b m).1.2.2.2.1, (free3 b m).1.2.1, (free3 b m).1.2.2.2.2.1, (free3 b m).1.2.2.2.2.2⟩
      have noC : H5 u3.heap.objs.size = none := locC ▸ (inv6.free : H5 ce.locals = none)
      obtain ⟨m, ns, _⟩ := inv6.loc
      exact ends D u3.heap.objs.size u6 m H5 back qq (locC ▸ (ns : u6.heap.Ns ce.locals m)) (inv3.fpOk (Nat.le_refl _) noC)
    · refine thnF (T.item (X.blk u3 H3 sc ce fp) rfl rfl rfl calm i [] u5 _ H5 (fun _ _ => False) inv5 (stays inv5 no5) st5 go) fun r u6 ⟨v0, er, a6⟩ => ?_
      subst er
      refine thnF a6 fun _ u7 ⟨x, H7, inv7, r7, y7, st7, no7⟩ => ?_
      have inv7' := inv7.pinned (stays inv7 no7) (T.obj _ _ st7)
      refine thnF (kg.run _ u7 _ H7 x v0 _ inv7' r7 (step x H7 y7)) fun _ u8 ⟨σ8, H8, inv8, w8, q8⟩ => ?_
      refine thnF (kt.run _ u8 σ8 H8 _ inv8 q8) fun b u9 ⟨H9, inv9, q9⟩ => ?_
      have turnEnds : ∀ {σ9 : L2.St} {s' : Shared} {H' : Hp}, Inv (X.blk u3 H3 sc ce fp) ([] ++ pinsAt fp u7.heap) σ9 H' s' → (wipe σ (own.map (·.2))).length = σ9.length → (∀ (j : Nat) v, (wipe σ (own.map (·.2)))[j]? = some (some v) → σ9[j]? = some (some v)) → Nx H' → ∃ m, m < n ∧ Z m s' := fun {σ9 s' H'} I' len known nx => by
        obtain ⟨m', lt, w'⟩ := next H' nx
        have held : ∀ b ∈ fp, ∀ o, u7.heap.get? b = some o → s'.heap.get? b = some o ∧ H' b = none := fun b m o e =>
          have z := I'.pin (b, o) (List.mem_append_right _ (List.mem_append_right _ (mem_pinsAt m e)))
          ⟨z.1, z.2.1⟩
        refine ⟨m', lt, i + 1, H', (I'.unpinned (pins := [])).weak len known, T.keep _ _ _ st7 fun b m o e => (held b m o e).1, fun b m => ?_, w'⟩
        obtain ⟨o, e, _⟩ := T.obj _ _ st7 b m
        exact (held b m o e).2
      have len8 : (wipe σ (own.map (·.2))).length = σ8.length := by rw [← w8, wipe_length]
      cases b with
      | false =>
        rw [if_neg (by decide)] at q9 ⊢
        exact turnEnds inv9 len8 (fun j v e => (wipe_some (w8 ▸ e)).1) q9
      | true =>
        rw [if_pos rfl] at q9 ⊢
        refine thnF (kw1.run _ u9 σ8 H9 _ inv9 q9) fun xv u10 a10 => thnF a10 fun itv u11 a11 => ?_
        obtain ⟨it1, fp1, tn1, J1, H11, rfl, inv11, T1, st11, free11, W1, ⟨m1, w1⟩, turn1⟩ := a11
        have stays1 : ∀ {H' : Hp}, (∀ b ∈ fp1, H' b = none) → ∀ b ∈ fp1, FpOk (X.blk u3 H3 sc ce fp) ([] ++ pinsAt fp u7.heap) H' b := fun no b m => ⟨no b m, (free11 b m).2⟩
        have inner : codeAny (model X.prog X.w) X.A (.compLoop (two elt t0 i0 c0 t1 i1 c1 sc pos) 1 (.ref it1) (.ref D) ce) (fun r s' => (∃ f, r = .ok f) ∧ ∃ m, m < n ∧ Z m s') u11 := by
          refine loop_two1 (fun k s' => ∃ j H', Inv (X.blk u3 H3 sc ce fp) ([] ++ pinsAt fp u7.heap) (wipe σ8 vs1) H' s' ∧ tn1 j s'.heap ∧ (∀ b ∈ fp1, H' b = none) ∧ W1 j k H') ?_ m1 ⟨0, H11, inv11.weak (wipe_length _ _) (fun j v e => (wipe_some e).1), st11, fun b m => (free11 b m).1, w1⟩
          rintro k u12 ⟨j, H12, inv12, st12, no12, w12⟩
          rcases turn1 j k H12 w12 with ⟨stop1, nx1⟩ | ⟨go1, Nx1, next1, step1⟩
          · refine thnF (T1.done (X.blk u3 H3 sc ce fp) rfl rfl rfl calm j _ u12 (wipe σ8 vs1) H12 (fun _ _ => False) inv12 (stays1 no12) st12 stop1) fun r u13 ⟨er, inv13⟩ => ?_
            subst er
            refine ⟨⟨_, rfl⟩, turnEnds inv13 (len8.trans (wipe_length σ8 vs1).symm) (fun j v e => ?_) nx1⟩
            obtain ⟨e1, e2⟩ := wipe_some (w8 ▸ e)
            rw [wipe_out fun z => e2 (sub j z)]
            exact e1
          · refine thnF (T1.item (X.blk u3 H3 sc ce fp) rfl rfl rfl calm j _ u12 (wipe σ8 vs1) H12 (fun _ _ => False) inv12 (stays1 no12) st12 go1) fun r u13 ⟨v1, er, a13⟩ => ?_
            subst er
            refine thnF a13 fun _ u14 ⟨x1, H14, inv14, r14, y14, st14, no14⟩ => ?_
            have inv14' := inv14.pinned (stays1 no14) (T1.obj _ _ st14)
            refine thnF (kg1.run _ u14 (wipe σ8 vs1) H14 x1 v1 _ inv14' r14 (step1 x1 H14 y14)) fun _ u15 ⟨σ15, H15, inv15, w15, q15⟩ => ?_
            refine thnF (kt1.run _ u15 σ15 H15 _ inv15 q15) fun b1 u16 ⟨H16, inv16, q16⟩ => ?_
            have turnEnds1 : ∀ {s' : Shared} {H' : Hp}, Inv (X.blk u3 H3 sc ce fp) (([] ++ pinsAt fp u7.heap) ++ pinsAt fp1 u14.heap) σ15 H' s' → Nx1 H' → ∃ m, m < k ∧ ∃ j H', Inv (X.blk u3 H3 sc ce fp) ([] ++ pinsAt fp u7.heap) (wipe σ8 vs1) H' s' ∧ tn1 j s'.heap ∧ (∀ b ∈ fp1, H' b = none) ∧ W1 j m H' := fun {s' H'} I' nx => by
              obtain ⟨m', lt, w'⟩ := next1 H' nx
              have held : ∀ b ∈ fp1, ∀ o, u14.heap.get? b = some o → s'.heap.get? b = some o ∧ H' b = none := fun b m o e =>
                have z := I'.pin (b, o) (List.mem_append_right _ (List.mem_append_right _ (mem_pinsAt m e)))
                ⟨z.1, z.2.1⟩
              refine ⟨m', lt, j + 1, H', I'.unpinned.weak (by rw [← w15, wipe_length]) (fun j v e => (wipe_some (w15 ▸ e)).1), T1.keep _ _ _ st14 fun b m o e => (held b m o e).1, fun b m => ?_, w'⟩
              obtain ⟨o, e, _⟩ := T1.obj _ _ st14 b m
              exact (held b m o e).2
            cases b1 with
            | false =>
              rw [if_neg (by decide)] at q16 ⊢
              exact turnEnds1 inv16 q16
            | true =>
              rw [if_pos rfl] at q16 ⊢
              refine thnF (ke.run _ u16 σ15 H16 _ inv16 q16) fun z u17 ⟨yv, H17, inv17, r17, l, kk, ey, at17, room, nx⟩ => ?_
              subst ey
              obtain ⟨tk, rfl⟩ := r17
              exact addW_ok (X := X.blk u3 H3 sc ce fp) inv17 at17 room fun u18 inv18 => turnEnds1 inv18 nx
        exact start_two1 inner (T1.self X.A 0 _ _ _ st11 inner)
  exact PpSet.codeAny_compStart_set outer (T.self X.A 0 _ _ _ st4 outer)
theorem pe_sc2 {elt t0 i0 t1 i1 : Expr} {c0 c1 : List Expr} {sc : Scope} {own : List (Str × Nat)} {vs1 : List Nat} {pos : Pos} {wi wi1 : TI} {g g1 : TG} {tt tt1 : TT} {te : TE} (calm : X.calm = true) (nd : X.N.Nodup) (walk : PI X t0 i0 wi) (blk : BlkOk X.N X.env.scope sc own) (sub : ∀ i ∈ vs1, i ∈ own.map (·.2))
    (rg : Blk X sc fun Y => PG Y t0 g) (rt : Blk X sc fun Y => PTs Y c0 tt) (rw1 : Blk X sc fun Y => PI Y t1 i1 wi1) (rg1 : Blk X sc fun Y => PG Y t1 g1) (rt1 : Blk X sc fun Y => PTs Y c1 tt1) (re : Blk X sc fun Y => PE Y elt te)
    (fold0 : ∀ x, foldedSetIterable i0 X.env x = pure x := by intro _; rfl) (fold1 : ∀ env x, foldedSetIterable i1 env x = pure x := by intro _ _; rfl) :
    PE X (two elt t0 i0 c0 t1 i1 c1 sc pos) (tSc2 X.w wi g tt wi1 g1 tt1 te (own.map (·.2)) vs1) := by
  refine ⟨fun pins s σ H Q inv goal => ?_⟩
  rw [PpSet.eval_SetComp]
  refine sc2_core calm nd inv walk blk sub rg rt re rw1 rg1 rt1 fold0 fold1 goal fun D C s' m H' inv' q ns fr => ⟨m, ns, fun h'' but => ?_⟩
  obtain ⟨n0, n1, n2, n3, n4, n5⟩ := fr
  exact ⟨.ref D, H', inv'.turned (t' := s'.toks) (fun b o nb e => (but.2 b nb).trans e) n0 n1 n3 n4 n5, rfl, q⟩
end
end Fw

/-! ==, != of data without dicts, and of dicts of such data that are equal. -/
namespace Fw
open PySem PySem.Spec PyProof.Rows L2
/-- both read as the same data without dicts -/
def SameD (K : PySem.W.Frag) (H : Hp) (x y : V) : Prop := ∃ d, Dp K H x d ∧ Dp K H y d ∧ d.plain = true ∧ d.depth ≤ 60
/-- two dicts with the same keys and the same data -/
def SameK (K : PySem.W.Frag) (H : Hp) (x y : V) : Prop := ∃ a b ks ls, x = .ref a ∧ y = .ref b ∧ H a = some (.dK ks) ∧ H b = some (.dK ls) ∧ ks.length = ls.length ∧ ∀ p ∈ ks, ∃ u, valV ls p.1 = some u ∧ SameD K H p.2 u
def rEqM (K : PySem.W.Frag) : R2 := fun x y H Q => (SameD K H x y ∨ SameK K H x y) ∧ Q (.bl true) H
def rNeM (K : PySem.W.Frag) : R2 := fun x y H Q => (SameD K H x y ∨ SameK K H x y) ∧ Q (.bl false) H
/-- any data without dicts -/
def rEqP (K : PySem.W.Frag) : R2 := fun x y H Q => ∃ d e, Dp K H x d ∧ Dp K H y e ∧ d.plain = true ∧ e.plain = true ∧ d.depth ≤ 60 ∧ Q (.bl (PyData.eqv d e)) H
def rNeP (K : PySem.W.Frag) : R2 := fun x y H Q => ∃ d e, Dp K H x d ∧ Dp K H y e ∧ d.plain = true ∧ e.plain = true ∧ d.depth ≤ 60 ∧ Q (.bl (!PyData.eqv d e)) H
section
variable {X : Cx} {pins : List (Addr × Obj)} {σ : L2.St} {H : Hp} {s : Shared}
theorem hits_same (I : Inv X pins σ H s) {A : Around} (hu : A.units + 60 < cLine) {ls : List (Key × V)} {vb : List (Key × Value)} (rb : KV ls vb) {ks : List (Key × V)} {va : List (Key × Value)}
    (ra : KV ks va) : (∀ p ∈ ks, ∃ u, valV ls p.1 = some u ∧ SameD X.K H p.2 u) → PySem.W.KeqHits A s vb va true := by
  unfold KV at ra
  induction ra with
  | nil => intro _; exact .nil
  | @cons p q ps qs h t k =>
    intro hp
    obtain ⟨h1, h2⟩ := h
    obtain ⟨u, e, d, dx, dy, pl, dp⟩ := hp p List.mem_cons_self
    have rr : RelO (some u) (valueAt vb p.1) := by rw [← e]; exact rb.val p.1
    obtain ⟨y, hy, ry⟩ := rr.some_of
    obtain ⟨key, v⟩ := q
    have h1' : p.1 = key := h1
    rw [h1'] at hy
    obtain ⟨as, r1⟩ := Dp.reads I d p.2 v dx h2
    obtain ⟨bs, r2⟩ := Dp.reads I d u y dy ry
    have eq := SeqAt.eqAt_plain d d A s v y as bs r1 r2 pl pl (by rw [Nat.min_self]; omega)
    rw [SeqAt.eqv_refl_plain d pl] at eq
    show PySem.W.KeqHits A s vb ((key, v) :: qs) (true && true)
    exact .hit hy eq (k fun p' hm => hp p' (List.mem_cons_of_mem _ hm))
end
section
variable {X : Cx}
theorem op_eqM (hu : X.A.units + 64 < cLine) : OpR X (compareOp .Eq) (rEqM X.K) := by
  intro pins s σ H x y v u Q I rx ry h
  rcases h with ⟨⟨d, hx, hy, p, dp⟩ | ⟨a, b, ks, ls, rfl, rfl, ea, eb, hlen, hp⟩, q⟩
  · obtain ⟨as, r1⟩ := Dp.reads I d x v hx rx
    obtain ⟨bs, r2⟩ := Dp.reads I d y u hy ry
    refine SeqAt.eq_plain r1 r2 p p (by rw [Nat.min_self]; omega) ?_
    rw [SeqAt.eqv_refl_plain d p]
    exact ⟨.bl true, H, I, rfl, q⟩
  · obtain rfl : v = Value.ref a := rx
    obtain rfl : u = Value.ref b := ry
    obtain ⟨_, ya, va, ra, da⟩ := (show ObjOk X.prog X.w H s.heap a (.dK ks) from I.hok a _ ea)
    obtain ⟨_, yb, vb, rb, db⟩ := (show ObjOk X.prog X.w H s.heap b (.dK ls) from I.hok b _ eb)
    have hl : va.length = vb.length := by rw [← ra.length, ← rb.length]; exact hlen
    exact PySem.W.keq_eq (knd := mixKind X.prog X.w) (r := true) ya yb da db (by omega) (fun _ => hits_same I (by show X.A.units + 1 + 60 < cLine; omega) rb ra hp) (fin_bl I q (by simp [hl]))
theorem op_neM (hu : X.A.units + 64 < cLine) : OpR X (compareOp .NotEq) (rNeM X.K) := by
  intro pins s σ H x y v u Q I rx ry h
  rcases h with ⟨⟨d, hx, hy, p, dp⟩ | ⟨a, b, ks, ls, rfl, rfl, ea, eb, hlen, hp⟩, q⟩
  · obtain ⟨as, r1⟩ := Dp.reads I d x v hx rx
    obtain ⟨bs, r2⟩ := Dp.reads I d y u hy ry
    refine SeqAt.ne_plain r1 r2 p p (by rw [Nat.min_self]; omega) ?_
    rw [SeqAt.eqv_refl_plain d p]
    exact ⟨.bl false, H, I, rfl, q⟩
  · obtain rfl : v = Value.ref a := rx
    obtain rfl : u = Value.ref b := ry
    obtain ⟨_, ya, va, ra, da⟩ := (show ObjOk X.prog X.w H s.heap a (.dK ks) from I.hok a _ ea)
    obtain ⟨_, yb, vb, rb, db⟩ := (show ObjOk X.prog X.w H s.heap b (.dK ls) from I.hok b _ eb)
    have hl : va.length = vb.length := by rw [← ra.length, ← rb.length]; exact hlen
    exact PySem.W.keq_ne (knd := mixKind X.prog X.w) (r := true) ya yb da db (by omega) (fun _ => hits_same I (by show X.A.units + 1 + 60 < cLine; omega) rb ra hp) (fin_bl I q (by simp [hl]))
theorem op_eqP (hu : X.A.units + 64 < cLine) : OpR X (compareOp .Eq) (rEqP X.K) := by
  intro pins s σ H x y v u Q I rx ry h
  obtain ⟨d, e, hx, hy, p, p', dp, q⟩ := h
  obtain ⟨as, r1⟩ := Dp.reads I d x v hx rx
  obtain ⟨bs, r2⟩ := Dp.reads I e y u hy ry
  exact SeqAt.eq_plain r1 r2 p p' (by have := Nat.min_le_left d.depth e.depth; omega) ⟨.bl _, H, I, rfl, q⟩
theorem op_neP (hu : X.A.units + 64 < cLine) : OpR X (compareOp .NotEq) (rNeP X.K) := by
  intro pins s σ H x y v u Q I rx ry h
  obtain ⟨d, e, hx, hy, p, p', dp, q⟩ := h
  obtain ⟨as, r1⟩ := Dp.reads I d x v hx rx
  obtain ⟨bs, r2⟩ := Dp.reads I e y u hy ry
  exact SeqAt.ne_plain r1 r2 p p' (by have := Nat.min_le_left d.depth e.depth; omega) ⟨.bl _, H, I, rfl, q⟩
end
/-! ### data that stays -/
theorem seqL_same {K : PySem.W.Frag} {H H' : Hp} {a : Addr} {xs : List V} (h : SqL K H a xs) (s : Same H H') : SqL K H' a xs := by
  rcases h with (h | ⟨o, h⟩) | h
  · exact .inl (.inl (s _ _ h))
  · exact .inl (.inr ⟨o, s _ _ h⟩)
  · exact .inr h
theorem seqT_same {K : PySem.W.Frag} {H H' : Hp} {a : Addr} {xs : List V} (h : SqT K H a xs) (s : Same H H') : SqT K H' a xs := by
  rcases h with (h | ⟨o, h⟩) | h
  · exact .inl (.inl (s _ _ h))
  · exact .inl (.inr ⟨o, s _ _ h⟩)
  · exact .inr h
mutual
theorem Dp.same {K : PySem.W.Frag} {H H' : Hp} (s : Same H H') : ∀ {x : V} {d : PyData}, Dp K H x d → Dp K H' x d
  | _, _, .non => .non
  | _, _, .bl b => .bl b
  | _, _, .int i => .int i
  | _, _, .str x => .str x
  | _, _, .lst h t => .lst (seqL_same h s) (DpAll.same s t)
  | _, _, .tup h t => .tup (seqT_same h s) (DpAll.same s t)
theorem DpAll.same {K : PySem.W.Frag} {H H' : Hp} (s : Same H H') : ∀ {xs : List V} {ds : List PyData}, DpAll K H xs ds → DpAll K H' xs ds
  | _, _, .nil => .nil
  | _, _, .cons h t => .cons (Dp.same s h) (DpAll.same s t)
end
theorem SameD.same {K : PySem.W.Frag} {H H' : Hp} {x y : V} (h : SameD K H x y) (s : Same H H') : SameD K H' x y := by
  obtain ⟨d, a, b, c, e⟩ := h
  exact ⟨d, Dp.same s a, Dp.same s b, c, e⟩
end Fw

/-! Values by what they stand for; lists that grow; comprehensions by what each turn gives. -/
namespace Fw
open PySem PySem.Spec PyProof.Rows L2
theorem walk_by {J : It} {n : Nat} {G : Hp → Prop} {Y : Nat → Hp → V → Hp → Prop} (wk : Walk J n G Y) {H0 : Hp} {Qd : Hp → Prop} {C : (Hp → Prop) → V → Hp → Prop} (Pv : Nat → Hp → Prop) (start : Pv 0 H0) (stays : ∀ i H, i ≤ n → Pv i H → G H)
    (turn : ∀ i x H H', i < n → Pv i H → Y i H x H' → C (Pv (i + 1)) x H') (after : ∀ H, Pv n H → Qd H) :
    ∃ W : Nat → Nat → Hp → Prop, (∃ m, W 0 m H0) ∧ ∀ i m H, W i m H → (J.stop i H ∧ Qd H) ∨ (J.go i H ∧ ∃ Nx : Hp → Prop, (∀ H', Nx H' → ∃ m', m' < m ∧ W (i + 1) m' H') ∧ ∀ x H', J.yld i H x H' → C Nx x H') := by
  refine ⟨fun i m H => (m = n - i ∧ i ≤ n) ∧ Pv i H, ⟨n, ⟨by simp, Nat.zero_le _⟩, start⟩, ?_⟩
  rintro i m H ⟨⟨rfl, le⟩, pv⟩
  have st := stays i H le pv
  by_cases lt : i < n
  · exact .inr ⟨wk.goes i H lt st, Pv (i + 1), fun H' pv' => ⟨n - (i + 1), by omega, ⟨rfl, lt⟩, pv'⟩, fun x H' y => turn i x H H' lt pv (wk.yields i H x H' lt st y)⟩
  · obtain rfl : i = n := by omega
    exact .inl ⟨wk.stops H st, after H pv⟩
section
variable {X : Cx} {K : PySem.W.Frag} {tg l : Expr} {tl : TE}
theorem sl_listK (h : X.K = K) : SlR X (rSlL K) := h ▸ sl_list
theorem pi_tupK (h : X.K = K) (r : PE X l tl) : PI X tg l (iTup K tl) := h ▸ pi_tup r
theorem pi_listK (h : X.K = K) (r : PE X l tl) : PI X tg l (iList K tl) := h ▸ pi_list r
end
theorem upd_keeps {H : Hp} {p : Addr} {o : HO} (n : H p = none) : Same H (upd H p o) := fun b u e => by
  rw [upd_ne (ne_of_none e n)]
  exact e
theorem keeps_trans {H H1 H2 : Hp} (a : Same H H1) (b : Same H1 H2) : Same H H2 := fun c o e => b c o (a c o e)
theorem keeps_refl {H : Hp} : Same H H := fun _ _ e => e
theorem keeps_none {H H' : Hp} {x : Addr} (s : Same H H') (n : H' x = none) : H x = none := by
  cases e : H x with
  | none => rfl
  | some o => rw [s _ _ e] at n; cases n
/-- how values stand for things: it stays when the heap grows, and when a list changes -/
structure Rep (β : Type) where
  rel : Hp → V → β → Prop
  same : ∀ {H H' : Hp} {v : V} {b : β}, rel H v b → Same H H' → rel H' v b
  but : ∀ {H : Hp} {v : V} {b : β} {L : Addr} {acc : List V} {o : HO}, H L = some (.lst acc) → rel H v b → rel (upd H L o) v b
inductive Reps {β : Type} (r : Rep β) (H : Hp) : List V → List β → Prop
  | nil : Reps r H [] []
  | cons {v : V} {vs : List V} {b : β} {bs : List β} : r.rel H v b → Reps r H vs bs → Reps r H (v :: vs) (b :: bs)
section
variable {α β : Type} {r : Rep β} {H H' : Hp}
theorem Reps.length {vs : List V} {bs : List β} (h : Reps r H vs bs) : vs.length = bs.length := by
  induction h with
  | nil => rfl
  | cons _ _ k => exact congrArg (· + 1) k
theorem Reps.same {vs : List V} {bs : List β} (h : Reps r H vs bs) (s : Same H H') : Reps r H' vs bs := by
  induction h with
  | nil => exact .nil
  | cons a _ k => exact .cons (r.same a s) k
theorem Reps.but {vs : List V} {bs : List β} {L : Addr} {acc : List V} {o : HO} (h : Reps r H vs bs) (e : H L = some (.lst acc)) : Reps r (upd H L o) vs bs := by
  induction h with
  | nil => exact .nil
  | cons a _ k => exact .cons (r.but e a) k
theorem Reps.append {vs us : List V} {bs cs : List β} (h : Reps r H vs bs) (k : Reps r H us cs) : Reps r H (vs ++ us) (bs ++ cs) := by
  induction h with
  | nil => exact k
  | cons a _ z => exact .cons a z
theorem Reps.one {v : V} {b : β} (h : r.rel H v b) : Reps r H [v] [b] := .cons h .nil
theorem Reps.get {vs : List V} {bs : List β} (h : Reps r H vs bs) : ∀ {i : Nat} {v : V}, vs[i]? = some v → ∃ b, bs[i]? = some b ∧ r.rel H v b := by
  induction h with
  | nil => intro i v e; cases e
  | @cons v vs b bs a _ k =>
    intro i u e
    cases i with
    | zero =>
      cases e
      exact ⟨b, rfl, a⟩
    | succ i => exact k (i := i) e
theorem Reps.got {vs : List V} {bs : List β} (h : Reps r H vs bs) : ∀ {i : Nat} {b : β}, bs[i]? = some b → ∃ v, vs[i]? = some v ∧ r.rel H v b := by
  induction h with
  | nil => intro i v e; cases e
  | @cons v vs b bs a _ k =>
    intro i u e
    cases i with
    | zero =>
      cases e
      exact ⟨v, rfl, a⟩
    | succ i => exact k (i := i) e
theorem Reps.drop {vs : List V} {bs : List β} (h : Reps r H vs bs) : ∀ n, Reps r H (vs.drop n) (bs.drop n) := by
  induction h with
  | nil => intro n; cases n <;> exact .nil
  | cons a t k =>
    intro n
    cases n with
    | zero => exact .cons a t
    | succ n => exact k n
theorem Reps.take {vs : List V} {bs : List β} (h : Reps r H vs bs) : ∀ n, Reps r H (vs.take n) (bs.take n) := by
  induction h with
  | nil => intro n; cases n <;> exact .nil
  | cons a t k =>
    intro n
    cases n with
    | zero => exact .nil
    | succ n => exact .cons a (k n)
end
/-- texts -/
def repS : Rep Str := ⟨fun _ v b => v = .str b, fun h _ => h, fun _ h => h⟩
def repI : Rep Int := ⟨fun _ v b => v = .int b, fun h _ => h, fun _ h => h⟩
def repB : Rep Bool := ⟨fun _ v b => v = .bl b, fun h _ => h, fun _ h => h⟩
theorem rd_grow {H : Hp} {L b : Addr} {acc : List V} {o : HO} {xs : List V} (at_ : H L = some (.lst acc)) (h : Rd H b (.tup xs)) : Rd (upd H L o) b (.tup xs) := by
  rcases h with h | ⟨u, h⟩
  · exact .inl (by rw [upd_ne (fun z => by rw [z, at_] at h; cases h)]; exact h)
  · exact .inr ⟨u, by rw [upd_ne (fun z => by rw [z, at_] at h; cases h)]; exact h⟩
/-- tuples of texts, none empty -/
def repT : Rep (List Str) := ⟨fun H v k => ∃ a, v = .ref a ∧ Rd H a (.tup (k.map V.str)) ∧ (∀ x ∈ k, x.length ≤ 1000) ∧ k.length ≤ 1000 ∧ k ≠ [],
  fun ⟨a, e, h, more⟩ s => ⟨a, e, rd_same h s, more⟩, fun at_ ⟨a, e, h, more⟩ => ⟨a, e, rd_grow at_ h, more⟩⟩
theorem reps_strs {H : Hp} : ∀ ns : List Str, Reps repS H (ns.map V.str) ns
  | [] => .nil
  | x :: ns => .cons rfl (reps_strs ns)
theorem reps_strs_of {H : Hp} {vs : List V} {ns : List Str} (h : Reps repS H vs ns) : vs = ns.map V.str := by
  induction h with
  | nil => rfl
  | cons a _ k =>
    have a' : _ = V.str _ := a
    rw [a', k]
    rfl
theorem reps_ints {H : Hp} : ∀ ns : List Int, Reps repI H (ns.map V.int) ns
  | [] => .nil
  | x :: ns => .cons rfl (reps_ints ns)
theorem reps_ints_of {H : Hp} {vs : List V} {ns : List Int} (h : Reps repI H vs ns) : vs = ns.map V.int := by
  induction h with
  | nil => rfl
  | cons a _ k =>
    have a' : _ = V.int _ := a
    rw [a', k]
    rfl
theorem reps_bools_of {H : Hp} {vs : List V} {ns : List Bool} (h : Reps repB H vs ns) : vs = ns.map V.bl := by
  induction h with
  | nil => rfl
  | cons a _ k =>
    have a' : _ = V.bl _ := a
    rw [a', k]
    rfl
/-- the addresses of tuples of texts beside them -/
theorem reps_tups_of {H : Hp} {vs : List V} {ts : List (List Str)} (h : Reps repT H vs ts) : ∃ ks : List (Addr × List Str), vs = ks.map (fun k => V.ref k.1) ∧ ks.map (·.2) = ts ∧ (∀ k ∈ ks, Rd H k.1 (.tup (k.2.map V.str)) ∧ (∀ x ∈ k.2, x.length ≤ 1000) ∧ k.2.length ≤ 1000) ∧ ∀ k ∈ ks, k.2 ≠ [] := by
  induction h with
  | nil => exact ⟨[], rfl, rfl, fun k m => absurd m (by simp), fun k m => absurd m (by simp)⟩
  | @cons v vs b bs a _ k =>
    obtain ⟨ks, e1, e2, e3, e4⟩ := k
    obtain ⟨p, e, h1, h2, h3, h4⟩ := a
    refine ⟨(p, b) :: ks, by rw [e, e1]; rfl, by rw [← e2]; rfl, fun q m => ?_, fun q m => ?_⟩
    · rcases List.mem_cons.mp m with z | m
      · rw [z]; exact ⟨h1, h2, h3⟩
      · exact e3 q m
    · rcases List.mem_cons.mp m with z | m
      · rw [z]; exact h4
      · exact e4 q m
theorem reps_tups {H : Hp} : ∀ {ks : List (Addr × List Str)}, (∀ k ∈ ks, Rd H k.1 (.tup (k.2.map V.str)) ∧ (∀ x ∈ k.2, x.length ≤ 1000) ∧ k.2.length ≤ 1000) → (∀ k ∈ ks, k.2 ≠ []) → Reps repT H (ks.map fun k => V.ref k.1) (ks.map (·.2))
  | [], _, _ => .nil
  | k :: ks, h, n => .cons ⟨k.1, rfl, (h k List.mem_cons_self).1, (h k List.mem_cons_self).2.1, (h k List.mem_cons_self).2.2, n k List.mem_cons_self⟩ (reps_tups (fun q m => h q (List.mem_cons_of_mem _ m)) fun q m => n q (List.mem_cons_of_mem _ m))
/-- at L, new since H0, a list of these -/
def GrowR {β : Type} (r : Rep β) (H0 : Hp) (L : Addr) (bs : List β) (H : Hp) : Prop := H0 L = none ∧ Same H0 H ∧ ∃ ys, H L = some (.lst ys) ∧ Reps r H ys bs
section
variable {β : Type} {r : Rep β} {H0 H H' : Hp} {L : Addr} {bs : List β}
theorem GrowR.new (n : H L = none) : GrowR r H L [] (upd H L (.lst [])) := ⟨n, upd_keeps n, [], upd_same, .nil⟩
theorem GrowR.same (g : GrowR r H0 L bs H) (s : Same H H') : GrowR r H0 L bs H' := by
  obtain ⟨n, s0, ys, e, m⟩ := g
  exact ⟨n, keeps_trans s0 s, ys, s _ _ e, m.same s⟩
theorem GrowR.push {y : V} {b : β} (g : GrowR r H0 L bs H) (h : r.rel H y b) (lt : bs.length < 1000000) :
    ∃ acc, H L = some (.lst acc) ∧ acc.length < sizeLine ∧ GrowR r H0 L (bs ++ [b]) (upd H L (.lst (acc ++ [y]))) := by
  obtain ⟨n, s0, ys, e, m⟩ := g
  refine ⟨ys, e, by rw [m.length]; exact Nat.lt_trans lt (by decide), n, fun c o ec => ?_, ys ++ [y], upd_same, (m.but e).append (.one (r.but e h))⟩
  rw [upd_ne (ne_of_none ec n)]
  exact s0 _ _ ec
theorem GrowR.more {us : List V} {cs : List β} (g : GrowR r H0 L bs H) (h : Reps r H us cs) (lt : bs.length + cs.length < 1000000) :
    ∃ acc, H L = some (.lst acc) ∧ acc.length + us.length ≤ sizeLine ∧ GrowR r H0 L (bs ++ cs) (upd H L (.lst (acc ++ us))) := by
  obtain ⟨n, s0, ys, e, m⟩ := g
  refine ⟨ys, e, by rw [m.length, h.length]; exact Nat.le_of_lt (Nat.lt_trans lt (by decide)), n, fun c o ec => ?_, ys ++ us, upd_same, (m.but e).append (h.but e)⟩
  rw [upd_ne (ne_of_none ec n)]
  exact s0 _ _ ec
end
theorem some_take {β : Type} {fs : Nat → Option β} (i : Nat) : (List.range (i + 1)).filterMap fs = (List.range i).filterMap fs ++ (fs i).toList := by
  rw [List.range_succ, List.filterMap_append]
  cases e : fs i <;> simp [e, List.filterMap_cons]
theorem range_bind {α β : Type} (F : α → Option β) : ∀ as : List α, (List.range as.length).filterMap (fun i => (as[i]?).bind F) = as.filterMap F := by
  intro as
  induction as with
  | nil => rfl
  | cons a as ih =>
    rw [List.length_cons, List.range_succ_eq_map, List.filterMap_cons]
    have e : (List.map Nat.succ (List.range as.length)).filterMap (fun i => ((a :: as)[i]?).bind F) = as.filterMap F := by
      rw [List.filterMap_map]
      exact ih
    rw [e, List.filterMap_cons]
    show (match F a with | none => as.filterMap F | some b => b :: as.filterMap F) = _
    cases F a <;> rfl
section
variable {β : Type} {g : TG} {tt : TT} {te : TE} {vs : List Nat} {σ : L2.St} {H1 : Hp} {D : Addr} {Qd : Hp → Prop}
/-- a comprehension over any walk of n turns: fs tells what each turn gives, if anything -/
theorem lc_walk (r : Rep β) {J : It} {n : Nat} {G : Hp → Prop} {Y : Nat → Hp → V → Hp → Prop} (wk : Walk J n G Y) (fs : Nat → Option β) (nD : H1 D = none) (stays : ∀ H, Same H1 H → G H) (few : n ≤ 100000)
    (turn : ∀ i x Hc Hc' (C : VK) (N : Hp → Prop), i < n → Same H1 Hc → Y i Hc x Hc' → (∀ y H4 b, fs i = some b → Same Hc H4 → r.rel H4 y b → C y H4) → (fs i = none → ∀ H3, Same Hc H3 → N H3) →
      g x (wipe σ vs) Hc' fun σ2 H2 => wipe σ2 vs = wipe σ vs ∧ tt σ2 H2 fun b H3 => if b = true then te σ2 H3 C else N H3)
    (after : ∀ H' ys, Same H1 H' → H' D = some (.lst ys) → Reps r H' ys ((List.range n).filterMap fs) → Qd H') :
    ∃ W : Nat → Nat → Hp → Prop, (∃ m, W 0 m (upd H1 D (.lst []))) ∧ ∀ i m H, W i m H →
      (J.stop i H ∧ Qd H) ∨ (J.go i H ∧ ∃ Nx : Hp → Prop, (∀ H', Nx H' → ∃ m', m' < m ∧ W (i + 1) m' H') ∧ ∀ x H', J.yld i H x H' → g x (wipe σ vs) H' fun σ2 H2 => wipe σ2 vs = wipe σ vs ∧ tt σ2 H2 fun b H3 =>
        if b = true then te σ2 H3 fun y H4 => ∃ acc, H4 D = some (.lst acc) ∧ acc.length < sizeLine ∧ Nx (upd H4 D (.lst (acc ++ [y]))) else Nx H3) := by
  refine walk_by wk (C := fun Nx x H' => g x (wipe σ vs) H' fun σ2 H2 => wipe σ2 vs = wipe σ vs ∧ tt σ2 H2 fun b H3 =>
        if b = true then te σ2 H3 fun y H4 => ∃ acc, H4 D = some (.lst acc) ∧ acc.length < sizeLine ∧ Nx (upd H4 D (.lst (acc ++ [y]))) else Nx H3)
    (fun i H => GrowR r H1 D ((List.range i).filterMap fs) H) (.new nD) (fun i H _ p => stays H p.2.1) (fun i x H H' lt p y => ?_) (fun H p => ?_)
  · refine turn i x H H' _ _ lt p.2.1 y (fun y H4 b e s4 h4 => ?_) (fun e H3 s3 => ?_)
    · have few1 : ((List.range i).filterMap fs).length < 1000000 := by
        have z := List.length_filterMap_le fs (List.range i)
        rw [List.length_range] at z
        omega
      obtain ⟨acc, e1, e2, e3⟩ := (p.same s4).push h4 few1
      refine ⟨acc, e1, e2, ?_⟩
      rw [some_take, e]
      exact e3
    · rw [some_take, e]
      simpa using p.same s3
  · obtain ⟨_, s, ys, e, m⟩ := p
    exact after H ys s e m
/-- over a list -/
theorem lc_listR {α : Type} (ra : Rep α) (r : Rep β) {K : PySem.W.Frag} {a : Addr} {xs : List V} {as : List α} (src : SqL K H1 a xs) (hx : Reps ra H1 xs as) (F : α → Option β) (nD : H1 D = none) (few : as.length ≤ 100000)
    (turn : ∀ (i : Nat) (x : V) (u : α) (Hc : Hp) (C : VK) (N : Hp → Prop), as[i]? = some u → Same H1 Hc → ra.rel Hc x u → (∀ y H4 b, F u = some b → Same Hc H4 → r.rel H4 y b → C y H4) → (F u = none → ∀ H3, Same Hc H3 → N H3) →
      g x (wipe σ vs) Hc fun σ2 H2 => wipe σ2 vs = wipe σ vs ∧ tt σ2 H2 fun b H3 => if b = true then te σ2 H3 C else N H3)
    (after : ∀ H' ys, Same H1 H' → H' D = some (.lst ys) → Reps r H' ys (as.filterMap F) → Qd H') :
    ∃ W : Nat → Nat → Hp → Prop, (∃ m, W 0 m (upd H1 D (.lst []))) ∧ ∀ i m H, W i m H →
      ((Itl K a).stop i H ∧ Qd H) ∨ ((Itl K a).go i H ∧ ∃ Nx : Hp → Prop, (∀ H', Nx H' → ∃ m', m' < m ∧ W (i + 1) m' H') ∧ ∀ x H', (Itl K a).yld i H x H' → g x (wipe σ vs) H' fun σ2 H2 => wipe σ2 vs = wipe σ vs ∧ tt σ2 H2 fun b H3 =>
        if b = true then te σ2 H3 fun y H4 => ∃ acc, H4 D = some (.lst acc) ∧ acc.length < sizeLine ∧ Nx (upd H4 D (.lst (acc ++ [y]))) else Nx H3) := by
  refine lc_walk r (walk_list (K := K) (a := a) (xs := xs)) (fun i => (as[i]?).bind F) nD (fun H s => seqL_same src s) (by rw [hx.length]; exact few) (fun i x Hc Hc' C N lt s y yes no => ?_) (fun H' ys s e m => ?_)
  · obtain ⟨rfl, ex⟩ := y
    obtain ⟨u, eu, hu⟩ := hx.get ex
    refine turn i x u Hc' C N eu s (ra.same hu s) (fun y H4 b e => yes y H4 b (by rw [eu]; exact e)) (fun e => no (by rw [eu]; exact e))
  · rw [hx.length, range_bind] at m
    exact after H' ys s e m
/-- over a tuple -/
theorem lc_tupR {α : Type} (ra : Rep α) (r : Rep β) {K : PySem.W.Frag} {a : Addr} {xs : List V} {as : List α} (src : SqT K H1 a xs) (hx : Reps ra H1 xs as) (F : α → Option β) (nD : H1 D = none) (few : as.length ≤ 100000)
    (turn : ∀ (i : Nat) (x : V) (u : α) (Hc : Hp) (C : VK) (N : Hp → Prop), as[i]? = some u → Same H1 Hc → ra.rel Hc x u → (∀ y H4 b, F u = some b → Same Hc H4 → r.rel H4 y b → C y H4) → (F u = none → ∀ H3, Same Hc H3 → N H3) →
      g x (wipe σ vs) Hc fun σ2 H2 => wipe σ2 vs = wipe σ vs ∧ tt σ2 H2 fun b H3 => if b = true then te σ2 H3 C else N H3)
    (after : ∀ H' ys, Same H1 H' → H' D = some (.lst ys) → Reps r H' ys (as.filterMap F) → Qd H') :
    ∃ W : Nat → Nat → Hp → Prop, (∃ m, W 0 m (upd H1 D (.lst []))) ∧ ∀ i m H, W i m H →
      ((Itt K a).stop i H ∧ Qd H) ∨ ((Itt K a).go i H ∧ ∃ Nx : Hp → Prop, (∀ H', Nx H' → ∃ m', m' < m ∧ W (i + 1) m' H') ∧ ∀ x H', (Itt K a).yld i H x H' → g x (wipe σ vs) H' fun σ2 H2 => wipe σ2 vs = wipe σ vs ∧ tt σ2 H2 fun b H3 =>
        if b = true then te σ2 H3 fun y H4 => ∃ acc, H4 D = some (.lst acc) ∧ acc.length < sizeLine ∧ Nx (upd H4 D (.lst (acc ++ [y]))) else Nx H3) := by
  refine lc_walk r (walk_tup (K := K) (a := a) (xs := xs)) (fun i => (as[i]?).bind F) nD (fun H s => seqT_same src s) (by rw [hx.length]; exact few) (fun i x Hc Hc' C N lt s y yes no => ?_) (fun H' ys s e m => ?_)
  · obtain ⟨rfl, ex⟩ := y
    obtain ⟨u, eu, hu⟩ := hx.get ex
    refine turn i x u Hc' C N eu s (ra.same hu s) (fun y H4 b e => yes y H4 b (by rw [eu]; exact e)) (fun e => no (by rw [eu]; exact e))
  · rw [hx.length, range_bind] at m
    exact after H' ys s e m
end
end Fw

/-! Lists of tuples of texts that grow; walks in n turns, said once for all. -/
namespace Fw
open PySem PySem.Spec PyProof.Rows L2
section
variable {X : Cx} {K : PySem.W.Frag} {tg l : Expr} {tl : TE}
theorem sl_tupAK (h : X.K = K) : SlR X (rSlA K) := h ▸ sl_tupA
end
end Fw
namespace Lx
open PySem PySem.Spec PyProof.Rows L2 Fw
/-- at L, new since H0, a list of tuples of these texts -/
def Grow (H0 : Hp) (L : Addr) (ts : List (List Str)) (H : Hp) : Prop := H0 L = none ∧ Same H0 H ∧ ∃ zs : List (Addr × List Str), H L = some (.lst (zs.map fun k => V.ref k.1)) ∧ zs.map (·.2) = ts ∧ Each H zs ∧ ∀ k ∈ zs, k.2 ≠ []
theorem Grow.new {H : Hp} {L : Addr} (n : H L = none) : Grow H L [] (upd H L (.lst [])) := ⟨n, same_upd n, [], upd_same, rfl, (fun k m => absurd m (by simp)), fun k m => absurd m (by simp)⟩
theorem Grow.same {H0 H H' : Hp} {L : Addr} {ts : List (List Str)} (g : Grow H0 L ts H) (s : Same H H') : Grow H0 L ts H' := by
  obtain ⟨n, s0, zs, e, m, each, ne⟩ := g
  exact ⟨n, same_trans s0 s, zs, s _ _ e, m, each.same s, ne⟩
/-- all but a list at L stands -/
theorem rd_but {H : Hp} {L b : Addr} {acc : List V} {o : HO} {xs : List V} (at_ : H L = some (.lst acc)) (h : Rd H b (.tup xs)) : Rd (upd H L o) b (.tup xs) := by
  rcases h with h | ⟨u, h⟩
  · exact .inl (by rw [upd_ne (fun z => by rw [z, at_] at h; cases h)]; exact h)
  · exact .inr ⟨u, by rw [upd_ne (fun z => by rw [z, at_] at h; cases h)]; exact h⟩
theorem each_but {H : Hp} {L : Addr} {acc : List V} {o : HO} {zs : List (Addr × List Str)} (at_ : H L = some (.lst acc)) (h : Each H zs) : Each (upd H L o) zs := fun k m => ⟨rd_but at_ (h k m).1, (h k m).2⟩
theorem Grow.push {H0 H : Hp} {L c : Addr} {ts : List (List Str)} {k : List Str} (g : Grow H0 L ts H) (hc : Rd H c (.tup (k.map V.str))) (sm : ∀ x ∈ k, x.length ≤ 1000) (few : k.length ≤ 1000) (ne : k ≠ []) (lt : ts.length < 1000) :
    ∃ acc, H L = some (.lst acc) ∧ acc.length < sizeLine ∧ Grow H0 L (ts ++ [k]) (upd H L (.lst (acc ++ [.ref c]))) := by
  obtain ⟨n, s0, zs, e, m, each, ne'⟩ := g
  have ln := congrArg List.length m
  rw [List.length_map] at ln
  refine ⟨_, e, by rw [List.length_map]; exact Nat.lt_trans (ln ▸ lt) (by decide), n, fun b o eb => ?_, zs ++ [(c, k)], by rw [upd_same, List.map_append]; rfl, by rw [List.map_append, m]; rfl, fun j mj => ?_, fun j mj => ?_⟩
  · rw [upd_ne (ne_of_none eb n)]
    exact s0 _ _ eb
  · rcases List.mem_append.mp mj with mj | mj
    · exact each_but e each j mj
    · obtain rfl : j = (c, k) := by simpa using mj
      exact ⟨rd_but e hc, sm, few⟩
  · rcases List.mem_append.mp mj with mj | mj
    · exact ne' j mj
    · obtain rfl : j = (c, k) := by simpa using mj
      exact ne
/-- all pairs of a row -/
def pairsT : List Str → List (List Str)
  | [] => []
  | a :: r => r.map (fun b => [a, b]) ++ pairsT r
theorem pairsT_drop {ns : List Str} {i : Nat} {a : Str} (e : ns[i]? = some a) : pairsT (ns.drop i) = (ns.drop (i + 1)).map (fun b => [a, b]) ++ pairsT (ns.drop (i + 1)) := by
  obtain ⟨lt, e'⟩ := List.getElem?_eq_some_iff.mp e
  rw [List.drop_eq_getElem_cons lt, e']
  rfl
theorem pairsT_len : ∀ ns : List Str, (pairsT ns).length ≤ ns.length * ns.length
  | [] => Nat.le_refl _
  | a :: r => by
    have z := pairsT_len r
    show ((r.map fun b => [a, b]) ++ pairsT r).length ≤ (r.length + 1) * (r.length + 1)
    rw [List.length_append, List.length_map, Nat.add_mul, Nat.mul_add]
    omega
theorem cutFrom (xs : List V) (j : Nat) : cutV xs (some ((j : Nat) : Int)) none = xs.drop j := by
  unfold cutV
  rw [HT.sIx_nat, HT.sIx_none]
  by_cases c : j ≤ xs.length
  · rw [Nat.min_eq_left c]
    exact List.take_of_length_le (by simp)
  · rw [Nat.min_eq_right (by omega), List.drop_of_length_le (Nat.le_refl _), List.drop_of_length_le (by omega), List.take_nil]
end Lx

/-! Webs: all pairs of a row of names. -/
namespace Lx
open PySem PySem.Spec PyProof.Rows L2 Fw
def spPairs : Sp := fun vs H Q _ => ∃ (t : Addr) (ns : List Str), vs = [.ref t] ∧ Rd H t (.tup (ns.map V.str)) ∧ (∀ x ∈ ns, x.length ≤ 1000) ∧ ns.length ≤ 30 ∧ NewT Q H (pairsT ns)
abbrev nAP : List Str := ["places", "k", "a", "b"]
section
variable {P : Program} {w : World} {K : PySem.W.Frag} {mg : Str → Option Value} {base : Heap} {gg : Bool}
theorem scPairs : FnScope nAP ["places"] (defScope sAllPairs) := ⟨rfl, rfl, rfl, by decide +kernel, rfl, by decide +kernel, by decide +kernel⟩
theorem ok_pairs {f : Addr} {fd : FuncData} (F : Fun K "all_pairs" "all_pairs" sAllPairs f fd) (mE : mg "enumerate" = none) : FnV gg P w K mg base CX0 1 f fd ["places"] spPairs := by
  refine fnV F scPairs (fun vs H Q E h => ?_) (fun cdv Ar fr s H vs Q E hG hr h => ?_)
  · obtain ⟨t, ns, rfl, _⟩ := h
    rfl
  · obtain ⟨t, ns, rfl, at_, sm, few, q⟩ := h
    refine ⟨_, pss_one (ps_ret
        (pe_lc2 (own := [("k", 1), ("a", 2), ("b", 3)]) (vs1 := [3]) (g := gTup K 2 (gCons (gName 1) (gCons (gName 2) gNil))) (g1 := gName 3) (by rfl) scPairs.nd (pi_enumT (by rfl) mE (pa_cons (pv 0) pa_nil))
          (blkOk_by (N := nAP) (sc := defScope sAllPairs) (own := [("k", 1), ("a", 2), ("b", 3)]) (by decide +kernel)) (by decide)
          (fun _ _ _ _ _ => pg_tup rfl (pgs_cons (pg_name (i := 1) scPairs.nd rfl (Or.inl rfl)) (pgs_cons (pg_name (i := 2) scPairs.nd rfl (Or.inl rfl)) pgs_nil))) (fun _ _ _ _ _ => pts_nil)
          (fun _ _ _ _ _ => pi_tupK (K := K) rfl (pe_slice (sl_tupAK (K := K) rfl) (pv 0) (po_some (pe_op op_add (pv 1) pe_int)) po_none))
          (fun _ _ _ _ _ => pg_name (i := 3) scPairs.nd rfl (Or.inl rfl)) (fun _ _ _ _ _ => pts_nil)
          (fun _ _ _ _ _ => pe_tup (pa_cons (pv 2) (pa_cons (pv 3) pa_nil))))), ?_⟩
    refine ⟨_, rfl, t, _, rfl, .inl at_, fun L nL => ?_⟩
    refine walk_by (walk_enumT (K := K) (a := t) (xs := ns.map V.str)) (fun i Hc => ∃ ts, Grow H L ts Hc ∧ ts ++ pairsT (ns.drop i) = pairsT ns) ⟨[], Grow.new nL, by simp⟩ (fun i Hc _ z => .inl (rd_same at_ z.choose_spec.1.2.1)) ?_ ?_
    · rintro i y' Hc Hc' lt ⟨ts, gr, ets⟩ ⟨T, u, v, rfl, nT, rfl, eu, ev⟩
      cases eu
      obtain ⟨a, ea, rfl⟩ : ∃ a, ns[i]? = some a ∧ V.str a = v := by
        have ev' : (ns.map V.str)[i]? = some v := ev
        rw [List.getElem?_map] at ev'
        cases z : ns[i]? with
        | none => rw [z] at ev'; cases ev'
        | some y => rw [z] at ev'; exact ⟨y, rfl, Option.some.inj ev'⟩
      have gr1 := gr.same (same_upd (o := .tup [V.int (i : Nat), V.str a]) nT)
      have hT : (upd Hc T (.tup [V.int (i : Nat), V.str a])) T = some (.tup [V.int (i : Nat), V.str a]) := upd_same
      generalize upd Hc T (.tup [V.int (i : Nat), V.str a]) = H1 at gr1 hT ⊢
      have la := List.getElem?_eq_some_iff.mp ea
      refine ⟨T, [V.int (i : Nat), V.str a], rfl, SqT.of hT, rfl, _, _, rfl, _, _, rfl, rfl, rfl, ?_⟩
      have ei : (((i : Nat) : Int) + 1) = ((i + 1 : Nat) : Int) := by omega
      have at1 := rd_same at_ gr1.2.1
      rw [List.length_map] at lt
      refine ⟨_, rfl, _, rfl, _, _, rfl, rfl, ((i + 1 : Nat) : Int), by rw [← ei], t, _, rfl, .inl at1, fun hw => ?_, fun hw p np => ?_⟩
      · have z := hw.1
        rw [HT.sIx_nat, List.length_map] at z
        omega
      have gr2 := gr1.same (same_upd (o := .tup (cutV (ns.map V.str) (some ((i + 1 : Nat) : Int)) none)) np)
      have hp : (upd H1 p (.tup (cutV (ns.map V.str) (some ((i + 1 : Nat) : Int)) none))) p = some (.tup ((ns.drop (i + 1)).map V.str)) := by rw [upd_same, cutFrom, List.map_drop]
      generalize upd H1 p (.tup (cutV (ns.map V.str) (some ((i + 1 : Nat) : Int)) none)) = H2 at gr2 hp ⊢
      rw [pairsT_drop ea] at ets
      have nL2 : L ≠ p := fun z => by
        obtain ⟨_, _, zs, e, _⟩ := gr2
        rw [z, hp] at e
        cases e
      refine ⟨p, rfl, ⟨_, SqT.of hp⟩, ?_⟩
      refine walk_by (walk_tup (K := K) (a := p) (xs := (ns.drop (i + 1)).map V.str)) (fun j Hd => Hd p = some (.tup ((ns.drop (i + 1)).map V.str)) ∧ ∃ ts, Grow H L ts Hd ∧ ts ++ (((ns.drop (i + 1)).drop j).map (fun b => [a, b]) ++ pairsT (ns.drop (i + 1))) = pairsT ns) ⟨hp, ts, gr2, ets⟩ (fun j Hd _ z => SqT.of z.1) ?_ ?_
      · rintro j x Hd Hd' lj ⟨hpd, ts, grd, etd⟩ ⟨rfl, ex⟩
        obtain ⟨b, eb, rfl⟩ : ∃ b, (ns.drop (i + 1))[j]? = some b ∧ V.str b = x := by
          have ex' : ((ns.drop (i + 1)).map V.str)[j]? = some x := ex
          rw [List.getElem?_map] at ex'
          cases z : (ns.drop (i + 1))[j]? with
          | none => rw [z] at ex'; cases ex'
          | some y => rw [z] at ex'; exact ⟨y, rfl, Option.some.inj ex'⟩
        refine ⟨rfl, _, rfl, _, rfl, by show 2 ≤ sizeLine; decide, fun c nc => ?_⟩
        have grc := grd.same (same_upd (o := .tup [V.str a, V.str b]) nc)
        have hc : (upd Hd' c (.tup [V.str a, V.str b])) c = some (.tup ([a, b].map V.str)) := upd_same
        have hpc : (upd Hd' c (.tup [V.str a, V.str b])) p = some (.tup ((ns.drop (i + 1)).map V.str)) := same_upd nc _ _ hpd
        generalize upd Hd' c (.tup [V.str a, V.str b]) = H5 at grc hc hpc ⊢
        have ma := List.mem_of_getElem? ea
        have mb : b ∈ ns := List.mem_of_mem_drop (List.mem_of_getElem? eb)
        have lts : ts.length < 1000 := by
          have z := congrArg List.length etd
          rw [List.length_append] at z
          have y := pairsT_len ns
          have x : ns.length * ns.length ≤ 30 * 30 := Nat.mul_le_mul few few
          omega
        obtain ⟨acc, ea', la', gr'⟩ := grc.push (c := c) (k := [a, b]) (.inl hc) (fun x m => by
          rcases (show x = a ∨ x = b by simpa using m) with z | z
          · rw [z]; exact sm a ma
          · rw [z]; exact sm b mb) (by simp) (by simp) lts
        refine ⟨acc, ea', la', by rw [upd_ne (Ne.symm nL2)]; exact hpc, ts ++ [[a, b]], gr', ?_⟩
        obtain ⟨lt2, eb'⟩ := List.getElem?_eq_some_iff.mp eb
        rw [List.drop_eq_getElem_cons lt2, eb'] at etd
        rw [← etd]
        simp
      · rintro Hd ⟨_, ts, grd, etd⟩
        rw [List.length_map, List.drop_length] at etd
        exact ⟨ts, grd, by simpa using etd⟩
    · rintro Hc ⟨ts, gr, ets⟩
      obtain ⟨n, s0, zs, e, m, each, ne⟩ := gr
      rw [List.length_map, List.drop_length] at ets
      have ets' : ts = pairsT ns := by rw [← ets]; simp [pairsT]
      exact q Hc L zs s0 n e (m.trans ets') each ne
end
end Lx

/-! All facts of the top, as one. -/
namespace Lx
open PySem PySem.Spec PyProof.Rows L2 Fw
def methOf (i j : Nat) : Stmt := match top i with
  | .ClassDef (body := b) .. => b.getD j (.Pass ⟨0, 0, 0, 0⟩)
  | _ => .Pass ⟨0, 0, 0, 0⟩
structure TX (K : PySem.W.Frag) (mg : Str → Option Value) where
  f_near_marks : Addr
  d_near_marks : FuncData
  F_near_marks : Fun K "near_marks" "near_marks" (top 2) f_near_marks d_near_marks
  m_near_marks : mg "near_marks" = some (.ref f_near_marks)
  b_near_marks : Binds K d_near_marks ["places", "ties"] []
  f_marked : Addr
  d_marked : FuncData
  F_marked : Fun K "marked" "marked" (top 3) f_marked d_marked
  m_marked : mg "marked" = some (.ref f_marked)
  b_marked : Binds K d_marked ["places", "mark"] []
  C_WebError : Addr
  g_WebError : mg "WebError" = some (.ref C_WebError)
  X_WebError : ExP K mg "WebError" C_WebError
  C_InvalidPlace : Addr
  g_InvalidPlace : mg "InvalidPlace" = some (.ref C_InvalidPlace)
  X_InvalidPlace : ExP K mg "InvalidPlace" C_InvalidPlace
  C_InvalidTie : Addr
  g_InvalidTie : mg "InvalidTie" = some (.ref C_InvalidTie)
  X_InvalidTie : ExP K mg "InvalidTie" C_InvalidTie
  C_InvalidWeb : Addr
  g_InvalidWeb : mg "InvalidWeb" = some (.ref C_InvalidWeb)
  X_InvalidWeb : ExP K mg "InvalidWeb" C_InvalidWeb
  C_InvalidOperation : Addr
  g_InvalidOperation : mg "InvalidOperation" = some (.ref C_InvalidOperation)
  X_InvalidOperation : ExP K mg "InvalidOperation" C_InvalidOperation
  C_UnknownName : Addr
  g_UnknownName : mg "UnknownName" = some (.ref C_UnknownName)
  kp_UnknownName : PySem.W.keepIn K (.ref C_UnknownName) = true
  hs_UnknownName : PySem.W.subIn K (.ref C_UnknownName) (.type "BaseException") = some true
  ty_UnknownName : PySem.W.typeIn K (.ref C_UnknownName) = some (.type "type")
  C_TooMany : Addr
  g_TooMany : mg "TooMany" = some (.ref C_TooMany)
  kp_TooMany : PySem.W.keepIn K (.ref C_TooMany) = true
  hs_TooMany : PySem.W.subIn K (.ref C_TooMany) (.type "BaseException") = some true
  ty_TooMany : PySem.W.typeIn K (.ref C_TooMany) = some (.type "type")
  v_MAX_LETTERS : ∃ t, mg "MAX_LETTERS" = some (.int 8 t)
  f_is_name : Addr
  d_is_name : FuncData
  F_is_name : Fun K "is_name" "is_name" (top 14) f_is_name d_is_name
  m_is_name : mg "is_name" = some (.ref f_is_name)
  b_is_name : Binds K d_is_name ["value"] []
  f_are_names : Addr
  d_are_names : FuncData
  F_are_names : Fun K "are_names" "are_names" (top 15) f_are_names d_are_names
  m_are_names : mg "are_names" = some (.ref f_are_names)
  b_are_names : Binds K d_are_names ["value"] []
  f_are_different : Addr
  d_are_different : FuncData
  F_are_different : Fun K "are_different" "are_different" (top 16) f_are_different d_are_different
  m_are_different : mg "are_different" = some (.ref f_are_different)
  b_are_different : Binds K d_are_different ["value", "least"] []
  f_is_ascending : Addr
  d_is_ascending : FuncData
  F_is_ascending : Fun K "is_ascending" "is_ascending" (top 17) f_is_ascending d_is_ascending
  m_is_ascending : mg "is_ascending" = some (.ref f_is_ascending)
  b_is_ascending : Binds K d_is_ascending ["row"] []
  f_has_keys : Addr
  d_has_keys : FuncData
  F_has_keys : Fun K "has_keys" "has_keys" (top 18) f_has_keys d_has_keys
  m_has_keys : mg "has_keys" = some (.ref f_has_keys)
  b_has_keys : Binds K d_has_keys ["value", "names"] []
  f_is_naming : Addr
  d_is_naming : FuncData
  F_is_naming : Fun K "is_naming" "is_naming" (top 19) f_is_naming d_is_naming
  m_is_naming : mg "is_naming" = some (.ref f_is_naming)
  b_is_naming : Binds K d_is_naming ["names", "value"] []
  v_MAX_PLACES : ∃ t, mg "MAX_PLACES" = some (.int 12 t)
  v_MAX_TIES : ∃ t, mg "MAX_TIES" = some (.int 40 t)
  C_Web : Addr
  g_Web : mg "Web" = some (.ref C_Web)
  cl_Web : Cls K C_Web
  isC_Web : C8.InsC K C_Web
  na_Web__places : NoAttr K C_Web "_places"
  na_Web__ties : NoAttr K C_Web "_ties"
  na_Web__near : NoAttr K C_Web "_near"
  f_Web___init__ : Addr
  d_Web___init__ : FuncData
  F_Web___init__ : Fun K "__init__" "Web.__init__" (methOf 23 0) f_Web___init__ d_Web___init__
  b_Web___init__ : Binds K d_Web___init__ ["self", "places", "ties"] []
  mk_Web : Mk K C_Web f_Web___init__
  M_Web___init__ : Meth K C_Web "__init__" f_Web___init__
  f_Web_of_ties : Addr
  d_Web_of_ties : FuncData
  F_Web_of_ties : Fun K "of_ties" "Web.of_ties" (methOf 23 2) f_Web_of_ties d_Web_of_ties
  p_Web_of_ties : Addr
  mc_Web : Value
  CR_Web : ClX.CRead K C_Web mc_Web
  CM_Web_of_ties : ClX.CMet K C_Web mc_Web "of_ties" p_Web_of_ties f_Web_of_ties
  f_Web_places : Addr
  d_Web_places : FuncData
  F_Web_places : Fun K "places" "Web.places" (methOf 23 3) f_Web_places d_Web_places
  b_Web_places : Binds K d_Web_places ["self"] []
  p_Web_places : Addr
  P_Web_places : PropOf K C_Web "places" p_Web_places f_Web_places
  f_Web_ties : Addr
  d_Web_ties : FuncData
  F_Web_ties : Fun K "ties" "Web.ties" (methOf 23 4) f_Web_ties d_Web_ties
  b_Web_ties : Binds K d_Web_ties ["self"] []
  p_Web_ties : Addr
  P_Web_ties : PropOf K C_Web "ties" p_Web_ties f_Web_ties
  f_Web_lines : Addr
  d_Web_lines : FuncData
  F_Web_lines : Fun K "lines" "Web.lines" (methOf 23 5) f_Web_lines d_Web_lines
  b_Web_lines : Binds K d_Web_lines ["self"] []
  p_Web_lines : Addr
  P_Web_lines : PropOf K C_Web "lines" p_Web_lines f_Web_lines
  f_Web_neighbours : Addr
  d_Web_neighbours : FuncData
  F_Web_neighbours : Fun K "neighbours" "Web.neighbours" (methOf 23 9) f_Web_neighbours d_Web_neighbours
  b_Web_neighbours : Binds K d_Web_neighbours ["self", "place"] []
  M_Web_neighbours : Meth K C_Web "neighbours" f_Web_neighbours
  f_Web_is_tied : Addr
  d_Web_is_tied : FuncData
  F_Web_is_tied : Fun K "is_tied" "Web.is_tied" (methOf 23 11) f_Web_is_tied d_Web_is_tied
  b_Web_is_tied : Binds K d_Web_is_tied ["self", "a", "b"] []
  M_Web_is_tied : Meth K C_Web "is_tied" f_Web_is_tied
  f_Web_with_tie : Addr
  d_Web_with_tie : FuncData
  F_Web_with_tie : Fun K "with_tie" "Web.with_tie" (methOf 23 12) f_Web_with_tie d_Web_with_tie
  b_Web_with_tie : Binds K d_Web_with_tie ["self", "a", "b"] []
  M_Web_with_tie : Meth K C_Web "with_tie" f_Web_with_tie
  f_Web_without_tie : Addr
  d_Web_without_tie : FuncData
  F_Web_without_tie : Fun K "without_tie" "Web.without_tie" (methOf 23 13) f_Web_without_tie d_Web_without_tie
  b_Web_without_tie : Binds K d_Web_without_tie ["self", "a", "b"] []
  M_Web_without_tie : Meth K C_Web "without_tie" f_Web_without_tie
  f_Web_with_place : Addr
  d_Web_with_place : FuncData
  F_Web_with_place : Fun K "with_place" "Web.with_place" (methOf 23 14) f_Web_with_place d_Web_with_place
  b_Web_with_place : Binds K d_Web_with_place ["self", "name"] []
  M_Web_with_place : Meth K C_Web "with_place" f_Web_with_place
  f_Web_without_places : Addr
  d_Web_without_places : FuncData
  F_Web_without_places : Fun K "without_places" "Web.without_places" (methOf 23 15) f_Web_without_places d_Web_without_places
  b_Web_without_places : Binds K d_Web_without_places ["self", "places"] []
  M_Web_without_places : Meth K C_Web "without_places" f_Web_without_places
  f_Web_drawn_together : Addr
  d_Web_drawn_together : FuncData
  F_Web_drawn_together : Fun K "drawn_together" "Web.drawn_together" (methOf 23 16) f_Web_drawn_together d_Web_drawn_together
  b_Web_drawn_together : Binds K d_Web_drawn_together ["self", "a", "b"] []
  M_Web_drawn_together : Meth K C_Web "drawn_together" f_Web_drawn_together
  f_Web_renamed : Addr
  d_Web_renamed : FuncData
  F_Web_renamed : Fun K "renamed" "Web.renamed" (methOf 23 17) f_Web_renamed d_Web_renamed
  b_Web_renamed : Binds K d_Web_renamed ["self", "names"] []
  M_Web_renamed : Meth K C_Web "renamed" f_Web_renamed
  f_Web___add__ : Addr
  d_Web___add__ : FuncData
  F_Web___add__ : Fun K "__add__" "Web.__add__" (methOf 23 18) f_Web___add__ d_Web___add__
  b_Web___add__ : Binds K d_Web___add__ ["self", "other"] []
  M_Web___add__ : Meth K C_Web "__add__" f_Web___add__
  O_Web___add__ : OwnOp K C_Web f_Web___add__ .Add
  f_Web___sub__ : Addr
  d_Web___sub__ : FuncData
  F_Web___sub__ : Fun K "__sub__" "Web.__sub__" (methOf 23 19) f_Web___sub__ d_Web___sub__
  b_Web___sub__ : Binds K d_Web___sub__ ["self", "other"] []
  M_Web___sub__ : Meth K C_Web "__sub__" f_Web___sub__
  O_Web___sub__ : OwnOp K C_Web f_Web___sub__ .Sub
  OT_Web___sub__ : TupOp K C_Web .Sub
  f_Web___invert__ : Addr
  d_Web___invert__ : FuncData
  F_Web___invert__ : Fun K "__invert__" "Web.__invert__" (methOf 23 20) f_Web___invert__ d_Web___invert__
  b_Web___invert__ : Binds K d_Web___invert__ ["self"] []
  M_Web___invert__ : Meth K C_Web "__invert__" f_Web___invert__
  f_Web___contains__ : Addr
  d_Web___contains__ : FuncData
  F_Web___contains__ : Fun K "__contains__" "Web.__contains__" (methOf 23 21) f_Web___contains__ d_Web___contains__
  b_Web___contains__ : Binds K d_Web___contains__ ["self", "value"] []
  M_Web___contains__ : Meth K C_Web "__contains__" f_Web___contains__
  f_Web___len__ : Addr
  d_Web___len__ : FuncData
  F_Web___len__ : Fun K "__len__" "Web.__len__" (methOf 23 22) f_Web___len__ d_Web___len__
  b_Web___len__ : Binds K d_Web___len__ ["self"] []
  M_Web___len__ : Meth K C_Web "__len__" f_Web___len__
  f_Web___iter__ : Addr
  d_Web___iter__ : FuncData
  F_Web___iter__ : Fun K "__iter__" "Web.__iter__" (methOf 23 23) f_Web___iter__ d_Web___iter__
  b_Web___iter__ : Binds K d_Web___iter__ ["self"] []
  M_Web___iter__ : Meth K C_Web "__iter__" f_Web___iter__
  f_Web___eq__ : Addr
  d_Web___eq__ : FuncData
  F_Web___eq__ : Fun K "__eq__" "Web.__eq__" (methOf 23 24) f_Web___eq__ d_Web___eq__
  b_Web___eq__ : Binds K d_Web___eq__ ["self", "other"] []
  M_Web___eq__ : Meth K C_Web "__eq__" f_Web___eq__
  OE_Web___eq__ : OwnNe K C_Web f_Web___eq__
  f_Web___str__ : Addr
  d_Web___str__ : FuncData
  F_Web___str__ : Fun K "__str__" "Web.__str__" (methOf 23 25) f_Web___str__ d_Web___str__
  b_Web___str__ : Binds K d_Web___str__ ["self"] []
  M_Web___str__ : Meth K C_Web "__str__" f_Web___str__
  f_full_web : Addr
  d_full_web : FuncData
  F_full_web : Fun K "full_web" "full_web" (top 24) f_full_web d_full_web
  m_full_web : mg "full_web" = some (.ref f_full_web)
  b_full_web : Binds K d_full_web ["places"] []
  f_ring_web : Addr
  d_ring_web : FuncData
  F_ring_web : Fun K "ring_web" "ring_web" (top 25) f_ring_web d_ring_web
  m_ring_web : mg "ring_web" = some (.ref f_ring_web)
  b_ring_web : Binds K d_ring_web ["ring"] []
  f_need_places : Addr
  d_need_places : FuncData
  F_need_places : Fun K "need_places" "need_places" (top 26) f_need_places d_need_places
  m_need_places : mg "need_places" = some (.ref f_need_places)
  f_gathered_web : Addr
  d_gathered_web : FuncData
  F_gathered_web : Fun K "gathered_web" "gathered_web" (top 27) f_gathered_web d_gathered_web
  m_gathered_web : mg "gathered_web" = some (.ref f_gathered_web)
  b_gathered_web : Binds K d_gathered_web ["places", "ties"] []
  f_web_on : Addr
  d_web_on : FuncData
  F_web_on : Fun K "web_on" "web_on" (top 28) f_web_on d_web_on
  m_web_on : mg "web_on" = some (.ref f_web_on)
  b_web_on : Binds K d_web_on ["web", "places"] []
  f_is_web_of : Addr
  d_is_web_of : FuncData
  F_is_web_of : Fun K "is_web_of" "is_web_of" (top 29) f_is_web_of d_is_web_of
  m_is_web_of : mg "is_web_of" = some (.ref f_is_web_of)
  b_is_web_of : Binds K d_is_web_of ["places", "ties"] []
  f_is_tie : Addr
  d_is_tie : FuncData
  F_is_tie : Fun K "is_tie" "is_tie" (top 30) f_is_tie d_is_tie
  m_is_tie : mg "is_tie" = some (.ref f_is_tie)
  b_is_tie : Binds K d_is_tie ["value"] []
  f_pair_of : Addr
  d_pair_of : FuncData
  F_pair_of : Fun K "pair_of" "pair_of" (top 31) f_pair_of d_pair_of
  m_pair_of : mg "pair_of" = some (.ref f_pair_of)
  b_pair_of : Binds K d_pair_of ["a", "b"] []
  f_all_pairs : Addr
  d_all_pairs : FuncData
  F_all_pairs : Fun K "all_pairs" "all_pairs" (top 32) f_all_pairs d_all_pairs
  m_all_pairs : mg "all_pairs" = some (.ref f_all_pairs)
  b_all_pairs : Binds K d_all_pairs ["places"] []
  f_ties_along : Addr
  d_ties_along : FuncData
  F_ties_along : Fun K "ties_along" "ties_along" (top 33) f_ties_along d_ties_along
  m_ties_along : mg "ties_along" = some (.ref f_ties_along)
  b_ties_along : Binds K d_ties_along ["row"] []
  f_ties_round : Addr
  d_ties_round : FuncData
  F_ties_round : Fun K "ties_round" "ties_round" (top 34) f_ties_round d_ties_round
  m_ties_round : mg "ties_round" = some (.ref f_ties_round)
  b_ties_round : Binds K d_ties_round ["ring"] []
  f__are_places : Addr
  d__are_places : FuncData
  F__are_places : Fun K "_are_places" "_are_places" (top 35) f__are_places d__are_places
  m__are_places : mg "_are_places" = some (.ref f__are_places)
  b__are_places : Binds K d__are_places ["value"] []
  f__are_ties : Addr
  d__are_ties : FuncData
  F__are_ties : Fun K "_are_ties" "_are_ties" (top 36) f__are_ties d__are_ties
  m__are_ties : mg "_are_ties" = some (.ref f__are_ties)
  b__are_ties : Binds K d__are_ties ["places", "value"] []
  f__law_dice : Addr
  d__law_dice : FuncData
  F__law_dice : Fun K "_law_dice" "_law_dice" (top 38) f__law_dice d__law_dice
  m__law_dice : mg "_law_dice" = some (.ref f__law_dice)
  b__law_dice : Binds K d__law_dice ["_law_script", "_law_spot"] []
  f__law_roll : Addr
  d__law_roll : FuncData
  F__law_roll : Fun K "_law_roll" "_law_roll" (top 39) f__law_roll d__law_roll
  m__law_roll : mg "_law_roll" = some (.ref f__law_roll)
  b__law_roll : Binds K d__law_roll ["_law_dice_here", "_law_total"] []
  f__law_pick : Addr
  d__law_pick : FuncData
  F__law_pick : Fun K "_law_pick" "_law_pick" (top 40) f__law_pick d__law_pick
  m__law_pick : mg "_law_pick" = some (.ref f__law_pick)
  b__law_pick : Binds K d__law_pick ["_law_dice_here", "_law_items"] []
  f__law_mixed : Addr
  d__law_mixed : FuncData
  F__law_mixed : Fun K "_law_mixed" "_law_mixed" (top 41) f__law_mixed d__law_mixed
  m__law_mixed : mg "_law_mixed" = some (.ref f__law_mixed)
  b__law_mixed : Binds K d__law_mixed ["_law_dice_here", "_law_items"] []
  f__law_tie : Addr
  d__law_tie : FuncData
  F__law_tie : Fun K "_law_tie" "_law_tie" (top 42) f__law_tie d__law_tie
  m__law_tie : mg "_law_tie" = some (.ref f__law_tie)
  b__law_tie : Binds K d__law_tie ["_law_a", "_law_b"] []
  f__law_plain : Addr
  d__law_plain : FuncData
  F__law_plain : Fun K "_law_plain" "_law_plain" (top 43) f__law_plain d__law_plain
  m__law_plain : mg "_law_plain" = some (.ref f__law_plain)
  b__law_plain : Binds K d__law_plain ["_law_places", "_law_ties"] []
  f__law_made : Addr
  d__law_made : FuncData
  F__law_made : Fun K "_law_made" "_law_made" (top 44) f__law_made d__law_made
  m__law_made : mg "_law_made" = some (.ref f__law_made)
  b__law_made : Binds K d__law_made ["_law_plain_here"] []
  f__law_pairs : Addr
  d__law_pairs : FuncData
  F__law_pairs : Fun K "_law_pairs" "_law_pairs" (top 45) f__law_pairs d__law_pairs
  m__law_pairs : mg "_law_pairs" = some (.ref f__law_pairs)
  b__law_pairs : Binds K d__law_pairs ["_law_places"] []
  f__law_beside : Addr
  d__law_beside : FuncData
  F__law_beside : Fun K "_law_beside" "_law_beside" (top 46) f__law_beside d__law_beside
  m__law_beside : mg "_law_beside" = some (.ref f__law_beside)
  b__law_beside : Binds K d__law_beside ["_law_plain_here", "_law_place"] []
  f__law_names : Addr
  d__law_names : FuncData
  F__law_names : Fun K "_law_names" "_law_names" (top 47) f__law_names d__law_names
  m__law_names : mg "_law_names" = some (.ref f__law_names)
  b__law_names : Binds K d__law_names [] []
  f__law_images : Addr
  d__law_images : FuncData
  F__law_images : Fun K "_law_images" "_law_images" (top 48) f__law_images d__law_images
  m__law_images : mg "_law_images" = some (.ref f__law_images)
  b__law_images : Binds K d__law_images ["_law_dice_here", "_law_places"] []
  f__law_renamed : Addr
  d__law_renamed : FuncData
  F__law_renamed : Fun K "_law_renamed" "_law_renamed" (top 49) f__law_renamed d__law_renamed
  m__law_renamed : mg "_law_renamed" = some (.ref f__law_renamed)
  b__law_renamed : Binds K d__law_renamed ["_law_plain_here", "_law_names_here"] []
  f__law_random : Addr
  d__law_random : FuncData
  F__law_random : Fun K "_law_random" "_law_random" (top 50) f__law_random d__law_random
  m__law_random : mg "_law_random" = some (.ref f__law_random)
  b__law_random : Binds K d__law_random ["_law_dice_here", "_law_most"] []
  f__law_written : Addr
  d__law_written : FuncData
  F__law_written : Fun K "_law_written" "_law_written" (top 51) f__law_written d__law_written
  m__law_written : mg "_law_written" = some (.ref f__law_written)
  b__law_written : Binds K d__law_written ["_law_way"] []
  f__law_told_web : Addr
  d__law_told_web : FuncData
  F__law_told_web : Fun K "_law_told_web" "_law_told_web" (top 52) f__law_told_web d__law_told_web
  m__law_told_web : mg "_law_told_web" = some (.ref f__law_told_web)
  b__law_told_web : Binds K d__law_told_web ["_law_web"] []
  f__law_asked : Addr
  d__law_asked : FuncData
  F__law_asked : Fun K "_law_asked" "_law_asked" (top 53) f__law_asked d__law_asked
  m__law_asked : mg "_law_asked" = some (.ref f__law_asked)
  b__law_asked : Binds K d__law_asked ["_law_call"] []
  f__law_checked : Addr
  d__law_checked : FuncData
  F__law_checked : Fun K "_law_checked" "_law_checked" (top 54) f__law_checked d__law_checked
  m__law_checked : mg "_law_checked" = some (.ref f__law_checked)
  b__law_checked : Binds K d__law_checked ["_law_places", "_law_ties"] []
  f__law_kept : Addr
  d__law_kept : FuncData
  F__law_kept : Fun K "_law_kept" "_law_kept" (top 55) f__law_kept d__law_kept
  m__law_kept : mg "_law_kept" = some (.ref f__law_kept)
  b__law_kept : Binds K d__law_kept ["_law_plain_here", "_law_gone"] []
  f__law_one_right : Addr
  d__law_one_right : FuncData
  c__law_one_right : Addr
  FC__law_one_right : FunC K "_law_one_right" "_law_one_right" (top 56) f__law_one_right d__law_one_right (.ref c__law_one_right)
  k__law_one_right : PySem.W.keepIn K (.ref f__law_one_right) = true
  F__law_one_right : Fun K "_law_one_right" "_law_one_right" (top 56) f__law_one_right d__law_one_right
  m__law_one_right : mg "_law_one_right" = some (.ref f__law_one_right)
  b__law_one_right : Binds K d__law_one_right ["_law_dice_here", "_law_plain_here", "_law_web"] []
  f__law_pair_right : Addr
  d__law_pair_right : FuncData
  c__law_pair_right : Addr
  FC__law_pair_right : FunC K "_law_pair_right" "_law_pair_right" (top 57) f__law_pair_right d__law_pair_right (.ref c__law_pair_right)
  k__law_pair_right : PySem.W.keepIn K (.ref f__law_pair_right) = true
  F__law_pair_right : Fun K "_law_pair_right" "_law_pair_right" (top 57) f__law_pair_right d__law_pair_right
  m__law_pair_right : mg "_law_pair_right" = some (.ref f__law_pair_right)
  b__law_pair_right : Binds K d__law_pair_right ["_law_dice_here", "_law_plain_here", "_law_other"] []
  f__law_made_right : Addr
  d__law_made_right : FuncData
  F__law_made_right : Fun K "_law_made_right" "_law_made_right" (top 58) f__law_made_right d__law_made_right
  m__law_made_right : mg "_law_made_right" = some (.ref f__law_made_right)
  b__law_made_right : Binds K d__law_made_right ["_law_dice_here"] []
  f_law : Addr
  d_law : FuncData
  F_law : Fun K "law" "law" (top 59) f_law d_law
  m_law : mg "law" = some (.ref f_law)
  b_law : Binds K d_law ["_law_script"] []
  E_WebError_InvalidTie : PySem.W.exmOne K (.ref C_WebError) (.ref C_InvalidTie) = some false
  E_WebError_InvalidWeb : PySem.W.exmOne K (.ref C_WebError) (.ref C_InvalidWeb) = some false
  E_WebError_TooMany : PySem.W.exmOne K (.ref C_WebError) (.ref C_TooMany) = some false
  E_InvalidPlace_InvalidTie : PySem.W.exmOne K (.ref C_InvalidPlace) (.ref C_InvalidTie) = some false
  E_InvalidPlace_InvalidWeb : PySem.W.exmOne K (.ref C_InvalidPlace) (.ref C_InvalidWeb) = some false
  E_InvalidPlace_TooMany : PySem.W.exmOne K (.ref C_InvalidPlace) (.ref C_TooMany) = some false
  E_InvalidTie_InvalidTie : PySem.W.exmOne K (.ref C_InvalidTie) (.ref C_InvalidTie) = some true
  E_InvalidTie_InvalidWeb : PySem.W.exmOne K (.ref C_InvalidTie) (.ref C_InvalidWeb) = some false
  E_InvalidTie_TooMany : PySem.W.exmOne K (.ref C_InvalidTie) (.ref C_TooMany) = some false
  E_InvalidWeb_InvalidTie : PySem.W.exmOne K (.ref C_InvalidWeb) (.ref C_InvalidTie) = some false
  E_InvalidWeb_InvalidWeb : PySem.W.exmOne K (.ref C_InvalidWeb) (.ref C_InvalidWeb) = some true
  E_InvalidWeb_TooMany : PySem.W.exmOne K (.ref C_InvalidWeb) (.ref C_TooMany) = some false
  E_InvalidOperation_InvalidTie : PySem.W.exmOne K (.ref C_InvalidOperation) (.ref C_InvalidTie) = some false
  E_InvalidOperation_InvalidWeb : PySem.W.exmOne K (.ref C_InvalidOperation) (.ref C_InvalidWeb) = some false
  E_InvalidOperation_TooMany : PySem.W.exmOne K (.ref C_InvalidOperation) (.ref C_TooMany) = some false
  E_UnknownName_InvalidTie : PySem.W.exmOne K (.ref C_UnknownName) (.ref C_InvalidTie) = some false
  E_UnknownName_InvalidWeb : PySem.W.exmOne K (.ref C_UnknownName) (.ref C_InvalidWeb) = some false
  E_UnknownName_TooMany : PySem.W.exmOne K (.ref C_UnknownName) (.ref C_TooMany) = some false
  E_TooMany_InvalidTie : PySem.W.exmOne K (.ref C_TooMany) (.ref C_InvalidTie) = some false
  E_TooMany_InvalidWeb : PySem.W.exmOne K (.ref C_TooMany) (.ref C_InvalidWeb) = some false
  E_TooMany_TooMany : PySem.W.exmOne K (.ref C_TooMany) (.ref C_TooMany) = some true
  n_int : mg "int" = none
  n_bool : mg "bool" = none
  n_str : mg "str" = none
  n_tuple : mg "tuple" = none
  n_dict : mg "dict" = none
  n_len : mg "len" = none
  n_all : mg "all" = none
  n_set : mg "set" = none
  n_sorted : mg "sorted" = none
  n_list : mg "list" = none
  n_enumerate : mg "enumerate" = none
  n_zip : mg "zip" = none
  n_range : mg "range" = none
  n_isinstance : mg "isinstance" = none
  n_iter : mg "iter" = none
  n_max : mg "max" = none
  n_min : mg "min" = none
  n_abs : mg "abs" = none
theorem mkTX {K : PySem.W.Frag} {h : Heap} {mg : Str → Option Value} {f_near_marks f_marked C_WebError C_InvalidPlace C_InvalidTie C_InvalidWeb C_InvalidOperation C_UnknownName C_TooMany f_is_name f_are_names f_are_different f_is_ascending f_has_keys f_is_naming C_Web f_Web___init__ f_Web_of_ties p_Web_of_ties f_Web_places p_Web_places f_Web_ties p_Web_ties f_Web_lines p_Web_lines f_Web_neighbours f_Web_is_tied f_Web_with_tie f_Web_without_tie f_Web_with_place f_Web_without_places f_Web_drawn_together f_Web_renamed f_Web___add__ f_Web___sub__ f_Web___invert__ f_Web___contains__ f_Web___len__ f_Web___iter__ f_Web___eq__ f_Web___str__ f_full_web f_ring_web f_need_places f_gathered_web f_web_on f_is_web_of f_is_tie f_pair_of f_all_pairs f_ties_along f_ties_round f__are_places f__are_ties f__law_dice f__law_roll f__law_pick f__law_mixed f__law_tie f__law_plain f__law_made f__law_pairs f__law_beside f__law_names f__law_images f__law_renamed f__law_random f__law_written f__law_told_web f__law_asked f__law_checked f__law_kept f__law_one_right c__law_one_right f__law_pair_right c__law_pair_right f__law_made_right f_law : Addr} {mc_Web : Value} (X : K.In h) (G : h.Ns mainGlobals mg)
    (m_near_marks : PySem.W.nsIn K mainGlobals "near_marks" = some (some (.ref f_near_marks)))
    (F_near_marks : ∃ fd, Fun K "near_marks" "near_marks" (top 2) f_near_marks fd)
    (m_marked : PySem.W.nsIn K mainGlobals "marked" = some (some (.ref f_marked)))
    (F_marked : ∃ fd, Fun K "marked" "marked" (top 3) f_marked fd)
    (g_WebError : PySem.W.nsIn K mainGlobals "WebError" = some (some (.ref C_WebError)))
    (kp_WebError : PySem.W.keepIn K (.ref C_WebError) = true)
    (hs_WebError : PySem.W.subIn K (.ref C_WebError) (.type "BaseException") = some true)
    (ty_WebError : PySem.W.typeIn K (.ref C_WebError) = some (.type "type"))
    (xc_WebError : PySem.W.excIn K C_WebError [.type "ValueError", .type "Exception", .type "BaseException", .type "object"] "ValueError.__new__" = true)
    (g_InvalidPlace : PySem.W.nsIn K mainGlobals "InvalidPlace" = some (some (.ref C_InvalidPlace)))
    (kp_InvalidPlace : PySem.W.keepIn K (.ref C_InvalidPlace) = true)
    (hs_InvalidPlace : PySem.W.subIn K (.ref C_InvalidPlace) (.type "BaseException") = some true)
    (ty_InvalidPlace : PySem.W.typeIn K (.ref C_InvalidPlace) = some (.type "type"))
    (xc_InvalidPlace : PySem.W.excIn K C_InvalidPlace [.type "ValueError", .type "Exception", .type "BaseException", .type "object"] "ValueError.__new__" = true)
    (g_InvalidTie : PySem.W.nsIn K mainGlobals "InvalidTie" = some (some (.ref C_InvalidTie)))
    (kp_InvalidTie : PySem.W.keepIn K (.ref C_InvalidTie) = true)
    (hs_InvalidTie : PySem.W.subIn K (.ref C_InvalidTie) (.type "BaseException") = some true)
    (ty_InvalidTie : PySem.W.typeIn K (.ref C_InvalidTie) = some (.type "type"))
    (xc_InvalidTie : PySem.W.excIn K C_InvalidTie [.type "ValueError", .type "Exception", .type "BaseException", .type "object"] "ValueError.__new__" = true)
    (g_InvalidWeb : PySem.W.nsIn K mainGlobals "InvalidWeb" = some (some (.ref C_InvalidWeb)))
    (kp_InvalidWeb : PySem.W.keepIn K (.ref C_InvalidWeb) = true)
    (hs_InvalidWeb : PySem.W.subIn K (.ref C_InvalidWeb) (.type "BaseException") = some true)
    (ty_InvalidWeb : PySem.W.typeIn K (.ref C_InvalidWeb) = some (.type "type"))
    (xc_InvalidWeb : PySem.W.excIn K C_InvalidWeb [.type "ValueError", .type "Exception", .type "BaseException", .type "object"] "ValueError.__new__" = true)
    (g_InvalidOperation : PySem.W.nsIn K mainGlobals "InvalidOperation" = some (some (.ref C_InvalidOperation)))
    (kp_InvalidOperation : PySem.W.keepIn K (.ref C_InvalidOperation) = true)
    (hs_InvalidOperation : PySem.W.subIn K (.ref C_InvalidOperation) (.type "BaseException") = some true)
    (ty_InvalidOperation : PySem.W.typeIn K (.ref C_InvalidOperation) = some (.type "type"))
    (xc_InvalidOperation : PySem.W.excIn K C_InvalidOperation [.type "ValueError", .type "Exception", .type "BaseException", .type "object"] "ValueError.__new__" = true)
    (g_UnknownName : PySem.W.nsIn K mainGlobals "UnknownName" = some (some (.ref C_UnknownName)))
    (kp_UnknownName : PySem.W.keepIn K (.ref C_UnknownName) = true)
    (hs_UnknownName : PySem.W.subIn K (.ref C_UnknownName) (.type "BaseException") = some true)
    (ty_UnknownName : PySem.W.typeIn K (.ref C_UnknownName) = some (.type "type"))
    (g_TooMany : PySem.W.nsIn K mainGlobals "TooMany" = some (some (.ref C_TooMany)))
    (kp_TooMany : PySem.W.keepIn K (.ref C_TooMany) = true)
    (hs_TooMany : PySem.W.subIn K (.ref C_TooMany) (.type "BaseException") = some true)
    (ty_TooMany : PySem.W.typeIn K (.ref C_TooMany) = some (.type "type"))
    (v_MAX_LETTERS : ∃ t, PySem.W.nsIn K mainGlobals "MAX_LETTERS" = some (some (.int 8 t)))
    (m_is_name : PySem.W.nsIn K mainGlobals "is_name" = some (some (.ref f_is_name)))
    (F_is_name : ∃ fd, Fun K "is_name" "is_name" (top 14) f_is_name fd)
    (m_are_names : PySem.W.nsIn K mainGlobals "are_names" = some (some (.ref f_are_names)))
    (F_are_names : ∃ fd, Fun K "are_names" "are_names" (top 15) f_are_names fd)
    (m_are_different : PySem.W.nsIn K mainGlobals "are_different" = some (some (.ref f_are_different)))
    (F_are_different : ∃ fd, Fun K "are_different" "are_different" (top 16) f_are_different fd)
    (m_is_ascending : PySem.W.nsIn K mainGlobals "is_ascending" = some (some (.ref f_is_ascending)))
    (F_is_ascending : ∃ fd, Fun K "is_ascending" "is_ascending" (top 17) f_is_ascending fd)
    (m_has_keys : PySem.W.nsIn K mainGlobals "has_keys" = some (some (.ref f_has_keys)))
    (F_has_keys : ∃ fd, Fun K "has_keys" "has_keys" (top 18) f_has_keys fd)
    (m_is_naming : PySem.W.nsIn K mainGlobals "is_naming" = some (some (.ref f_is_naming)))
    (F_is_naming : ∃ fd, Fun K "is_naming" "is_naming" (top 19) f_is_naming fd)
    (v_MAX_PLACES : ∃ t, PySem.W.nsIn K mainGlobals "MAX_PLACES" = some (some (.int 12 t)))
    (v_MAX_TIES : ∃ t, PySem.W.nsIn K mainGlobals "MAX_TIES" = some (some (.int 40 t)))
    (g_Web : PySem.W.nsIn K mainGlobals "Web" = some (some (.ref C_Web)))
    (cl_Web : Cls K C_Web)
    (isC_Web : C8.InsC K C_Web)
    (na_Web__places : NoAttr K C_Web "_places")
    (na_Web__ties : NoAttr K C_Web "_ties")
    (na_Web__near : NoAttr K C_Web "_near")
    (F_Web___init__ : ∃ fd, Fun K "__init__" "Web.__init__" (methOf 23 0) f_Web___init__ fd)
    (mk_Web : Mk K C_Web f_Web___init__)
    (M_Web___init__ : Meth K C_Web "__init__" f_Web___init__)
    (F_Web_of_ties : ∃ fd, Fun K "of_ties" "Web.of_ties" (methOf 23 2) f_Web_of_ties fd)
    (CR_Web : ClX.CRead K C_Web mc_Web)
    (CM_Web_of_ties : ClX.CMet K C_Web mc_Web "of_ties" p_Web_of_ties f_Web_of_ties)
    (F_Web_places : ∃ fd, Fun K "places" "Web.places" (methOf 23 3) f_Web_places fd)
    (P_Web_places : PropOf K C_Web "places" p_Web_places f_Web_places)
    (F_Web_ties : ∃ fd, Fun K "ties" "Web.ties" (methOf 23 4) f_Web_ties fd)
    (P_Web_ties : PropOf K C_Web "ties" p_Web_ties f_Web_ties)
    (F_Web_lines : ∃ fd, Fun K "lines" "Web.lines" (methOf 23 5) f_Web_lines fd)
    (P_Web_lines : PropOf K C_Web "lines" p_Web_lines f_Web_lines)
    (F_Web_neighbours : ∃ fd, Fun K "neighbours" "Web.neighbours" (methOf 23 9) f_Web_neighbours fd)
    (M_Web_neighbours : Meth K C_Web "neighbours" f_Web_neighbours)
    (F_Web_is_tied : ∃ fd, Fun K "is_tied" "Web.is_tied" (methOf 23 11) f_Web_is_tied fd)
    (M_Web_is_tied : Meth K C_Web "is_tied" f_Web_is_tied)
    (F_Web_with_tie : ∃ fd, Fun K "with_tie" "Web.with_tie" (methOf 23 12) f_Web_with_tie fd)
    (M_Web_with_tie : Meth K C_Web "with_tie" f_Web_with_tie)
    (F_Web_without_tie : ∃ fd, Fun K "without_tie" "Web.without_tie" (methOf 23 13) f_Web_without_tie fd)
    (M_Web_without_tie : Meth K C_Web "without_tie" f_Web_without_tie)
    (F_Web_with_place : ∃ fd, Fun K "with_place" "Web.with_place" (methOf 23 14) f_Web_with_place fd)
    (M_Web_with_place : Meth K C_Web "with_place" f_Web_with_place)
    (F_Web_without_places : ∃ fd, Fun K "without_places" "Web.without_places" (methOf 23 15) f_Web_without_places fd)
    (M_Web_without_places : Meth K C_Web "without_places" f_Web_without_places)
    (F_Web_drawn_together : ∃ fd, Fun K "drawn_together" "Web.drawn_together" (methOf 23 16) f_Web_drawn_together fd)
    (M_Web_drawn_together : Meth K C_Web "drawn_together" f_Web_drawn_together)
    (F_Web_renamed : ∃ fd, Fun K "renamed" "Web.renamed" (methOf 23 17) f_Web_renamed fd)
    (M_Web_renamed : Meth K C_Web "renamed" f_Web_renamed)
    (F_Web___add__ : ∃ fd, Fun K "__add__" "Web.__add__" (methOf 23 18) f_Web___add__ fd)
    (M_Web___add__ : Meth K C_Web "__add__" f_Web___add__)
    (O_Web___add__ : OwnOp K C_Web f_Web___add__ .Add)
    (F_Web___sub__ : ∃ fd, Fun K "__sub__" "Web.__sub__" (methOf 23 19) f_Web___sub__ fd)
    (M_Web___sub__ : Meth K C_Web "__sub__" f_Web___sub__)
    (O_Web___sub__ : OwnOp K C_Web f_Web___sub__ .Sub)
    (OT_Web___sub__ : TupOp K C_Web .Sub)
    (F_Web___invert__ : ∃ fd, Fun K "__invert__" "Web.__invert__" (methOf 23 20) f_Web___invert__ fd)
    (M_Web___invert__ : Meth K C_Web "__invert__" f_Web___invert__)
    (F_Web___contains__ : ∃ fd, Fun K "__contains__" "Web.__contains__" (methOf 23 21) f_Web___contains__ fd)
    (M_Web___contains__ : Meth K C_Web "__contains__" f_Web___contains__)
    (F_Web___len__ : ∃ fd, Fun K "__len__" "Web.__len__" (methOf 23 22) f_Web___len__ fd)
    (M_Web___len__ : Meth K C_Web "__len__" f_Web___len__)
    (F_Web___iter__ : ∃ fd, Fun K "__iter__" "Web.__iter__" (methOf 23 23) f_Web___iter__ fd)
    (M_Web___iter__ : Meth K C_Web "__iter__" f_Web___iter__)
    (F_Web___eq__ : ∃ fd, Fun K "__eq__" "Web.__eq__" (methOf 23 24) f_Web___eq__ fd)
    (M_Web___eq__ : Meth K C_Web "__eq__" f_Web___eq__)
    (OE_Web___eq__ : OwnNe K C_Web f_Web___eq__)
    (F_Web___str__ : ∃ fd, Fun K "__str__" "Web.__str__" (methOf 23 25) f_Web___str__ fd)
    (M_Web___str__ : Meth K C_Web "__str__" f_Web___str__)
    (m_full_web : PySem.W.nsIn K mainGlobals "full_web" = some (some (.ref f_full_web)))
    (F_full_web : ∃ fd, Fun K "full_web" "full_web" (top 24) f_full_web fd)
    (m_ring_web : PySem.W.nsIn K mainGlobals "ring_web" = some (some (.ref f_ring_web)))
    (F_ring_web : ∃ fd, Fun K "ring_web" "ring_web" (top 25) f_ring_web fd)
    (m_need_places : PySem.W.nsIn K mainGlobals "need_places" = some (some (.ref f_need_places)))
    (F_need_places : ∃ fd, Fun K "need_places" "need_places" (top 26) f_need_places fd)
    (m_gathered_web : PySem.W.nsIn K mainGlobals "gathered_web" = some (some (.ref f_gathered_web)))
    (F_gathered_web : ∃ fd, Fun K "gathered_web" "gathered_web" (top 27) f_gathered_web fd)
    (m_web_on : PySem.W.nsIn K mainGlobals "web_on" = some (some (.ref f_web_on)))
    (F_web_on : ∃ fd, Fun K "web_on" "web_on" (top 28) f_web_on fd)
    (m_is_web_of : PySem.W.nsIn K mainGlobals "is_web_of" = some (some (.ref f_is_web_of)))
    (F_is_web_of : ∃ fd, Fun K "is_web_of" "is_web_of" (top 29) f_is_web_of fd)
    (m_is_tie : PySem.W.nsIn K mainGlobals "is_tie" = some (some (.ref f_is_tie)))
    (F_is_tie : ∃ fd, Fun K "is_tie" "is_tie" (top 30) f_is_tie fd)
    (m_pair_of : PySem.W.nsIn K mainGlobals "pair_of" = some (some (.ref f_pair_of)))
    (F_pair_of : ∃ fd, Fun K "pair_of" "pair_of" (top 31) f_pair_of fd)
    (m_all_pairs : PySem.W.nsIn K mainGlobals "all_pairs" = some (some (.ref f_all_pairs)))
    (F_all_pairs : ∃ fd, Fun K "all_pairs" "all_pairs" (top 32) f_all_pairs fd)
    (m_ties_along : PySem.W.nsIn K mainGlobals "ties_along" = some (some (.ref f_ties_along)))
    (F_ties_along : ∃ fd, Fun K "ties_along" "ties_along" (top 33) f_ties_along fd)
    (m_ties_round : PySem.W.nsIn K mainGlobals "ties_round" = some (some (.ref f_ties_round)))
    (F_ties_round : ∃ fd, Fun K "ties_round" "ties_round" (top 34) f_ties_round fd)
    (m__are_places : PySem.W.nsIn K mainGlobals "_are_places" = some (some (.ref f__are_places)))
    (F__are_places : ∃ fd, Fun K "_are_places" "_are_places" (top 35) f__are_places fd)
    (m__are_ties : PySem.W.nsIn K mainGlobals "_are_ties" = some (some (.ref f__are_ties)))
    (F__are_ties : ∃ fd, Fun K "_are_ties" "_are_ties" (top 36) f__are_ties fd)
    (m__law_dice : PySem.W.nsIn K mainGlobals "_law_dice" = some (some (.ref f__law_dice)))
    (F__law_dice : ∃ fd, Fun K "_law_dice" "_law_dice" (top 38) f__law_dice fd)
    (m__law_roll : PySem.W.nsIn K mainGlobals "_law_roll" = some (some (.ref f__law_roll)))
    (F__law_roll : ∃ fd, Fun K "_law_roll" "_law_roll" (top 39) f__law_roll fd)
    (m__law_pick : PySem.W.nsIn K mainGlobals "_law_pick" = some (some (.ref f__law_pick)))
    (F__law_pick : ∃ fd, Fun K "_law_pick" "_law_pick" (top 40) f__law_pick fd)
    (m__law_mixed : PySem.W.nsIn K mainGlobals "_law_mixed" = some (some (.ref f__law_mixed)))
    (F__law_mixed : ∃ fd, Fun K "_law_mixed" "_law_mixed" (top 41) f__law_mixed fd)
    (m__law_tie : PySem.W.nsIn K mainGlobals "_law_tie" = some (some (.ref f__law_tie)))
    (F__law_tie : ∃ fd, Fun K "_law_tie" "_law_tie" (top 42) f__law_tie fd)
    (m__law_plain : PySem.W.nsIn K mainGlobals "_law_plain" = some (some (.ref f__law_plain)))
    (F__law_plain : ∃ fd, Fun K "_law_plain" "_law_plain" (top 43) f__law_plain fd)
    (m__law_made : PySem.W.nsIn K mainGlobals "_law_made" = some (some (.ref f__law_made)))
    (F__law_made : ∃ fd, Fun K "_law_made" "_law_made" (top 44) f__law_made fd)
    (m__law_pairs : PySem.W.nsIn K mainGlobals "_law_pairs" = some (some (.ref f__law_pairs)))
    (F__law_pairs : ∃ fd, Fun K "_law_pairs" "_law_pairs" (top 45) f__law_pairs fd)
    (m__law_beside : PySem.W.nsIn K mainGlobals "_law_beside" = some (some (.ref f__law_beside)))
    (F__law_beside : ∃ fd, Fun K "_law_beside" "_law_beside" (top 46) f__law_beside fd)
    (m__law_names : PySem.W.nsIn K mainGlobals "_law_names" = some (some (.ref f__law_names)))
    (F__law_names : ∃ fd, Fun K "_law_names" "_law_names" (top 47) f__law_names fd)
    (m__law_images : PySem.W.nsIn K mainGlobals "_law_images" = some (some (.ref f__law_images)))
    (F__law_images : ∃ fd, Fun K "_law_images" "_law_images" (top 48) f__law_images fd)
    (m__law_renamed : PySem.W.nsIn K mainGlobals "_law_renamed" = some (some (.ref f__law_renamed)))
    (F__law_renamed : ∃ fd, Fun K "_law_renamed" "_law_renamed" (top 49) f__law_renamed fd)
    (m__law_random : PySem.W.nsIn K mainGlobals "_law_random" = some (some (.ref f__law_random)))
    (F__law_random : ∃ fd, Fun K "_law_random" "_law_random" (top 50) f__law_random fd)
    (m__law_written : PySem.W.nsIn K mainGlobals "_law_written" = some (some (.ref f__law_written)))
    (F__law_written : ∃ fd, Fun K "_law_written" "_law_written" (top 51) f__law_written fd)
    (m__law_told_web : PySem.W.nsIn K mainGlobals "_law_told_web" = some (some (.ref f__law_told_web)))
    (F__law_told_web : ∃ fd, Fun K "_law_told_web" "_law_told_web" (top 52) f__law_told_web fd)
    (m__law_asked : PySem.W.nsIn K mainGlobals "_law_asked" = some (some (.ref f__law_asked)))
    (F__law_asked : ∃ fd, Fun K "_law_asked" "_law_asked" (top 53) f__law_asked fd)
    (m__law_checked : PySem.W.nsIn K mainGlobals "_law_checked" = some (some (.ref f__law_checked)))
    (F__law_checked : ∃ fd, Fun K "_law_checked" "_law_checked" (top 54) f__law_checked fd)
    (m__law_kept : PySem.W.nsIn K mainGlobals "_law_kept" = some (some (.ref f__law_kept)))
    (F__law_kept : ∃ fd, Fun K "_law_kept" "_law_kept" (top 55) f__law_kept fd)
    (m__law_one_right : PySem.W.nsIn K mainGlobals "_law_one_right" = some (some (.ref f__law_one_right)))
    (F__law_one_right : ∃ fd, FunC K "_law_one_right" "_law_one_right" (top 56) f__law_one_right fd (.ref c__law_one_right))
    (k__law_one_right : PySem.W.keepIn K (.ref f__law_one_right) = true)
    (m__law_pair_right : PySem.W.nsIn K mainGlobals "_law_pair_right" = some (some (.ref f__law_pair_right)))
    (F__law_pair_right : ∃ fd, FunC K "_law_pair_right" "_law_pair_right" (top 57) f__law_pair_right fd (.ref c__law_pair_right))
    (k__law_pair_right : PySem.W.keepIn K (.ref f__law_pair_right) = true)
    (m__law_made_right : PySem.W.nsIn K mainGlobals "_law_made_right" = some (some (.ref f__law_made_right)))
    (F__law_made_right : ∃ fd, Fun K "_law_made_right" "_law_made_right" (top 58) f__law_made_right fd)
    (m_law : PySem.W.nsIn K mainGlobals "law" = some (some (.ref f_law)))
    (F_law : ∃ fd, Fun K "law" "law" (top 59) f_law fd)
    (E_WebError_InvalidTie : PySem.W.exmOne K (.ref C_WebError) (.ref C_InvalidTie) = some false)
    (E_WebError_InvalidWeb : PySem.W.exmOne K (.ref C_WebError) (.ref C_InvalidWeb) = some false)
    (E_WebError_TooMany : PySem.W.exmOne K (.ref C_WebError) (.ref C_TooMany) = some false)
    (E_InvalidPlace_InvalidTie : PySem.W.exmOne K (.ref C_InvalidPlace) (.ref C_InvalidTie) = some false)
    (E_InvalidPlace_InvalidWeb : PySem.W.exmOne K (.ref C_InvalidPlace) (.ref C_InvalidWeb) = some false)
    (E_InvalidPlace_TooMany : PySem.W.exmOne K (.ref C_InvalidPlace) (.ref C_TooMany) = some false)
    (E_InvalidTie_InvalidTie : PySem.W.exmOne K (.ref C_InvalidTie) (.ref C_InvalidTie) = some true)
    (E_InvalidTie_InvalidWeb : PySem.W.exmOne K (.ref C_InvalidTie) (.ref C_InvalidWeb) = some false)
    (E_InvalidTie_TooMany : PySem.W.exmOne K (.ref C_InvalidTie) (.ref C_TooMany) = some false)
    (E_InvalidWeb_InvalidTie : PySem.W.exmOne K (.ref C_InvalidWeb) (.ref C_InvalidTie) = some false)
    (E_InvalidWeb_InvalidWeb : PySem.W.exmOne K (.ref C_InvalidWeb) (.ref C_InvalidWeb) = some true)
    (E_InvalidWeb_TooMany : PySem.W.exmOne K (.ref C_InvalidWeb) (.ref C_TooMany) = some false)
    (E_InvalidOperation_InvalidTie : PySem.W.exmOne K (.ref C_InvalidOperation) (.ref C_InvalidTie) = some false)
    (E_InvalidOperation_InvalidWeb : PySem.W.exmOne K (.ref C_InvalidOperation) (.ref C_InvalidWeb) = some false)
    (E_InvalidOperation_TooMany : PySem.W.exmOne K (.ref C_InvalidOperation) (.ref C_TooMany) = some false)
    (E_UnknownName_InvalidTie : PySem.W.exmOne K (.ref C_UnknownName) (.ref C_InvalidTie) = some false)
    (E_UnknownName_InvalidWeb : PySem.W.exmOne K (.ref C_UnknownName) (.ref C_InvalidWeb) = some false)
    (E_UnknownName_TooMany : PySem.W.exmOne K (.ref C_UnknownName) (.ref C_TooMany) = some false)
    (E_TooMany_InvalidTie : PySem.W.exmOne K (.ref C_TooMany) (.ref C_InvalidTie) = some false)
    (E_TooMany_InvalidWeb : PySem.W.exmOne K (.ref C_TooMany) (.ref C_InvalidWeb) = some false)
    (E_TooMany_TooMany : PySem.W.exmOne K (.ref C_TooMany) (.ref C_TooMany) = some true)
    (n_int : PySem.W.nsIn K mainGlobals "int" = some none)
    (n_bool : PySem.W.nsIn K mainGlobals "bool" = some none)
    (n_str : PySem.W.nsIn K mainGlobals "str" = some none)
    (n_tuple : PySem.W.nsIn K mainGlobals "tuple" = some none)
    (n_dict : PySem.W.nsIn K mainGlobals "dict" = some none)
    (n_len : PySem.W.nsIn K mainGlobals "len" = some none)
    (n_all : PySem.W.nsIn K mainGlobals "all" = some none)
    (n_set : PySem.W.nsIn K mainGlobals "set" = some none)
    (n_sorted : PySem.W.nsIn K mainGlobals "sorted" = some none)
    (n_list : PySem.W.nsIn K mainGlobals "list" = some none)
    (n_enumerate : PySem.W.nsIn K mainGlobals "enumerate" = some none)
    (n_zip : PySem.W.nsIn K mainGlobals "zip" = some none)
    (n_range : PySem.W.nsIn K mainGlobals "range" = some none)
    (n_isinstance : PySem.W.nsIn K mainGlobals "isinstance" = some none)
    (n_iter : PySem.W.nsIn K mainGlobals "iter" = some none)
    (n_max : PySem.W.nsIn K mainGlobals "max" = some none)
    (n_min : PySem.W.nsIn K mainGlobals "min" = some none)
    (n_abs : PySem.W.nsIn K mainGlobals "abs" = some none)
    : ∃ T : TX K mg, T.f_law = f_law ∧ T.c__law_one_right = c__law_one_right ∧ T.c__law_pair_right = c__law_pair_right := by
  obtain ⟨d_near_marks, F_near_marks⟩ := F_near_marks
  have b_near_marks : Binds K d_near_marks ["places", "ties"] [] := F_near_marks.binds (ps := ["places", "ties"]) fun _ _ _ _ _ _ us hl => match us, hl with | [_, _], _ => rfl
  obtain ⟨d_marked, F_marked⟩ := F_marked
  have b_marked : Binds K d_marked ["places", "mark"] [] := F_marked.binds (ps := ["places", "mark"]) fun _ _ _ _ _ _ us hl => match us, hl with | [_, _], _ => rfl
  obtain ⟨d_is_name, F_is_name⟩ := F_is_name
  have b_is_name : Binds K d_is_name ["value"] [] := F_is_name.binds (ps := ["value"]) fun _ _ _ _ _ _ us hl => match us, hl with | [_], _ => rfl
  obtain ⟨d_are_names, F_are_names⟩ := F_are_names
  have b_are_names : Binds K d_are_names ["value"] [] := F_are_names.binds (ps := ["value"]) fun _ _ _ _ _ _ us hl => match us, hl with | [_], _ => rfl
  obtain ⟨d_are_different, F_are_different⟩ := F_are_different
  have b_are_different : Binds K d_are_different ["value", "least"] [] := F_are_different.binds (ps := ["value", "least"]) fun _ _ _ _ _ _ us hl => match us, hl with | [_, _], _ => rfl
  obtain ⟨d_is_ascending, F_is_ascending⟩ := F_is_ascending
  have b_is_ascending : Binds K d_is_ascending ["row"] [] := F_is_ascending.binds (ps := ["row"]) fun _ _ _ _ _ _ us hl => match us, hl with | [_], _ => rfl
  obtain ⟨d_has_keys, F_has_keys⟩ := F_has_keys
  have b_has_keys : Binds K d_has_keys ["value", "names"] [] := F_has_keys.binds (ps := ["value", "names"]) fun _ _ _ _ _ _ us hl => match us, hl with | [_, _], _ => rfl
  obtain ⟨d_is_naming, F_is_naming⟩ := F_is_naming
  have b_is_naming : Binds K d_is_naming ["names", "value"] [] := F_is_naming.binds (ps := ["names", "value"]) fun _ _ _ _ _ _ us hl => match us, hl with | [_, _], _ => rfl
  obtain ⟨d_Web___init__, F_Web___init__⟩ := F_Web___init__
  have b_Web___init__ : Binds K d_Web___init__ ["self", "places", "ties"] [] := F_Web___init__.binds (ps := ["self", "places", "ties"]) fun _ _ _ _ _ _ us hl => match us, hl with | [_, _, _], _ => rfl
  obtain ⟨d_Web_of_ties, F_Web_of_ties⟩ := F_Web_of_ties
  obtain ⟨d_Web_places, F_Web_places⟩ := F_Web_places
  have b_Web_places : Binds K d_Web_places ["self"] [] := F_Web_places.binds (ps := ["self"]) fun _ _ _ _ _ _ us hl => match us, hl with | [_], _ => rfl
  obtain ⟨d_Web_ties, F_Web_ties⟩ := F_Web_ties
  have b_Web_ties : Binds K d_Web_ties ["self"] [] := F_Web_ties.binds (ps := ["self"]) fun _ _ _ _ _ _ us hl => match us, hl with | [_], _ => rfl
  obtain ⟨d_Web_lines, F_Web_lines⟩ := F_Web_lines
  have b_Web_lines : Binds K d_Web_lines ["self"] [] := F_Web_lines.binds (ps := ["self"]) fun _ _ _ _ _ _ us hl => match us, hl with | [_], _ => rfl
  obtain ⟨d_Web_neighbours, F_Web_neighbours⟩ := F_Web_neighbours
  have b_Web_neighbours : Binds K d_Web_neighbours ["self", "place"] [] := F_Web_neighbours.binds (ps := ["self", "place"]) fun _ _ _ _ _ _ us hl => match us, hl with | [_, _], _ => rfl
  obtain ⟨d_Web_is_tied, F_Web_is_tied⟩ := F_Web_is_tied
  have b_Web_is_tied : Binds K d_Web_is_tied ["self", "a", "b"] [] := F_Web_is_tied.binds (ps := ["self", "a", "b"]) fun _ _ _ _ _ _ us hl => match us, hl with | [_, _, _], _ => rfl
  obtain ⟨d_Web_with_tie, F_Web_with_tie⟩ := F_Web_with_tie
  have b_Web_with_tie : Binds K d_Web_with_tie ["self", "a", "b"] [] := F_Web_with_tie.binds (ps := ["self", "a", "b"]) fun _ _ _ _ _ _ us hl => match us, hl with | [_, _, _], _ => rfl
  obtain ⟨d_Web_without_tie, F_Web_without_tie⟩ := F_Web_without_tie
  have b_Web_without_tie : Binds K d_Web_without_tie ["self", "a", "b"] [] := F_Web_without_tie.binds (ps := ["self", "a", "b"]) fun _ _ _ _ _ _ us hl => match us, hl with | [_, _, _], _ => rfl
  obtain ⟨d_Web_with_place, F_Web_with_place⟩ := F_Web_with_place
  have b_Web_with_place : Binds K d_Web_with_place ["self", "name"] [] := F_Web_with_place.binds (ps := ["self", "name"]) fun _ _ _ _ _ _ us hl => match us, hl with | [_, _], _ => rfl
  obtain ⟨d_Web_without_places, F_Web_without_places⟩ := F_Web_without_places
  have b_Web_without_places : Binds K d_Web_without_places ["self", "places"] [] := F_Web_without_places.binds (ps := ["self", "places"]) fun _ _ _ _ _ _ us hl => match us, hl with | [_, _], _ => rfl
  obtain ⟨d_Web_drawn_together, F_Web_drawn_together⟩ := F_Web_drawn_together
  have b_Web_drawn_together : Binds K d_Web_drawn_together ["self", "a", "b"] [] := F_Web_drawn_together.binds (ps := ["self", "a", "b"]) fun _ _ _ _ _ _ us hl => match us, hl with | [_, _, _], _ => rfl
  obtain ⟨d_Web_renamed, F_Web_renamed⟩ := F_Web_renamed
  have b_Web_renamed : Binds K d_Web_renamed ["self", "names"] [] := F_Web_renamed.binds (ps := ["self", "names"]) fun _ _ _ _ _ _ us hl => match us, hl with | [_, _], _ => rfl
  obtain ⟨d_Web___add__, F_Web___add__⟩ := F_Web___add__
  have b_Web___add__ : Binds K d_Web___add__ ["self", "other"] [] := F_Web___add__.binds (ps := ["self", "other"]) fun _ _ _ _ _ _ us hl => match us, hl with | [_, _], _ => rfl
  obtain ⟨d_Web___sub__, F_Web___sub__⟩ := F_Web___sub__
  have b_Web___sub__ : Binds K d_Web___sub__ ["self", "other"] [] := F_Web___sub__.binds (ps := ["self", "other"]) fun _ _ _ _ _ _ us hl => match us, hl with | [_, _], _ => rfl
  obtain ⟨d_Web___invert__, F_Web___invert__⟩ := F_Web___invert__
  have b_Web___invert__ : Binds K d_Web___invert__ ["self"] [] := F_Web___invert__.binds (ps := ["self"]) fun _ _ _ _ _ _ us hl => match us, hl with | [_], _ => rfl
  obtain ⟨d_Web___contains__, F_Web___contains__⟩ := F_Web___contains__
  have b_Web___contains__ : Binds K d_Web___contains__ ["self", "value"] [] := F_Web___contains__.binds (ps := ["self", "value"]) fun _ _ _ _ _ _ us hl => match us, hl with | [_, _], _ => rfl
  obtain ⟨d_Web___len__, F_Web___len__⟩ := F_Web___len__
  have b_Web___len__ : Binds K d_Web___len__ ["self"] [] := F_Web___len__.binds (ps := ["self"]) fun _ _ _ _ _ _ us hl => match us, hl with | [_], _ => rfl
  obtain ⟨d_Web___iter__, F_Web___iter__⟩ := F_Web___iter__
  have b_Web___iter__ : Binds K d_Web___iter__ ["self"] [] := F_Web___iter__.binds (ps := ["self"]) fun _ _ _ _ _ _ us hl => match us, hl with | [_], _ => rfl
  obtain ⟨d_Web___eq__, F_Web___eq__⟩ := F_Web___eq__
  have b_Web___eq__ : Binds K d_Web___eq__ ["self", "other"] [] := F_Web___eq__.binds (ps := ["self", "other"]) fun _ _ _ _ _ _ us hl => match us, hl with | [_, _], _ => rfl
  obtain ⟨d_Web___str__, F_Web___str__⟩ := F_Web___str__
  have b_Web___str__ : Binds K d_Web___str__ ["self"] [] := F_Web___str__.binds (ps := ["self"]) fun _ _ _ _ _ _ us hl => match us, hl with | [_], _ => rfl
  obtain ⟨d_full_web, F_full_web⟩ := F_full_web
  have b_full_web : Binds K d_full_web ["places"] [] := F_full_web.binds (ps := ["places"]) fun _ _ _ _ _ _ us hl => match us, hl with | [_], _ => rfl
  obtain ⟨d_ring_web, F_ring_web⟩ := F_ring_web
  have b_ring_web : Binds K d_ring_web ["ring"] [] := F_ring_web.binds (ps := ["ring"]) fun _ _ _ _ _ _ us hl => match us, hl with | [_], _ => rfl
  obtain ⟨d_need_places, F_need_places⟩ := F_need_places
  obtain ⟨d_gathered_web, F_gathered_web⟩ := F_gathered_web
  have b_gathered_web : Binds K d_gathered_web ["places", "ties"] [] := F_gathered_web.binds (ps := ["places", "ties"]) fun _ _ _ _ _ _ us hl => match us, hl with | [_, _], _ => rfl
  obtain ⟨d_web_on, F_web_on⟩ := F_web_on
  have b_web_on : Binds K d_web_on ["web", "places"] [] := F_web_on.binds (ps := ["web", "places"]) fun _ _ _ _ _ _ us hl => match us, hl with | [_, _], _ => rfl
  obtain ⟨d_is_web_of, F_is_web_of⟩ := F_is_web_of
  have b_is_web_of : Binds K d_is_web_of ["places", "ties"] [] := F_is_web_of.binds (ps := ["places", "ties"]) fun _ _ _ _ _ _ us hl => match us, hl with | [_, _], _ => rfl
  obtain ⟨d_is_tie, F_is_tie⟩ := F_is_tie
  have b_is_tie : Binds K d_is_tie ["value"] [] := F_is_tie.binds (ps := ["value"]) fun _ _ _ _ _ _ us hl => match us, hl with | [_], _ => rfl
  obtain ⟨d_pair_of, F_pair_of⟩ := F_pair_of
  have b_pair_of : Binds K d_pair_of ["a", "b"] [] := F_pair_of.binds (ps := ["a", "b"]) fun _ _ _ _ _ _ us hl => match us, hl with | [_, _], _ => rfl
  obtain ⟨d_all_pairs, F_all_pairs⟩ := F_all_pairs
  have b_all_pairs : Binds K d_all_pairs ["places"] [] := F_all_pairs.binds (ps := ["places"]) fun _ _ _ _ _ _ us hl => match us, hl with | [_], _ => rfl
  obtain ⟨d_ties_along, F_ties_along⟩ := F_ties_along
  have b_ties_along : Binds K d_ties_along ["row"] [] := F_ties_along.binds (ps := ["row"]) fun _ _ _ _ _ _ us hl => match us, hl with | [_], _ => rfl
  obtain ⟨d_ties_round, F_ties_round⟩ := F_ties_round
  have b_ties_round : Binds K d_ties_round ["ring"] [] := F_ties_round.binds (ps := ["ring"]) fun _ _ _ _ _ _ us hl => match us, hl with | [_], _ => rfl
  obtain ⟨d__are_places, F__are_places⟩ := F__are_places
  have b__are_places : Binds K d__are_places ["value"] [] := F__are_places.binds (ps := ["value"]) fun _ _ _ _ _ _ us hl => match us, hl with | [_], _ => rfl
  obtain ⟨d__are_ties, F__are_ties⟩ := F__are_ties
  have b__are_ties : Binds K d__are_ties ["places", "value"] [] := F__are_ties.binds (ps := ["places", "value"]) fun _ _ _ _ _ _ us hl => match us, hl with | [_, _], _ => rfl
  obtain ⟨d__law_dice, F__law_dice⟩ := F__law_dice
  have b__law_dice : Binds K d__law_dice ["_law_script", "_law_spot"] [] := F__law_dice.binds (ps := ["_law_script", "_law_spot"]) fun _ _ _ _ _ _ us hl => match us, hl with | [_, _], _ => rfl
  obtain ⟨d__law_roll, F__law_roll⟩ := F__law_roll
  have b__law_roll : Binds K d__law_roll ["_law_dice_here", "_law_total"] [] := F__law_roll.binds (ps := ["_law_dice_here", "_law_total"]) fun _ _ _ _ _ _ us hl => match us, hl with | [_, _], _ => rfl
  obtain ⟨d__law_pick, F__law_pick⟩ := F__law_pick
  have b__law_pick : Binds K d__law_pick ["_law_dice_here", "_law_items"] [] := F__law_pick.binds (ps := ["_law_dice_here", "_law_items"]) fun _ _ _ _ _ _ us hl => match us, hl with | [_, _], _ => rfl
  obtain ⟨d__law_mixed, F__law_mixed⟩ := F__law_mixed
  have b__law_mixed : Binds K d__law_mixed ["_law_dice_here", "_law_items"] [] := F__law_mixed.binds (ps := ["_law_dice_here", "_law_items"]) fun _ _ _ _ _ _ us hl => match us, hl with | [_, _], _ => rfl
  obtain ⟨d__law_tie, F__law_tie⟩ := F__law_tie
  have b__law_tie : Binds K d__law_tie ["_law_a", "_law_b"] [] := F__law_tie.binds (ps := ["_law_a", "_law_b"]) fun _ _ _ _ _ _ us hl => match us, hl with | [_, _], _ => rfl
  obtain ⟨d__law_plain, F__law_plain⟩ := F__law_plain
  have b__law_plain : Binds K d__law_plain ["_law_places", "_law_ties"] [] := F__law_plain.binds (ps := ["_law_places", "_law_ties"]) fun _ _ _ _ _ _ us hl => match us, hl with | [_, _], _ => rfl
  obtain ⟨d__law_made, F__law_made⟩ := F__law_made
  have b__law_made : Binds K d__law_made ["_law_plain_here"] [] := F__law_made.binds (ps := ["_law_plain_here"]) fun _ _ _ _ _ _ us hl => match us, hl with | [_], _ => rfl
  obtain ⟨d__law_pairs, F__law_pairs⟩ := F__law_pairs
  have b__law_pairs : Binds K d__law_pairs ["_law_places"] [] := F__law_pairs.binds (ps := ["_law_places"]) fun _ _ _ _ _ _ us hl => match us, hl with | [_], _ => rfl
  obtain ⟨d__law_beside, F__law_beside⟩ := F__law_beside
  have b__law_beside : Binds K d__law_beside ["_law_plain_here", "_law_place"] [] := F__law_beside.binds (ps := ["_law_plain_here", "_law_place"]) fun _ _ _ _ _ _ us hl => match us, hl with | [_, _], _ => rfl
  obtain ⟨d__law_names, F__law_names⟩ := F__law_names
  have b__law_names : Binds K d__law_names [] [] := F__law_names.binds (ps := []) fun _ _ _ _ _ _ us hl => match us, hl with | [], _ => rfl
  obtain ⟨d__law_images, F__law_images⟩ := F__law_images
  have b__law_images : Binds K d__law_images ["_law_dice_here", "_law_places"] [] := F__law_images.binds (ps := ["_law_dice_here", "_law_places"]) fun _ _ _ _ _ _ us hl => match us, hl with | [_, _], _ => rfl
  obtain ⟨d__law_renamed, F__law_renamed⟩ := F__law_renamed
  have b__law_renamed : Binds K d__law_renamed ["_law_plain_here", "_law_names_here"] [] := F__law_renamed.binds (ps := ["_law_plain_here", "_law_names_here"]) fun _ _ _ _ _ _ us hl => match us, hl with | [_, _], _ => rfl
  obtain ⟨d__law_random, F__law_random⟩ := F__law_random
  have b__law_random : Binds K d__law_random ["_law_dice_here", "_law_most"] [] := F__law_random.binds (ps := ["_law_dice_here", "_law_most"]) fun _ _ _ _ _ _ us hl => match us, hl with | [_, _], _ => rfl
  obtain ⟨d__law_written, F__law_written⟩ := F__law_written
  have b__law_written : Binds K d__law_written ["_law_way"] [] := F__law_written.binds (ps := ["_law_way"]) fun _ _ _ _ _ _ us hl => match us, hl with | [_], _ => rfl
  obtain ⟨d__law_told_web, F__law_told_web⟩ := F__law_told_web
  have b__law_told_web : Binds K d__law_told_web ["_law_web"] [] := F__law_told_web.binds (ps := ["_law_web"]) fun _ _ _ _ _ _ us hl => match us, hl with | [_], _ => rfl
  obtain ⟨d__law_asked, F__law_asked⟩ := F__law_asked
  have b__law_asked : Binds K d__law_asked ["_law_call"] [] := F__law_asked.binds (ps := ["_law_call"]) fun _ _ _ _ _ _ us hl => match us, hl with | [_], _ => rfl
  obtain ⟨d__law_checked, F__law_checked⟩ := F__law_checked
  have b__law_checked : Binds K d__law_checked ["_law_places", "_law_ties"] [] := F__law_checked.binds (ps := ["_law_places", "_law_ties"]) fun _ _ _ _ _ _ us hl => match us, hl with | [_, _], _ => rfl
  obtain ⟨d__law_kept, F__law_kept⟩ := F__law_kept
  have b__law_kept : Binds K d__law_kept ["_law_plain_here", "_law_gone"] [] := F__law_kept.binds (ps := ["_law_plain_here", "_law_gone"]) fun _ _ _ _ _ _ us hl => match us, hl with | [_, _], _ => rfl
  obtain ⟨d__law_one_right, FC__law_one_right⟩ := F__law_one_right
  have F__law_one_right : Fun K "_law_one_right" "_law_one_right" (top 56) f__law_one_right d__law_one_right := (let ⟨oc, od, kV, doc, pm, an, ct, osl, e, lk, cd⟩ := FC__law_one_right.ex; ⟨⟨oc, od, kV, doc, pm, an, _, ct, osl, e, lk, cd⟩, k__law_one_right⟩)
  have b__law_one_right : Binds K d__law_one_right ["_law_dice_here", "_law_plain_here", "_law_web"] [] := F__law_one_right.binds (ps := ["_law_dice_here", "_law_plain_here", "_law_web"]) fun _ _ _ _ _ _ us hl => match us, hl with | [_, _, _], _ => rfl
  obtain ⟨d__law_pair_right, FC__law_pair_right⟩ := F__law_pair_right
  have F__law_pair_right : Fun K "_law_pair_right" "_law_pair_right" (top 57) f__law_pair_right d__law_pair_right := (let ⟨oc, od, kV, doc, pm, an, ct, osl, e, lk, cd⟩ := FC__law_pair_right.ex; ⟨⟨oc, od, kV, doc, pm, an, _, ct, osl, e, lk, cd⟩, k__law_pair_right⟩)
  have b__law_pair_right : Binds K d__law_pair_right ["_law_dice_here", "_law_plain_here", "_law_other"] [] := F__law_pair_right.binds (ps := ["_law_dice_here", "_law_plain_here", "_law_other"]) fun _ _ _ _ _ _ us hl => match us, hl with | [_, _, _], _ => rfl
  obtain ⟨d__law_made_right, F__law_made_right⟩ := F__law_made_right
  have b__law_made_right : Binds K d__law_made_right ["_law_dice_here"] [] := F__law_made_right.binds (ps := ["_law_dice_here"]) fun _ _ _ _ _ _ us hl => match us, hl with | [_], _ => rfl
  obtain ⟨d_law, F_law⟩ := F_law
  have b_law : Binds K d_law ["_law_script"] [] := F_law.binds (ps := ["_law_script"]) fun _ _ _ _ _ _ us hl => match us, hl with | [_], _ => rfl
  refine ⟨{
    f_near_marks := f_near_marks
    d_near_marks := d_near_marks
    F_near_marks := F_near_marks
    m_near_marks := PySem.W.mg_of X G m_near_marks
    b_near_marks := b_near_marks
    f_marked := f_marked
    d_marked := d_marked
    F_marked := F_marked
    m_marked := PySem.W.mg_of X G m_marked
    b_marked := b_marked
    C_WebError := C_WebError
    g_WebError := PySem.W.mg_of X G g_WebError
    X_WebError := ⟨PySem.W.mg_of X G g_WebError, kp_WebError, xc_WebError, hs_WebError, ty_WebError⟩
    C_InvalidPlace := C_InvalidPlace
    g_InvalidPlace := PySem.W.mg_of X G g_InvalidPlace
    X_InvalidPlace := ⟨PySem.W.mg_of X G g_InvalidPlace, kp_InvalidPlace, xc_InvalidPlace, hs_InvalidPlace, ty_InvalidPlace⟩
    C_InvalidTie := C_InvalidTie
    g_InvalidTie := PySem.W.mg_of X G g_InvalidTie
    X_InvalidTie := ⟨PySem.W.mg_of X G g_InvalidTie, kp_InvalidTie, xc_InvalidTie, hs_InvalidTie, ty_InvalidTie⟩
    C_InvalidWeb := C_InvalidWeb
    g_InvalidWeb := PySem.W.mg_of X G g_InvalidWeb
    X_InvalidWeb := ⟨PySem.W.mg_of X G g_InvalidWeb, kp_InvalidWeb, xc_InvalidWeb, hs_InvalidWeb, ty_InvalidWeb⟩
    C_InvalidOperation := C_InvalidOperation
    g_InvalidOperation := PySem.W.mg_of X G g_InvalidOperation
    X_InvalidOperation := ⟨PySem.W.mg_of X G g_InvalidOperation, kp_InvalidOperation, xc_InvalidOperation, hs_InvalidOperation, ty_InvalidOperation⟩
    C_UnknownName := C_UnknownName
    g_UnknownName := PySem.W.mg_of X G g_UnknownName
    kp_UnknownName := kp_UnknownName
    hs_UnknownName := hs_UnknownName
    ty_UnknownName := ty_UnknownName
    C_TooMany := C_TooMany
    g_TooMany := PySem.W.mg_of X G g_TooMany
    kp_TooMany := kp_TooMany
    hs_TooMany := hs_TooMany
    ty_TooMany := ty_TooMany
    v_MAX_LETTERS := (let ⟨t, e⟩ := v_MAX_LETTERS; ⟨t, PySem.W.mg_of X G e⟩)
    f_is_name := f_is_name
    d_is_name := d_is_name
    F_is_name := F_is_name
    m_is_name := PySem.W.mg_of X G m_is_name
    b_is_name := b_is_name
    f_are_names := f_are_names
    d_are_names := d_are_names
    F_are_names := F_are_names
    m_are_names := PySem.W.mg_of X G m_are_names
    b_are_names := b_are_names
    f_are_different := f_are_different
    d_are_different := d_are_different
    F_are_different := F_are_different
    m_are_different := PySem.W.mg_of X G m_are_different
    b_are_different := b_are_different
    f_is_ascending := f_is_ascending
    d_is_ascending := d_is_ascending
    F_is_ascending := F_is_ascending
    m_is_ascending := PySem.W.mg_of X G m_is_ascending
    b_is_ascending := b_is_ascending
    f_has_keys := f_has_keys
    d_has_keys := d_has_keys
    F_has_keys := F_has_keys
    m_has_keys := PySem.W.mg_of X G m_has_keys
    b_has_keys := b_has_keys
    f_is_naming := f_is_naming
    d_is_naming := d_is_naming
    F_is_naming := F_is_naming
    m_is_naming := PySem.W.mg_of X G m_is_naming
    b_is_naming := b_is_naming
    v_MAX_PLACES := (let ⟨t, e⟩ := v_MAX_PLACES; ⟨t, PySem.W.mg_of X G e⟩)
    v_MAX_TIES := (let ⟨t, e⟩ := v_MAX_TIES; ⟨t, PySem.W.mg_of X G e⟩)
    C_Web := C_Web
    g_Web := PySem.W.mg_of X G g_Web
    cl_Web := cl_Web
    isC_Web := isC_Web
    na_Web__places := na_Web__places
    na_Web__ties := na_Web__ties
    na_Web__near := na_Web__near
    f_Web___init__ := f_Web___init__
    d_Web___init__ := d_Web___init__
    F_Web___init__ := F_Web___init__
    b_Web___init__ := b_Web___init__
    mk_Web := mk_Web
    M_Web___init__ := M_Web___init__
    f_Web_of_ties := f_Web_of_ties
    d_Web_of_ties := d_Web_of_ties
    F_Web_of_ties := F_Web_of_ties
    p_Web_of_ties := p_Web_of_ties
    mc_Web := mc_Web
    CR_Web := CR_Web
    CM_Web_of_ties := CM_Web_of_ties
    f_Web_places := f_Web_places
    d_Web_places := d_Web_places
    F_Web_places := F_Web_places
    b_Web_places := b_Web_places
    p_Web_places := p_Web_places
    P_Web_places := P_Web_places
    f_Web_ties := f_Web_ties
    d_Web_ties := d_Web_ties
    F_Web_ties := F_Web_ties
    b_Web_ties := b_Web_ties
    p_Web_ties := p_Web_ties
    P_Web_ties := P_Web_ties
    f_Web_lines := f_Web_lines
    d_Web_lines := d_Web_lines
    F_Web_lines := F_Web_lines
    b_Web_lines := b_Web_lines
    p_Web_lines := p_Web_lines
    P_Web_lines := P_Web_lines
    f_Web_neighbours := f_Web_neighbours
    d_Web_neighbours := d_Web_neighbours
    F_Web_neighbours := F_Web_neighbours
    b_Web_neighbours := b_Web_neighbours
    M_Web_neighbours := M_Web_neighbours
    f_Web_is_tied := f_Web_is_tied
    d_Web_is_tied := d_Web_is_tied
    F_Web_is_tied := F_Web_is_tied
    b_Web_is_tied := b_Web_is_tied
    M_Web_is_tied := M_Web_is_tied
    f_Web_with_tie := f_Web_with_tie
    d_Web_with_tie := d_Web_with_tie
    F_Web_with_tie := F_Web_with_tie
    b_Web_with_tie := b_Web_with_tie
    M_Web_with_tie := M_Web_with_tie
    f_Web_without_tie := f_Web_without_tie
    d_Web_without_tie := d_Web_without_tie
    F_Web_without_tie := F_Web_without_tie
    b_Web_without_tie := b_Web_without_tie
    M_Web_without_tie := M_Web_without_tie
    f_Web_with_place := f_Web_with_place
    d_Web_with_place := d_Web_with_place
    F_Web_with_place := F_Web_with_place
    b_Web_with_place := b_Web_with_place
    M_Web_with_place := M_Web_with_place
    f_Web_without_places := f_Web_without_places
    d_Web_without_places := d_Web_without_places
    F_Web_without_places := F_Web_without_places
    b_Web_without_places := b_Web_without_places
    M_Web_without_places := M_Web_without_places
    f_Web_drawn_together := f_Web_drawn_together
    d_Web_drawn_together := d_Web_drawn_together
    F_Web_drawn_together := F_Web_drawn_together
    b_Web_drawn_together := b_Web_drawn_together
    M_Web_drawn_together := M_Web_drawn_together
    f_Web_renamed := f_Web_renamed
    d_Web_renamed := d_Web_renamed
    F_Web_renamed := F_Web_renamed
    b_Web_renamed := b_Web_renamed
    M_Web_renamed := M_Web_renamed
    f_Web___add__ := f_Web___add__
    d_Web___add__ := d_Web___add__
    F_Web___add__ := F_Web___add__
    b_Web___add__ := b_Web___add__
    M_Web___add__ := M_Web___add__
    O_Web___add__ := O_Web___add__
    f_Web___sub__ := f_Web___sub__
    d_Web___sub__ := d_Web___sub__
    F_Web___sub__ := F_Web___sub__
    b_Web___sub__ := b_Web___sub__
    M_Web___sub__ := M_Web___sub__
    O_Web___sub__ := O_Web___sub__
    OT_Web___sub__ := OT_Web___sub__
    f_Web___invert__ := f_Web___invert__
    d_Web___invert__ := d_Web___invert__
    F_Web___invert__ := F_Web___invert__
    b_Web___invert__ := b_Web___invert__
    M_Web___invert__ := M_Web___invert__
    f_Web___contains__ := f_Web___contains__
    d_Web___contains__ := d_Web___contains__
    F_Web___contains__ := F_Web___contains__
    b_Web___contains__ := b_Web___contains__
    M_Web___contains__ := M_Web___contains__
    f_Web___len__ := f_Web___len__
    d_Web___len__ := d_Web___len__
    F_Web___len__ := F_Web___len__
    b_Web___len__ := b_Web___len__
    M_Web___len__ := M_Web___len__
    f_Web___iter__ := f_Web___iter__
    d_Web___iter__ := d_Web___iter__
    F_Web___iter__ := F_Web___iter__
    b_Web___iter__ := b_Web___iter__
    M_Web___iter__ := M_Web___iter__
    f_Web___eq__ := f_Web___eq__
    d_Web___eq__ := d_Web___eq__
    F_Web___eq__ := F_Web___eq__
    b_Web___eq__ := b_Web___eq__
    M_Web___eq__ := M_Web___eq__
    OE_Web___eq__ := OE_Web___eq__
    f_Web___str__ := f_Web___str__
    d_Web___str__ := d_Web___str__
    F_Web___str__ := F_Web___str__
    b_Web___str__ := b_Web___str__
    M_Web___str__ := M_Web___str__
    f_full_web := f_full_web
    d_full_web := d_full_web
    F_full_web := F_full_web
    m_full_web := PySem.W.mg_of X G m_full_web
    b_full_web := b_full_web
    f_ring_web := f_ring_web
    d_ring_web := d_ring_web
    F_ring_web := F_ring_web
    m_ring_web := PySem.W.mg_of X G m_ring_web
    b_ring_web := b_ring_web
    f_need_places := f_need_places
    d_need_places := d_need_places
    F_need_places := F_need_places
    m_need_places := PySem.W.mg_of X G m_need_places
    f_gathered_web := f_gathered_web
    d_gathered_web := d_gathered_web
    F_gathered_web := F_gathered_web
    m_gathered_web := PySem.W.mg_of X G m_gathered_web
    b_gathered_web := b_gathered_web
    f_web_on := f_web_on
    d_web_on := d_web_on
    F_web_on := F_web_on
    m_web_on := PySem.W.mg_of X G m_web_on
    b_web_on := b_web_on
    f_is_web_of := f_is_web_of
    d_is_web_of := d_is_web_of
    F_is_web_of := F_is_web_of
    m_is_web_of := PySem.W.mg_of X G m_is_web_of
    b_is_web_of := b_is_web_of
    f_is_tie := f_is_tie
    d_is_tie := d_is_tie
    F_is_tie := F_is_tie
    m_is_tie := PySem.W.mg_of X G m_is_tie
    b_is_tie := b_is_tie
    f_pair_of := f_pair_of
    d_pair_of := d_pair_of
    F_pair_of := F_pair_of
    m_pair_of := PySem.W.mg_of X G m_pair_of
    b_pair_of := b_pair_of
    f_all_pairs := f_all_pairs
    d_all_pairs := d_all_pairs
    F_all_pairs := F_all_pairs
    m_all_pairs := PySem.W.mg_of X G m_all_pairs
    b_all_pairs := b_all_pairs
    f_ties_along := f_ties_along
    d_ties_along := d_ties_along
    F_ties_along := F_ties_along
    m_ties_along := PySem.W.mg_of X G m_ties_along
    b_ties_along := b_ties_along
    f_ties_round := f_ties_round
    d_ties_round := d_ties_round
    F_ties_round := F_ties_round
    m_ties_round := PySem.W.mg_of X G m_ties_round
    b_ties_round := b_ties_round
    f__are_places := f__are_places
    d__are_places := d__are_places
    F__are_places := F__are_places
    m__are_places := PySem.W.mg_of X G m__are_places
    b__are_places := b__are_places
    f__are_ties := f__are_ties
    d__are_ties := d__are_ties
    F__are_ties := F__are_ties
    m__are_ties := PySem.W.mg_of X G m__are_ties
    b__are_ties := b__are_ties
    f__law_dice := f__law_dice
    d__law_dice := d__law_dice
    F__law_dice := F__law_dice
    m__law_dice := PySem.W.mg_of X G m__law_dice
    b__law_dice := b__law_dice
    f__law_roll := f__law_roll
    d__law_roll := d__law_roll
    F__law_roll := F__law_roll
    m__law_roll := PySem.W.mg_of X G m__law_roll
    b__law_roll := b__law_roll
    f__law_pick := f__law_pick
    d__law_pick := d__law_pick
    F__law_pick := F__law_pick
    m__law_pick := PySem.W.mg_of X G m__law_pick
    b__law_pick := b__law_pick
    f__law_mixed := f__law_mixed
    d__law_mixed := d__law_mixed
    F__law_mixed := F__law_mixed
    m__law_mixed := PySem.W.mg_of X G m__law_mixed
    b__law_mixed := b__law_mixed
    f__law_tie := f__law_tie
    d__law_tie := d__law_tie
    F__law_tie := F__law_tie
    m__law_tie := PySem.W.mg_of X G m__law_tie
    b__law_tie := b__law_tie
    f__law_plain := f__law_plain
    d__law_plain := d__law_plain
    F__law_plain := F__law_plain
    m__law_plain := PySem.W.mg_of X G m__law_plain
    b__law_plain := b__law_plain
    f__law_made := f__law_made
    d__law_made := d__law_made
    F__law_made := F__law_made
    m__law_made := PySem.W.mg_of X G m__law_made
    b__law_made := b__law_made
    f__law_pairs := f__law_pairs
    d__law_pairs := d__law_pairs
    F__law_pairs := F__law_pairs
    m__law_pairs := PySem.W.mg_of X G m__law_pairs
    b__law_pairs := b__law_pairs
    f__law_beside := f__law_beside
    d__law_beside := d__law_beside
    F__law_beside := F__law_beside
    m__law_beside := PySem.W.mg_of X G m__law_beside
    b__law_beside := b__law_beside
    f__law_names := f__law_names
    d__law_names := d__law_names
    F__law_names := F__law_names
    m__law_names := PySem.W.mg_of X G m__law_names
    b__law_names := b__law_names
    f__law_images := f__law_images
    d__law_images := d__law_images
    F__law_images := F__law_images
    m__law_images := PySem.W.mg_of X G m__law_images
    b__law_images := b__law_images
    f__law_renamed := f__law_renamed
    d__law_renamed := d__law_renamed
    F__law_renamed := F__law_renamed
    m__law_renamed := PySem.W.mg_of X G m__law_renamed
    b__law_renamed := b__law_renamed
    f__law_random := f__law_random
    d__law_random := d__law_random
    F__law_random := F__law_random
    m__law_random := PySem.W.mg_of X G m__law_random
    b__law_random := b__law_random
    f__law_written := f__law_written
    d__law_written := d__law_written
    F__law_written := F__law_written
    m__law_written := PySem.W.mg_of X G m__law_written
    b__law_written := b__law_written
    f__law_told_web := f__law_told_web
    d__law_told_web := d__law_told_web
    F__law_told_web := F__law_told_web
    m__law_told_web := PySem.W.mg_of X G m__law_told_web
    b__law_told_web := b__law_told_web
    f__law_asked := f__law_asked
    d__law_asked := d__law_asked
    F__law_asked := F__law_asked
    m__law_asked := PySem.W.mg_of X G m__law_asked
    b__law_asked := b__law_asked
    f__law_checked := f__law_checked
    d__law_checked := d__law_checked
    F__law_checked := F__law_checked
    m__law_checked := PySem.W.mg_of X G m__law_checked
    b__law_checked := b__law_checked
    f__law_kept := f__law_kept
    d__law_kept := d__law_kept
    F__law_kept := F__law_kept
    m__law_kept := PySem.W.mg_of X G m__law_kept
    b__law_kept := b__law_kept
    f__law_one_right := f__law_one_right
    d__law_one_right := d__law_one_right
    c__law_one_right := c__law_one_right
    FC__law_one_right := FC__law_one_right
    k__law_one_right := k__law_one_right
    F__law_one_right := F__law_one_right
    m__law_one_right := PySem.W.mg_of X G m__law_one_right
    b__law_one_right := b__law_one_right
    f__law_pair_right := f__law_pair_right
    d__law_pair_right := d__law_pair_right
    c__law_pair_right := c__law_pair_right
    FC__law_pair_right := FC__law_pair_right
    k__law_pair_right := k__law_pair_right
    F__law_pair_right := F__law_pair_right
    m__law_pair_right := PySem.W.mg_of X G m__law_pair_right
    b__law_pair_right := b__law_pair_right
    f__law_made_right := f__law_made_right
    d__law_made_right := d__law_made_right
    F__law_made_right := F__law_made_right
    m__law_made_right := PySem.W.mg_of X G m__law_made_right
    b__law_made_right := b__law_made_right
    f_law := f_law
    d_law := d_law
    F_law := F_law
    m_law := PySem.W.mg_of X G m_law
    b_law := b_law
    E_WebError_InvalidTie := E_WebError_InvalidTie
    E_WebError_InvalidWeb := E_WebError_InvalidWeb
    E_WebError_TooMany := E_WebError_TooMany
    E_InvalidPlace_InvalidTie := E_InvalidPlace_InvalidTie
    E_InvalidPlace_InvalidWeb := E_InvalidPlace_InvalidWeb
    E_InvalidPlace_TooMany := E_InvalidPlace_TooMany
    E_InvalidTie_InvalidTie := E_InvalidTie_InvalidTie
    E_InvalidTie_InvalidWeb := E_InvalidTie_InvalidWeb
    E_InvalidTie_TooMany := E_InvalidTie_TooMany
    E_InvalidWeb_InvalidTie := E_InvalidWeb_InvalidTie
    E_InvalidWeb_InvalidWeb := E_InvalidWeb_InvalidWeb
    E_InvalidWeb_TooMany := E_InvalidWeb_TooMany
    E_InvalidOperation_InvalidTie := E_InvalidOperation_InvalidTie
    E_InvalidOperation_InvalidWeb := E_InvalidOperation_InvalidWeb
    E_InvalidOperation_TooMany := E_InvalidOperation_TooMany
    E_UnknownName_InvalidTie := E_UnknownName_InvalidTie
    E_UnknownName_InvalidWeb := E_UnknownName_InvalidWeb
    E_UnknownName_TooMany := E_UnknownName_TooMany
    E_TooMany_InvalidTie := E_TooMany_InvalidTie
    E_TooMany_InvalidWeb := E_TooMany_InvalidWeb
    E_TooMany_TooMany := E_TooMany_TooMany
    n_int := PySem.W.mg_none_of X G n_int
    n_bool := PySem.W.mg_none_of X G n_bool
    n_str := PySem.W.mg_none_of X G n_str
    n_tuple := PySem.W.mg_none_of X G n_tuple
    n_dict := PySem.W.mg_none_of X G n_dict
    n_len := PySem.W.mg_none_of X G n_len
    n_all := PySem.W.mg_none_of X G n_all
    n_set := PySem.W.mg_none_of X G n_set
    n_sorted := PySem.W.mg_none_of X G n_sorted
    n_list := PySem.W.mg_none_of X G n_list
    n_enumerate := PySem.W.mg_none_of X G n_enumerate
    n_zip := PySem.W.mg_none_of X G n_zip
    n_range := PySem.W.mg_none_of X G n_range
    n_isinstance := PySem.W.mg_none_of X G n_isinstance
    n_iter := PySem.W.mg_none_of X G n_iter
    n_max := PySem.W.mg_none_of X G n_max
    n_min := PySem.W.mg_none_of X G n_min
    n_abs := PySem.W.mg_none_of X G n_abs
  }, rfl, rfl, rfl⟩
end Lx

/-! What the top's facts give: the promises of the program's defs. -/
namespace Lx
open PySem PySem.Spec PyProof.Rows L2 Fw
namespace TX
variable {P : Program} {w : World} {K : PySem.W.Frag} {mg : Str → Option Value} {base : Heap} {gg : Bool} (T : TX K mg)
include T
theorem W : TxW K mg := ⟨T.n_isinstance, T.n_int, T.n_bool, T.n_str, T.n_tuple, T.n_dict, T.n_len, T.n_all, T.v_MAX_LETTERS⟩
theorem N : TxN K mg T.f_are_names T.f_is_name T.f_has_keys T.f_are_different T.d_are_names T.d_is_name T.d_has_keys T.d_are_different :=
  ⟨T.W, T.n_set, T.m_are_names, T.F_are_names, T.b_are_names, T.m_is_name, T.F_is_name, T.b_is_name, T.m_has_keys, T.F_has_keys, T.b_has_keys, T.m_are_different, T.F_are_different, T.b_are_different⟩
theorem B : TxB K mg T.f_is_ascending T.f_is_tie T.d_is_ascending T.d_is_tie := ⟨T.n_zip, T.v_MAX_PLACES, T.v_MAX_TIES, T.m_is_ascending, T.F_is_ascending, T.b_is_ascending, T.m_is_tie, T.F_is_tie, T.b_is_tie⟩
theorem O : TxO K mg T.f__are_places T.f__are_ties T.d__are_places T.d__are_ties := ⟨T.m__are_places, T.F__are_places, T.b__are_places, T.m__are_ties, T.F__are_ties, T.b__are_ties⟩
theorem I : TxI K mg T.f_is_web_of T.f_near_marks T.d_is_web_of T.d_near_marks := ⟨T.m_is_web_of, T.F_is_web_of, T.b_is_web_of, T.m_near_marks, T.F_near_marks, T.b_near_marks, T.n_enumerate⟩
theorem TC : TxC K T.C_Web := ⟨T.cl_Web, T.na_Web__places, T.na_Web__ties, T.na_Web__near⟩
theorem Pr : TxPr K T.C_Web T.p_Web_places T.f_Web_places T.p_Web_ties T.f_Web_ties T.d_Web_places T.d_Web_ties := ⟨T.P_Web_places, T.F_Web_places, T.b_Web_places, T.P_Web_ties, T.F_Web_ties, T.b_Web_ties⟩
theorem G : TxG K mg T.C_Web T.f_Web___init__ T.d_Web___init__ := ⟨T.mk_Web, T.g_Web, T.F_Web___init__, T.b_Web___init__, T.n_sorted⟩
theorem U : TxQ K mg T.f_need_places T.f_pair_of T.d_need_places T.d_pair_of := ⟨T.m_need_places, T.F_need_places, T.m_pair_of, T.F_pair_of, T.b_pair_of⟩
theorem M : TxM K mg T.f_marked T.d_marked := ⟨T.m_marked, T.F_marked, T.b_marked, T.n_tuple, T.n_enumerate⟩
theorem TT : TxT K mg T.C_Web T.f_Web_is_tied T.f_gathered_web T.d_Web_is_tied T.d_gathered_web := ⟨T.M_Web_is_tied, T.F_Web_is_tied, T.b_Web_is_tied, .inr trivial, T.m_gathered_web, T.F_gathered_web, T.b_gathered_web⟩
theorem V : TxV K mg T.f_web_on T.d_web_on := ⟨T.m_web_on, T.F_web_on, T.b_web_on⟩
theorem S : TxS K T.C_Web T.f_Web_without_places T.d_Web_without_places := ⟨T.isC_Web, T.M_Web_without_places, T.F_Web_without_places, T.b_Web_without_places⟩
theorem DT : TxDT K T.C_Web T.f_Web_neighbours T.d_Web_neighbours := ⟨T.M_Web_neighbours, T.F_Web_neighbours, T.b_Web_neighbours⟩
theorem RN : TxRN K mg T.f_is_naming T.d_is_naming := ⟨T.m_is_naming, T.F_is_naming, T.b_is_naming⟩
theorem RG : TxRG K mg T.f_ties_along T.f_ties_round T.d_ties_along T.d_ties_round := ⟨T.m_ties_along, T.F_ties_along, T.b_ties_along, T.m_ties_round, T.F_ties_round, T.b_ties_round⟩
theorem D : TxD mg := ⟨T.n_int, T.n_len, T.n_max, T.n_abs⟩
/-! ### promises -/
theorem q_places : FnV gg P w K mg base CX0 3 T.f__are_places T.d__are_places ["value"] spPlaces := ok_places T.F__are_places T.N T.B
theorem q_istie : FnV gg P w K mg base CX0 4 T.f_is_tie T.d_is_tie ["value"] spIsTie := ok_istie T.F_is_tie T.N
theorem q_pair : FnV gg P w K mg base CX0 1 T.f_pair_of T.d_pair_of ["a", "b"] spPair := ok_pair T.F_pair_of
theorem q_pairs : FnV gg P w K mg base CX0 1 T.f_all_pairs T.d_all_pairs ["places"] spPairs := ok_pairs T.F_all_pairs T.n_enumerate
theorem q_init : FnV gg P w K mg base (L2.CX P w) 7 T.f_Web___init__ T.d_Web___init__ ["self", "places", "ties"] (spInit T.C_Web T.C_InvalidWeb) := ok_init T.F_Web___init__ T.N T.B T.O T.I T.X_InvalidWeb T.TC
theorem q_initD : FnV gg P w K mg base (L2.CX P w) 7 T.f_Web___init__ T.d_Web___init__ ["self", "places", "ties"] (spInitD T.C_Web T.C_InvalidWeb) := ok_initD T.F_Web___init__ T.N T.B T.O T.I T.X_InvalidWeb T.TC
theorem q_gath : FnV gg P w K mg base (L2.CX P w) 9 T.f_gathered_web T.d_gathered_web ["places", "ties"] (spGath K T.C_Web T.C_InvalidWeb) := ok_gath T.F_gathered_web T.N T.B T.O T.I T.X_InvalidWeb T.TC T.G
theorem q_getP : FnV gg P w K mg base CX0 1 T.f_Web_places T.d_Web_places ["self"] (spP T.C_Web) := ok_getP T.F_Web_places T.TC
theorem q_getT : FnV gg P w K mg base CX0 1 T.f_Web_ties T.d_Web_ties ["self"] (spT T.C_Web) := ok_getT T.F_Web_ties T.TC
theorem q_neigh : FnV gg P w K mg base CX0 4 T.f_Web_neighbours T.d_Web_neighbours ["self", "place"] (spNeigh T.C_Web) := ok_neigh T.F_Web_neighbours T.TC T.Pr T.U T.M
theorem q_with : FnV gg P w K mg base (L2.CX P w) 10 T.f_Web_with_tie T.d_Web_with_tie ["self", "a", "b"] (spWith T.C_Web T.C_InvalidWeb T.C_InvalidTie) := ok_with T.F_Web_with_tie T.N T.B T.O T.I T.X_InvalidWeb T.X_InvalidTie T.TC T.G T.Pr T.U T.TT
theorem q_wo : FnV gg P w K mg base (L2.CX P w) 9 T.f_Web_without_tie T.d_Web_without_tie ["self", "a", "b"] (spWo T.C_Web T.C_InvalidTie) := ok_wo T.F_Web_without_tie T.N T.B T.O T.I T.X_InvalidWeb T.X_InvalidTie T.TC T.G T.Pr T.U T.TT
theorem q_withP : FnV gg P w K mg base (L2.CX P w) 10 T.f_Web_with_place T.d_Web_with_place ["self", "name"] (spWithP T.C_Web T.C_InvalidWeb) := ok_withP T.F_Web_with_place T.N T.B T.O T.I T.X_InvalidWeb T.TC T.G T.TT
theorem q_wop : FnV gg P w K mg base (L2.CX P w) 10 T.f_Web_without_places T.d_Web_without_places ["self", "places"] (spWoP T.C_Web T.C_InvalidWeb) := ok_wop T.F_Web_without_places T.N T.B T.O T.I T.X_InvalidWeb T.TC T.G T.Pr T.U T.V
theorem q_sub : FnV gg P w K mg base (L2.CX P w) 11 T.f_Web___sub__ T.d_Web___sub__ ["self", "other"] (spWoP T.C_Web T.C_InvalidWeb) := ok_sub T.F_Web___sub__ T.N T.B T.O T.I T.X_InvalidWeb T.TC T.G T.Pr T.U T.V T.S
theorem q_add : FnV gg P w K mg base (L2.CX P w) 10 T.f_Web___add__ T.d_Web___add__ ["self", "other"] (spAdd T.C_Web T.C_InvalidWeb) := ok_add T.F_Web___add__ T.N T.B T.O T.I T.X_InvalidWeb T.TC T.G T.Pr T.TT T.S
theorem q_dt : FnV gg P w K mg base (L2.CX P w) 11 T.f_Web_drawn_together T.d_Web_drawn_together ["self", "a", "b"] (spDT T.C_Web T.C_InvalidWeb T.C_InvalidTie) := ok_dt T.F_Web_drawn_together T.N T.B T.O T.I T.X_InvalidWeb T.X_InvalidTie T.TC T.G T.Pr T.U T.TT T.V T.S T.M T.DT
theorem q_ren : FnV gg P w K mg base (L2.CX P w) 10 T.f_Web_renamed T.d_Web_renamed ["self", "names"] (spRen T.C_Web T.C_InvalidWeb) := ok_ren T.F_Web_renamed T.N T.B T.O T.I T.X_InvalidWeb T.X_InvalidPlace T.TC T.G T.U T.TT T.RN
theorem q_eq : FnV gg P w K mg base CX0 1 T.f_Web___eq__ T.d_Web___eq__ ["self", "other"] (spEq T.C_Web) := ok_eq T.F_Web___eq__ T.n_isinstance T.TC T.G T.S
theorem q_ring : FnV gg P w K mg base (L2.CX P w) 10 T.f_ring_web T.d_ring_web ["ring"] (spRingW T.C_Web T.C_InvalidWeb) := ok_ringW T.F_ring_web T.N T.B T.O T.I T.X_InvalidWeb T.TC T.G T.U T.TT T.RG
theorem q_dice : FnG P w K mg base CX0 1 T.f__law_dice T.d__law_dice ["_law_script", "_law_spot"] (spDice K) := ok_dice T.F__law_dice T.D
theorem q_roll : FnG P w K mg base CX0 1 T.f__law_roll T.d__law_roll ["_law_dice_here", "_law_total"] spRoll := ok_roll T.F__law_roll T.D
theorem q_pick : FnG P w K mg base CX0 2 T.f__law_pick T.d__law_pick ["_law_dice_here", "_law_items"] (spPick K) := ok_pick T.F__law_pick T.D T.m__law_roll T.F__law_roll T.b__law_roll
theorem q_mixed : FnG P w K mg base CX0 2 T.f__law_mixed T.d__law_mixed ["_law_dice_here", "_law_items"] (spMixed K) := ok_mixed T.F__law_mixed T.D T.n_range T.n_list T.m__law_roll T.F__law_roll T.b__law_roll
theorem q_ltie : FnV gg P w K mg base CX0 1 T.f__law_tie T.d__law_tie ["_law_a", "_law_b"] spPair := ok_ltie T.F__law_tie T.n_min T.n_max
theorem q_toldW : FnV gg P w K mg base CX0 3 T.f__law_told_web T.d__law_told_web ["_law_web"] (spToldW T.C_Web) := ok_toldW T.F__law_told_web T.n_list T.TC T.Pr
theorem q_plain : FnV gg P w K mg base CX0 2 T.f__law_plain T.d__law_plain ["_law_places", "_law_ties"] (spPlain K) := ok_plain T.F__law_plain T.n_list T.n_set T.n_sorted T.n_min T.n_max T.m__law_tie T.F__law_tie T.b__law_tie
theorem q_made : FnV gg P w K mg base (L2.CX P w) 9 T.f__law_made T.d__law_made ["_law_plain_here"] (spMade T.C_Web) := ok_made T.F__law_made T.N T.B T.O T.I T.X_InvalidWeb T.TC T.G
theorem q_beside : FnV gg P w K mg base CX0 1 T.f__law_beside T.d__law_beside ["_law_plain_here", "_law_place"] spBeside := ok_beside T.F__law_beside T.n_sorted
theorem q_names : FnV gg P w K mg base CX0 1 T.f__law_names T.d__law_names [] spNamesL := ok_namesL T.F__law_names
theorem q_lren : FnV gg P w K mg base CX0 3 T.f__law_renamed T.d__law_renamed ["_law_plain_here", "_law_names_here"] spLRen := ok_lren T.F__law_renamed T.n_list T.n_set T.n_sorted T.n_min T.n_max T.m__law_tie T.F__law_tie T.b__law_tie T.m__law_plain T.F__law_plain T.b__law_plain
theorem q_checked : FnV gg P w K mg base CX0 3 T.f__law_checked T.d__law_checked ["_law_places", "_law_ties"] (spChecked K) := ok_checked T.F__law_checked T.n_len T.n_list T.n_set T.n_sorted T.n_min T.n_max T.m__law_tie T.F__law_tie T.b__law_tie T.m__law_plain T.F__law_plain T.b__law_plain
theorem q_kept : FnV gg P w K mg base CX0 4 T.f__law_kept T.d__law_kept ["_law_plain_here", "_law_gone"] spKept := ok_kept T.F__law_kept T.n_len T.n_list T.n_set T.n_sorted T.n_min T.n_max T.m__law_tie T.F__law_tie T.b__law_tie T.m__law_plain T.F__law_plain T.b__law_plain T.m__law_checked T.F__law_checked T.b__law_checked
end TX
end Lx

/-! Lists: pairs of ascending names. -/
namespace Lx
open PySem PySem.Spec PyProof.Rows L2 Fw
theorem item_lt (x y : Str) : itemLt (Sum.inr x.cps.toList) (Sum.inr y.cps.toList) = ltS x y := by
  show strKind.blt x.cps.toList y.cps.toList = _
  simp only [ltS]
theorem ltT_two (a b c d : Str) : ltT [a, b] [c, d] = (ltS a c || (!ltS c a && ltS b d)) := by
  have e : ltT [a, b] [c, d] = (itemLt (Sum.inr a.cps.toList) (Sum.inr c.cps.toList) || (!itemLt (Sum.inr c.cps.toList) (Sum.inr a.cps.toList) && (itemLt (Sum.inr b.cps.toList) (Sum.inr d.cps.toList) || (!itemLt (Sum.inr d.cps.toList) (Sum.inr b.cps.toList) && false)))) := rfl
  rw [e, item_lt, item_lt, item_lt, item_lt, Bool.and_false, Bool.or_false]
theorem ltS_iff {x y : Str} : ltS x y = true ↔ x.cps.toList < y.cps.toList := decide_eq_true_iff
theorem ltS_irr (x : Str) : ltS x x = false := decide_eq_false (List.lt_irrefl _)
theorem ltS_not {x y : Str} (h : ltS x y = true) : ltS y x = false := decide_eq_false fun z => List.lt_irrefl _ (List.lt_trans (ltS_iff.mp h) z)
theorem ltS_or {x y : Str} (n : x ≠ y) (h : ltS x y = false) : ltS y x = true := by
  by_cases c : y.cps.toList < x.cps.toList
  · exact decide_eq_true c
  · have d : ¬ x.cps.toList < y.cps.toList := of_decide_eq_false h
    exact absurd (str_of_cps (List.le_antisymm (List.not_lt.mp c) (List.not_lt.mp d))) n
theorem mem_pairs : ∀ {ns : List Str}, AscN ns → ∀ k, k ∈ pairsT ns ↔ ∃ x y, k = [x, y] ∧ x ∈ ns ∧ y ∈ ns ∧ ltS x y = true
  | [], _, k => by
    constructor
    · intro m
      exact absurd m (by simp [pairsT])
    · rintro ⟨x, y, _, m, _⟩
      exact absurd m (by simp)
  | a :: r, h, k => by
    obtain ⟨h1, h2⟩ := List.pairwise_cons.mp h
    have ih := mem_pairs h2 k
    show k ∈ r.map (fun b => [a, b]) ++ pairsT r ↔ _
    rw [List.mem_append, ih, List.mem_map]
    constructor
    · rintro (⟨b, mb, rfl⟩ | ⟨x, y, rfl, mx, my, l⟩)
      · exact ⟨a, b, rfl, List.mem_cons_self, List.mem_cons_of_mem _ mb, ltS_iff.mpr (h1 b mb)⟩
      · exact ⟨x, y, rfl, List.mem_cons_of_mem _ mx, List.mem_cons_of_mem _ my, l⟩
    · rintro ⟨x, y, rfl, mx, my, l⟩
      rcases List.mem_cons.mp mx with ex | mx
      · rcases List.mem_cons.mp my with ey | my
        · rw [ex, ey, ltS_irr] at l
          cases l
        · exact .inl ⟨y, my, by rw [ex]⟩
      · rcases List.mem_cons.mp my with ey | my
        · have z := ltS_not (ltS_iff.mpr (h1 x mx))
          rw [ey, z] at l
          cases l
        · exact .inr ⟨x, y, rfl, mx, my, l⟩
theorem pairs_asc : ∀ {ns : List Str}, AscN ns → AscT (pairsT ns)
  | [], _ => List.Pairwise.nil
  | a :: r, h => by
    obtain ⟨h1, h2⟩ := List.pairwise_cons.mp h
    show AscT (r.map (fun b => [a, b]) ++ pairsT r)
    refine List.pairwise_append.mpr ⟨List.pairwise_map.mpr ?_, pairs_asc h2, ?_⟩
    · refine List.Pairwise.imp ?_ h2
      intro x y l
      rw [ltT_two, ltS_irr, ltS_iff.mpr l]
      rfl
    · intro k mk j mj
      obtain ⟨b, mb, rfl⟩ := List.mem_map.mp mk
      obtain ⟨x, y, rfl, mx, my, l⟩ := (mem_pairs h2 j).mp mj
      rw [ltT_two, ltS_iff.mpr (h1 x mx)]
      rfl
theorem pairs_len : ∀ ns : List Str, (pairsT ns).length * 2 + ns.length = ns.length * ns.length
  | [] => rfl
  | a :: r => by
    have ih := pairs_len r
    show (r.map (fun b => [a, b]) ++ pairsT r).length * 2 + (r.length + 1) = (r.length + 1) * (r.length + 1)
    rw [List.length_append, List.length_map, show (r.length + 1) * (r.length + 1) = r.length * r.length + 2 * r.length + 1 by rw [Nat.add_mul, Nat.mul_add]; omega]
    omega
theorem pairs_few {ns : List Str} (h : ns.length ≤ 9) : (pairsT ns).length ≤ 36 := by
  have z := pairs_len ns
  have y : ∀ n : Nat, n ≤ 9 → n * n ≤ 72 + n := by decide
  have x := y _ h
  omega
theorem tieIn_mk {ns : List Str} {x y : Str} (hx : nameS x = true) (hy : nameS y = true) (l : ltS x y = true) (mx : x ∈ ns) (my : y ∈ ns) : tieIn ns [x, y] = true := by
  show (tieV [.str x, .str y] && (inV (.str x) (ns.map V.str) && inV (.str y) (ns.map V.str))) = true
  rw [in_yes mx, in_yes my]
  show ((nameS x && nameS y && ltS x y) && _) = true
  rw [hx, hy, l]
  rfl
theorem tieIn_inv {ns k : List Str} (h : tieIn ns k = true) : ∃ x y, k = [x, y] ∧ nameS x = true ∧ nameS y = true ∧ ltS x y = true ∧ x ∈ ns ∧ y ∈ ns := by
  match k, h with
  | [x, y], h =>
    have h' : ((nameS x && nameS y && ltS x y) && (inV (.str x) (ns.map V.str) && inV (.str y) (ns.map V.str))) = true := h
    simp only [Bool.and_eq_true] at h'
    obtain ⟨⟨⟨a, b⟩, c⟩, d, e⟩ := h'
    have mem : ∀ z : Str, inV (.str z) (ns.map V.str) = true → z ∈ ns := fun z q => by
      obtain ⟨u, m, e⟩ := List.any_eq_true.mp q
      obtain ⟨v, mv, rfl⟩ := List.mem_map.mp m
      have : v = z := by simpa [eqV] using e
      exact this ▸ mv
    exact ⟨x, y, rfl, a, b, c, mem x d, mem y e⟩
theorem pairs_web {ns : List Str} (nm : ∀ x ∈ ns, nameS x = true) (asc : AscN ns) (ge : 1 ≤ ns.length) (few : ns.length ≤ 9) {ts : List (List Str)} (at_ : AscT ts) (sub : ∀ k ∈ ts, k ∈ pairsT ns) (le : ts.length ≤ 40) : webB ns ts = true := by
  refine webB_iff.mpr ⟨nm, ge, by omega, asc, le, fun k m => ?_, at_⟩
  obtain ⟨x, y, rfl, mx, my, l⟩ := (mem_pairs asc k).mp (sub k m)
  exact tieIn_mk (nm x mx) (nm y my) l mx my
end Lx

/-! sorted of a list or tuple of tuples of texts; written tuples known to their object; cls(..). -/
namespace Fw
open PySem PySem.Spec PyProof.Rows L2
section
variable {P : Program} {w : World} {A : Around} {E : Value → Shared → Prop} {s : Shared} {a : Addr} {l : List (Addr × List Str)}
theorem sorted_seqE {Q : Value → Shared → Prop} {T : String} {o : Obj} {items : Array Value} {n : Nat} (hT : T = "list" ∨ T = "tuple") (ho : s.heap.get? a = some o) (hc : o.cls = .type T) (hd : o.data = .seq items n) (its : items.toList = l.map fun p => Value.ref p.1) (few : l.length ≤ 1000) (ok : ∀ p ∈ l, TxT P w s.heap p.2 p.1) (ne : ∀ p ∈ l, p.2 ≠ [])
    (fin : ∀ (h1 h' : Heap) (out : Array Value) (c : Nat) (ys : List (Addr × List Str)), (∀ b u, s.heap.get? b = some u → h1.get? b = some u) → (∀ b u, h1.get? b = some u → h'.get? b = some u) →
      h'.get? h1.objs.size = some (seqObj "list" out c) → out.toList = ys.map (fun p => Value.ref p.1) → ys.Perm l → ys.Pairwise (fun p q => ltT q.2 p.2 = false) → Q (.ref h1.objs.size) { s with heap := h' }) :
    wpAny (model P w) A (call (.builtin "sorted") [.ref a]) Q E s := by
  refine (Calls.call_function_entry kind_sorted plain_sorted entry_sorted
    (args_sorted1 _) ?_)
  unfold Builtin.«sorted»
  refine (wpAny_bind (m := checkCount "sorted" 1 1 _)
    (wpAny_pure ?_))
  have lits : items.size = l.length := by rw [← Array.length_toList, its, List.length_map]
  refine wpAny_bind (wpAny_collect_seq (A := A.in1) a hT ho hc hd (fun h1 keep1 => ?_) (by rw [lits, sizeLine_eq]; omega))
  rw [its]
  have n0 : (l.map fun p => Value.ref p.1).length = l.length := List.length_map _
  refine wpAny_bind (wpAny_newList ?_ (by rw [n0, sizeLine_eq]; omega))
  have atL : (h1.push (seqObj "list" (l.map fun p => Value.ref p.1).toArray 0)).get? h1.objs.size = some (seqObj "list" (l.map fun p => Value.ref p.1).toArray 0) := Heap.get?_push_size _ rfl
  have ok1 : ∀ p ∈ l, TxT P w (h1.push (seqObj "list" (l.map fun p => Value.ref p.1).toArray 0)) p.2 p.1 := fun p m => by
    obtain ⟨o, its, n, ho, r⟩ := ok p m
    exact ⟨o, its, n, Heap.get?_push_of_some _ (keep1 _ _ ho), r⟩
  obtain ⟨fs, FS⟩ := tupsOf_txt l fun p m => ⟨ok1 p m, ne p m⟩
  refine wpAny_bind (wpAny_holding (wpAny_call_entry PyProof.Rows.slot_list_sort ⟨_, atL, rfl⟩ PyProof.Rows.entry_list_sort
    (G.list_sort_tups (shape := allT) (fs := fs) (s := { s with heap := h1.push (seqObj "list" (l.map fun p => Value.ref p.1).toArray 0) }) atL FS (fun v m => by
      obtain ⟨p, mp, rfl⟩ := List.mem_map.mp m
      exact ⟨_, keyC_txt (ok1 p mp)⟩) (by rw [n0, sizeLine_eq]; omega) fun st p3 so _ => ?_) (PyProof.Rows.args_list_sort _)))
  obtain ⟨ys, g1, g2, g3⟩ := sorted_txt ok1 p3 so
  refine ⟨_, rfl, ?_⟩
  obtain ⟨c, hcc⟩ := sortedHeap_at (vs := l.map fun p => Value.ref p.1) (out := (arrOf st).map (·.2)) atL
  refine wpAny_pure ⟨_, rfl, fin h1 _ _ c ys keep1 (fun b u e => ?_) hcc g2 g1 g3⟩
  have lt := Heap.lt_size e
  show (sortedHeap (h1.push (seqObj "list" (l.map fun p => Value.ref p.1).toArray 0)) h1.objs.size (l.map fun p => Value.ref p.1) _).get? b = some u
  rw [sortedHeap_old (Nat.ne_of_lt lt) (by rw [Heap.size_push]; exact Nat.lt_succ_of_lt lt)]
  exact Heap.get?_push_of_some _ e
end
section
variable {X : Cx}
/-- sorted of a list or tuple of tuples of texts -/
def rSortedQ (K : PySem.W.Frag) : List V → Hp → VK → Prop := fun vs H Q => ∃ (p : Addr) (l : List (Addr × List Str)), vs = [V.ref p] ∧ (SqL K H p (l.map fun k => V.ref k.1) ∨ SqT K H p (l.map fun k => V.ref k.1)) ∧ l.length ≤ 1000 ∧ (∀ k ∈ l, Rd H k.1 (.tup (k.2.map V.str)) ∧ k.2 ≠ []) ∧
  ∀ (ys : List (Addr × List Str)) (q : Addr), ys.Perm l → ys.Pairwise (fun p q => ltT q.2 p.2 = false) → H q = none → Q (.ref q) (upd H q (.lst (ys.map fun k => V.ref k.1)))
theorem refs_of : ∀ {l : List (Addr × List Str)} {its : List Value}, Vals (l.map fun k => V.ref k.1) its → its = l.map fun k => Value.ref k.1
  | [], _, .nil => rfl
  | k :: l, _, .cons (b := b) r more => by
    cases r
    rw [refs_of more]
    rfl
theorem cr_sortedQ : CallR X (.builtin "sorted") (rSortedQ X.K) := by
  intro pins s σ H vs us Q I r z
  obtain ⟨a, l, rfl, ha, few, tup, q⟩ := z
  rw [Vals.ref1 r]
  have done : ∀ (h1 h' : Heap) (out : Array Value) (c : Nat) (ys : List (Addr × List Str)), (∀ b u, s.heap.get? b = some u → h1.get? b = some u) → (∀ b u, h1.get? b = some u → h'.get? b = some u) →
      h'.get? h1.objs.size = some (seqObj "list" out c) → out.toList = ys.map (fun p => Value.ref p.1) → ys.Perm l → ys.Pairwise (fun p q => ltT q.2 p.2 = false) → EP X pins σ Q (.ref h1.objs.size) { s with heap := h' } := by
    intro h1 h' out c ys k1 k2 at_ are pm so
    have short : (ys.map fun k => V.ref k.1).length ≤ sizeLine := by
      rw [List.length_map, pm.length_eq, sizeLine_eq]
      omega
    have J : Inv X pins σ H { s with heap := h1 } := I.kept (t' := s.toks) k1
    have new := J.hok.fresh (Nat.le_refl _)
    have J2 : Inv X pins σ (upd H h1.objs.size (.lst (ys.map fun k => V.ref k.1))) { s with heap := h' } :=
      J.laid (t' := s.toks) k2 (Nat.le_refl _) ⟨short, out.toList, c, by rw [are]; exact vals_refsP ys, at_⟩
    exact ⟨.ref _, _, J2, rfl, q ys _ pm so new⟩
  rcases ha with hq | hq
  · obtain ⟨its, rv, pl, hz⟩ := I.list hq
    obtain ⟨o, at_, c1, n1, d1⟩ := pl.isList
    have e := refs_of rv
    exact sorted_seqE (.inl rfl) at_ c1 d1 (by rw [← e]) few (fun p m => txT_of I (tup p m).1) (fun p m => (tup p m).2) done
  · obtain ⟨its, rv, ⟨o, e1, c1, n1, d1⟩, hz⟩ := I.tuple hq
    have e := refs_of rv
    exact sorted_seqE (.inr rfl) e1 c1 d1 (by rw [← e]) few (fun p m => txT_of I (tup p m).1) (fun p m => (tup p m).2) done
theorem cr_sortedQk {K : PySem.W.Frag} (h : X.K = K) : CallR X (.builtin "sorted") (rSortedQ K) := h ▸ cr_sortedQ
/-- a written tuple, known to its object -/
def tTupF (t : TA) : TE := fun σ H Q => t σ H fun xs H1 => xs.length ≤ sizeLine ∧ ∀ p (o : Obj), H1 p = none → o.dict = none → Q (.ref p) (upd H1 p (.frz o (.tup xs)))
variable {es : List Expr} {pos : Pos} {t : TA}
theorem pe_tupF {x1} (h : PA X es t) : PE X (.Tuple es x1 pos) (tTupF t) := by
  refine ⟨fun pins s σ H Q I hq => ?_⟩
  refine wpAny_Tuple_spliced (thn (h.run pos pins s σ H _ I hq) fun us s1 ⟨xs, H1, I1, r, z, q⟩ => ⟨by rw [← r.length]; exact z, ?_⟩)
  have hf : H1 s1.heap.objs.size = none := I1.hok.fresh (Nat.le_refl _)
  let ob : Obj := { cls := .type "tuple", data := .seq us.toArray }
  have J : Inv X pins σ (upd H1 s1.heap.objs.size (.frz ob (.tup xs))) { s1 with heap := s1.heap.push ob } :=
    I1.laid (t' := s1.toks) (fun b u e => Heap.get?_push_of_some _ e) (Nat.le_refl _) ⟨Heap.get?_push_size _ rfl, z, us, r, IsTup.new _ _⟩
  exact ⟨.ref s1.heap.objs.size, _, J, rfl, q _ ob hf rfl⟩
/-- the i-th slot holds the class -/
def tMakeL (i : Nat) (C : Addr) (sp : Sp) (dvs : List V) (E : XK) (t : TA) : TE := fun σ H Q => σ[i]? = some (some (.ref C)) ∧ tMake C sp dvs E t σ H Q
variable {CX : CXT} {k i : Nat} {C f : Addr} {fd : FuncData} {ps : List Str} {sp : Sp} {dvs : List V} {ds : List Value} {E : XK} {x : Str} {p : Pos} {e : Expr}
theorem pe_makeL (M : Mk X.K C f) (F : FnOk X.prog X.w X.K X.mg X.base CX k f fd ps sp) (hr : Room (k + 1) X.A) (hN : X.N[i]? = some x) (hv : Vis X.env.scope x) (hb : Binds X.K fd ps ds) (hd : Vals dvs ds) (hx : Passes CX X E)
    (ha : PA X (e :: es) t) (hdb : (x == ("__debug__" : Str)) = false := by decide) (hcd : (x == ("__classdict__" : Str)) = false := by decide)
    (he : starEach (e :: es) X.env = (false, eval e X.env) :: starEach es X.env := by rfl) (hpl : (backTo pos (starEach es X.env)).any (·.1) = false := by rfl) :
    PE X (.Call (.Name x p) (e :: es) [] pos) (tMakeL i C sp dvs E t) := by
  refine ⟨fun pins s σ H Q I h => ?_⟩
  obtain ⟨hs, ht⟩ := h
  refine wpAny_Call_Name_kw (thn ((pe_var (pos := p) hN hv hdb hcd).run pins s σ H (fun v H1 => v = .ref C ∧ H1 = H) I ⟨.ref C, hs, rfl, rfl⟩) fun u s1 ⟨v, H1, I1, r1, q1⟩ => ?_)
  obtain ⟨rfl, rfl⟩ := q1
  cases r1
  refine PySem.W.callWith_K (h₀ := X.base) I.ok.mod.kin M.kp (thn (ha.run pos pins s1 σ _ _ I1 ht) fun us s2 ⟨vs, H2, I2, r, q⟩ => ⟨I2.kIn, ?_⟩) he hpl
  exact run_make M F hr hb hd hx I2 r q
end
end Fw

/-! Webs: full webs, complements. -/
namespace Lx
open PySem PySem.Spec PyProof.Rows L2 Fw
theorem pe_fldK {X : Cx} {K : PySem.W.Frag} {e : Expr} {ta : TE} {f : Str} {pos : Pos} (h : X.K = K) (he : PE X e ta) (hb : attributeBase e f X.env (eval e X.env) = eval e X.env) : PE X (.Attribute e f pos) (tFld K ta f) := h ▸ pe_fld he hb
theorem fm_guard {α : Type} (p : α → Bool) : ∀ l : List α, l.filterMap (fun x => if p x = true then some x else none) = l.filter p
  | [] => rfl
  | a :: l => by
    rw [List.filterMap_cons, List.filter_cons, ← fm_guard p l]
    cases p a <;> rfl
/-- a web is made: what is asked of its __init__ -/
theorem made_by {C CW : Addr} {H H4 : Hp} {Q : VK} {E : XK} {t a : Addr} {ns : List Str} {ks : List (Addr × List Str)} (S4 : Same H H4) (tu : TupK H4 t (ns.map V.str)) (ra : Rd H4 a (.tup (ks.map fun k => V.ref k.1))) (each : Each H4 ks) (ok : webB ns (ks.map (·.2)) = true)
    (q : ∀ H' y, Same H H' → H y = none → WebAt C H' y t a ns ks → (∀ b o, H b = some o → Apart H' y b) → Q (.ref y) H') :
    ∀ x dx, H4 x = none → H4 dx = none → dx ≠ x → spInitD C CW (.ref x :: ([.ref t, .ref a] ++ [])) (upd (upd H4 dx (.own x)) x (.ins C dx [])) (fun v H2 => v = .non ∧ Q (.ref x) H2) E := by
  intro y dy ny ndy ney
  obtain ⟨nm, _, few, _, fewT, _, _⟩ := webB_iff.mp ok
  have sm : ∀ x ∈ ns, x.length ≤ 1000 := fun x m => name_short (nm x m)
  rw [List.length_map] at fewT
  have s7 := same_trans (same_upd (o := .own y) ndy) (same_upd (H := upd H4 dy (.own y)) (o := .ins C dy []) (by rw [upd_ne (Ne.symm ney)]; exact ny))
  have hy : (upd (upd H4 dy (.own y)) y (.ins C dy [])) y = some (.ins C dy []) := upd_same
  have hdy : (upd (upd H4 dy (.own y)) y (.ins C dy [])) dy = some (.own y) := by rw [upd_ne ney, upd_same]
  have S7 := same_trans S4 s7
  have nHy := none_same S4 ny
  generalize upd (upd H4 dy (.own y)) y (.ins C dy []) = H7 at s7 hy hdy S7 ⊢
  refine ⟨y, dy, t, a, ns, ks, rfl, hy, hdy, tu.same s7, sm, by omega, ⟨rd_same ra s7, each.same s7, by omega⟩, fun c => ?_, fun _ H' sv Wn ap => ⟨rfl, ?_⟩⟩
  · rw [ok] at c
    cases c
  · exact q H' y (fun b u e => sv b u (ne_of_none e nHy) (S7 _ _ e)) nHy Wn fun b o e => ap b o (S7 _ _ e)
def spFull (C : Addr) : Sp := fun vs H Q _ => ∃ (t : Addr) (ns : List Str), vs = [.ref t] ∧ TupK H t (ns.map V.str) ∧ (∀ x ∈ ns, nameS x = true) ∧ AscN ns ∧ 1 ≤ ns.length ∧ ns.length ≤ 9 ∧ ∀ H' y a ks, ks.map (·.2) = pairsT ns → Same H H' → H y = none → WebAt C H' y t a ns ks → Q (.ref y) H'
theorem places_ok {ns : List Str} (nm : ∀ x ∈ ns, nameS x = true) (asc : AscN ns) (ge : 1 ≤ ns.length) (few : ns.length ≤ 12) : placesB ns = true := by
  have z : webB ns [] = true := webB_iff.mpr ⟨nm, ge, few, asc, by simp, fun k m => absurd m (by simp), List.Pairwise.nil⟩
  unfold webB at z
  exact (Bool.and_eq_true_iff.mp z).1
/-- the other pairs -/
def otherT (ns : List Str) (ts : List (List Str)) : List (List Str) := (pairsT ns).filter fun k => !decide (k ∈ ts)
theorem other_web {ns : List Str} {ts : List (List Str)} (ok : webB ns ts = true) (few : ns.length ≤ 9) : webB ns (otherT ns ts) = true := by
  obtain ⟨nm, ge, _, asc, _, _, _⟩ := webB_iff.mp ok
  refine pairs_web nm asc ge few (List.Pairwise.filter _ (pairs_asc asc)) (fun k m => (List.mem_filter.mp m).1) ?_
  have z := pairs_few few
  have y := List.length_filter_le (fun k => !decide (k ∈ ts)) (pairsT ns)
  unfold otherT
  omega
def spInv (C : Addr) : Sp := fun vs H Q _ => ∃ (x t a : Addr) (ns : List Str) (ks : List (Addr × List Str)), vs = [.ref x] ∧ WebAt C H x t a ns ks ∧ ns.length ≤ 9 ∧ ∀ H' y a' ls, ls.map (·.2) = otherT ns (ks.map (·.2)) → Same H H' → H y = none → WebAt C H' y t a' ns ls → Q (.ref y) H'
section
variable {P : Program} {w : World} {K : PySem.W.Frag} {mg : Str → Option Value} {base : Heap} {gg : Bool}
theorem scFull : FnScope ["places"] ["places"] (defScope (top 24)) := ⟨rfl, rfl, rfl, by decide +kernel, rfl, by decide +kernel, by decide +kernel⟩
theorem TX.q_full (T : TX K mg) : FnV gg P w K mg base (L2.CX P w) 9 T.f_full_web T.d_full_web ["places"] (spFull T.C_Web) := by
  have GP : FnV gg P w K mg base CX0 3 T.f__are_places T.d__are_places ["value"] spPlaces := T.q_places
  have GA : FnV gg P w K mg base CX0 1 T.f_all_pairs T.d_all_pairs ["places"] spPairs := T.q_pairs
  have GM : FnOk P w K mg base (L2.CX P w) 7 T.f_Web___init__ T.d_Web___init__ ["self", "places", "ties"] (spInitD T.C_Web T.C_InvalidWeb) := (T.q_initD (gg := false)).ok
  refine fnV T.F_full_web scFull (fun vs H Q E h => ?_) (fun cdv Ar fr s H vs Q E hG hr h => ?_)
  · obtain ⟨t, ns, rfl, _⟩ := h
    rfl
  · obtain ⟨t, ns, rfl, tu, nm, asc, ge, few, q⟩ := h
    have tk : Takes (cxOf (L2.CX P w) P w K mg base ["places"] "full_web" (defScope (top 24)) T.f_full_web cdv Ar fr s H E) (fun cls d _ H => E cls d H) := takes_of rfl rfl rfl rfl
    refine ⟨_, pss_cons (ps_if (pt_not (pt_val (pe_callV (E := fun _ _ _ _ => False) hG GP (hr.mono (by decide)) (by rfl) T.m__are_places T.F__are_places.kp T.b__are_places .nil (fun _ => passAt0) (pa_cons (pv 0) pa_nil)))) (pss_one ps_never) pss_nil)
      (pss_one (ps_ret (pe_make (E := E) T.mk_Web GM hr (by rfl) T.g_Web T.b_Web___init__ .nil (passes_call tk fun _ _ _ _ h => h) (pa_cons (pv 0) (pa_cons (pe_callTy cr_tupF (by rfl) T.n_tuple (by decide +kernel)
        (pa_cons (pe_callV (E := fun _ _ _ _ => False) hG GA (hr.mono (by decide)) (by rfl) T.m_all_pairs T.F_all_pairs.kp T.b_all_pairs .nil (fun _ => passAt0) (pa_cons (pv 0) pa_nil)) pa_nil)) pa_nil))))), ?_⟩
    have sm : ∀ x ∈ ns, x.length ≤ 1000 := fun x m => name_short (nm x m)
    refine ⟨_, rfl, t, ns, rfl, tu.rd, sm, by omega, fun H1 s1 => ⟨_, rfl, ?_⟩⟩
    rw [places_ok nm asc ge (by omega)]
    refine ⟨_, rfl, _, rfl, t, ns, rfl, (tu.same s1).rd, sm, by omega, fun H2 L ks s2 nL hL mp each ne => ⟨L, _, rfl, .inl ⟨SqL.of hL, fun a o na oa => ?_⟩⟩⟩
    have s3 := same_upd (o := .frz o (.tup (ks.map fun k => V.ref k.1))) na
    have S3 := same_trans (same_trans s1 s2) s3
    have fw := pairs_few few
    refine made_by S3 (tu.same S3) (.inr ⟨o, upd_same⟩) (each.same s3) ?_ fun H' y s' ny W _ => q H' y a ks mp s' ny W
    rw [mp]
    exact pairs_web nm asc ge few (pairs_asc asc) (fun k m => m) (by omega)
abbrev nIV : List Str := ["self", "ties", "pair"]
theorem scInv : FnScope nIV ["self"] (defScope (methOf 23 20)) := ⟨rfl, rfl, rfl, by decide +kernel, rfl, by decide +kernel, by decide +kernel⟩
theorem TX.q_inv (T : TX K mg) : FnV gg P w K mg base (L2.CX P w) 9 T.f_Web___invert__ T.d_Web___invert__ ["self"] (spInv T.C_Web) := by
  have GA : FnV gg P w K mg base CX0 1 T.f_all_pairs T.d_all_pairs ["places"] spPairs := T.q_pairs
  have GM : FnOk P w K mg base (L2.CX P w) 7 T.f_Web___init__ T.d_Web___init__ ["self", "places", "ties"] (spInitD T.C_Web T.C_InvalidWeb) := (T.q_initD (gg := false)).ok
  obtain ⟨tt, mT⟩ := T.v_MAX_TIES
  refine fnV T.F_Web___invert__ scInv (fun vs H Q E h => ?_) (fun cdv Ar fr s H vs Q E hG hr h => ?_)
  · obtain ⟨x, t, a, ns, ks, rfl, _⟩ := h
    rfl
  · obtain ⟨x, t, a, ns, ks, rfl, W, few, q⟩ := h
    have hu := hr.units
    have tk : Takes (cxOf (L2.CX P w) P w K mg base nIV "Web.__invert__" (defScope (methOf 23 20)) T.f_Web___invert__ cdv Ar fr s H E) (fun cls d _ H => E cls d H) := takes_of rfl rfl rfl rfl
    refine ⟨_, pss_cons (ps_setLc (i := 1) (own := [("pair", 2)]) (g := gName 2) (by rfl) scInv.nd rfl rfl (sw_true rfl rfl rfl (by decide +kernel)) (pi_listK (K := K) rfl (pe_callV (E := fun _ _ _ _ => False) hG GA (hr.mono (by decide)) (by rfl) T.m_all_pairs T.F_all_pairs.kp T.b_all_pairs .nil (fun _ => passAt0) (pa_cons (pe_fld (pv 0) rfl) pa_nil)))
            (blkOk_by (N := nIV) (sc := defScope (methOf 23 20)) (own := [("pair", 2)]) (by decide +kernel)) (fun _ _ _ _ _ => pg_name (i := 2) scInv.nd rfl (Or.inl rfl))
            (fun _ _ _ _ _ => pts_one (pt_cmpR (op_notInXk (K := K) rfl (by exact hu)) (pv 2) (pe_fldK (K := K) rfl (pv 0) rfl) (by rfl))) (fun _ _ _ _ _ => pv 2))
      (pss_cons (ps_if (pt_cmpR op_gt (pe_callB call_len_seq (by rfl) T.n_len PySem.boot_len (pa_cons (pv 1) pa_nil)) (pe_glob (v := .int 40) (by rfl) mT ⟨tt, rfl⟩) (nomark _)) (pss_one ps_never) pss_nil)
      (pss_one (ps_ret (pe_make (E := E) T.mk_Web GM hr (by rfl) T.g_Web T.b_Web___init__ .nil (passes_call tk fun _ _ _ _ h => h) (pa_cons (pe_fld (pv 0) rfl) (pa_cons (pe_callTy cr_tupF (by rfl) T.n_tuple (by decide +kernel) (pa_cons (pv 1) pa_nil)) pa_nil)))))), ?_⟩
    obtain ⟨dx, D, e1, e2, e3⟩ := W.ins
    obtain ⟨nm, ge, _, asc, _, _, _⟩ := webB_iff.mp W.ok
    refine ⟨_, rfl, x, T.C_Web, dx, _, _, rfl, e1, T.cl_Web, T.na_Web__places, rfl, t, ns, rfl, W.tup.rd, W.sm, by omega, fun H2 L zs s2 nL hL mp each ne => ⟨L, rfl, ⟨_, SqL.of hL⟩, fun D2 nD2 => ?_⟩⟩
    have fw := pairs_few few
    have lz : (zs.map (·.2)).length ≤ 36 := by rw [mp]; exact fw
    refine lc_listR (K := K) repT repT (as := zs.map (·.2)) (SqL.of hL) (reps_tups each ne) (fun k => if (!decide (k ∈ ks.map (·.2))) = true then some k else none) nD2 (by omega) ?_ ?_
    · rintro i v u Hc C N eu sc ⟨b, rfl, hb, hs, hl, hn⟩ yes no
      have W2 := W.same (same_trans s2 sc)
      have e1c := sc _ _ (s2 _ _ e1)
      refine ⟨rfl, _, rfl, _, rfl, x, T.C_Web, dx, _, _, rfl, e1c, T.cl_Web, T.na_Web__ties, rfl, b, a, u, ks, rfl, rfl, hb, .inl W2.row.at_, fun k m => (W2.row.each k m).1, _, rfl, ?_⟩
      dsimp only
      by_cases c : u ∈ ks.map (·.2)
      · rw [if_neg (by simp [c])]
        exact no (by simp [c]) Hc keeps_refl
      · rw [if_pos (by simp [c])]
        exact ⟨_, rfl, yes _ _ u (by simp [c]) keeps_refl ⟨b, rfl, hb, hs, hl, hn⟩⟩
    · intro H3 ys s3 h3 rs
      obtain ⟨ls, ev, em, each3, ne3⟩ := reps_tups_of rs
      have em' : ls.map (·.2) = otherT ns (ks.map (·.2)) := by
        rw [em, mp]
        exact fm_guard (fun k => !decide (k ∈ ks.map (·.2))) _
      have few3 : ls.length ≤ 36 := by
        have z := List.length_filter_le (fun k => !decide (k ∈ ks.map (·.2))) (pairsT ns)
        have y := congrArg List.length em'
        unfold otherT at y
        rw [List.length_map] at y
        omega
      have ly : ys.length = ls.length := by rw [ev, List.length_map]
      refine ⟨_, rfl, D2, _, rfl, .inl (SqL.of h3), _, _, rfl, rfl, _, rfl, ?_⟩
      dsimp only
      rw [if_neg (by rw [decide_eq_true_eq, ly]; omega)]
      have S3 := same_trans s2 s3
      refine ⟨_, rfl, x, T.C_Web, dx, _, _, rfl, S3 _ _ e1, T.cl_Web, T.na_Web__places, rfl, _, rfl, D2, ys, rfl, .inl ⟨SqL.of h3, fun a' o na oa => ?_⟩⟩
      have s4 := same_upd (o := .frz o (.tup ys)) na
      have S4 := same_trans S3 s4
      refine made_by (ks := ls) S4 (W.tup.same S4) (by rw [← ev]; exact .inr ⟨o, upd_same⟩) (Each.same each3 s4) ?_ fun H' y s' ny W' _ => q H' y a' ls em' s' ny W'
      rw [em']
      exact other_web W.ok few
end
end Lx

/-! Webs: of_ties. -/
namespace Lx
open PySem PySem.Spec PyProof.Rows L2 Fw
theorem cutTo (xs : List V) (j : Nat) : cutV xs none (some ((j : Nat) : Int)) = xs.take j := by
  unfold cutV
  rw [HT.sIx_nat, HT.sIx_none]
  by_cases c : j ≤ xs.length
  · rw [Nat.min_eq_left c]
    simp
  · rw [Nat.min_eq_right (by omega)]
    simp [List.take_of_length_le (Nat.le_of_lt (Nat.lt_of_not_le c))]
theorem tieV_names {k : List Str} (h : tieV (k.map V.str) = true) : ∀ x ∈ k, nameS x = true := by
  obtain ⟨x, y, e, _⟩ := tie_two (ns := []) h
  subst e
  have h' : (nameS x && nameS y && ltS x y) = true := h
  simp only [Bool.and_eq_true] at h'
  intro z m
  simp only [List.mem_cons, List.not_mem_nil, or_false] at m
  rcases m with rfl | rfl
  · exact h'.1.1
  · exact h'.1.2
def spOf (C : Addr) : Sp := fun vs H Q _ => ∃ (p : Addr) (ks : List (Addr × List Str)), vs = [.ref C, .ref p] ∧ H p = some (.tup (ks.map fun k => V.ref k.1)) ∧ Each H ks ∧ (∀ k ∈ ks, tieV (k.2.map V.str) = true) ∧ (ks.map (·.2)).Nodup ∧ 1 ≤ ks.length ∧ ks.length ≤ 6 ∧
  ∀ H' y t a ns' ks', AscN ns' → (∀ z, z ∈ ns' ↔ ∃ k ∈ ks, z ∈ k.2) → AscT (ks'.map (·.2)) → (∀ z, z ∈ ks'.map (·.2) ↔ z ∈ ks.map (·.2)) → Same H H' → H y = none → WebAt C H' y t a ns' ks' → Q (.ref y) H'
abbrev nOF : List Str := ["cls", "ties", "index", "tie", "places", "place"]
section
variable {P : Program} {w : World} {K : PySem.W.Frag} {mg : Str → Option Value} {base : Heap} {gg : Bool}
theorem scOf : FnScope nOF ["cls", "ties"] (defScope (methOf 23 2)) := ⟨rfl, rfl, rfl, by decide +kernel, rfl, by decide +kernel, by decide +kernel⟩
theorem TX.q_of (T : TX K mg) : FnR P w K mg base (L2.CX P w) 9 T.f_Web_of_ties (fun vs H Q E => ∃ ws rest, vs = ws ++ rest ∧ ws.length = ["cls"].length ∧ rest.length ≤ sizeLine ∧ ∀ p, H p = none → spOf T.C_Web (ws ++ [V.ref p]) (upd H p (.tup rest)) Q E) := by
  have GT : FnV false P w K mg base CX0 4 T.f_is_tie T.d_is_tie ["value"] spIsTie := T.q_istie
  have GM : FnOk P w K mg base (L2.CX P w) 7 T.f_Web___init__ T.d_Web___init__ ["self", "places", "ties"] (spInitD T.C_Web T.C_InvalidWeb) := (T.q_initD (gg := false)).ok
  have F := T.F_Web_of_ties
  obtain ⟨oc, od, kV, doc, pm, an, cdv, ct, osl, efd, lk, hcd⟩ := F.ex
  rw [efd] at lk
  refine StX.fn_star (N := nOF) (ps := ["cls"]) (pv := "ties") lk hcd scOf StX.cxUp (fun us rest hl => ?_) (fun A outer s H vs Q E hr h => ?_)
  · exact StX.bind_star1 (B := fun vs => bindArgs _ ⟨vs, []⟩) (fun a => by rfl) (fun a r rs => by rfl) us rest hl
  · obtain ⟨p, ks, rfl, hp, each, ties, nd, ge, few, q⟩ := h
    have hu := hr.units
    have tk : Takes (cxOf (L2.CX P w) P w K mg base nOF "Web.of_ties" (defScope (methOf 23 2)) T.f_Web_of_ties cdv A outer s H E) (fun cls d _ H => E cls d H) := takes_of rfl rfl rfl rfl
    refine ⟨_, pss_cons (ps_for (g := gTup K 2 (gCons (gName 2) (gCons (gName 3) gNil))) (passes_of rfl) rfl (pi_enumT (by rfl) T.n_enumerate (pa_cons (pv 1) pa_nil)) (pg_tup rfl (pgs_cons (pg_name (i := 2) scOf.nd rfl (Or.inl rfl)) (pgs_cons (pg_name (i := 3) scOf.nd rfl (Or.inl rfl)) pgs_nil)))
        (pss_one (ps_if (PW.pt (pw_or (pt_not (pt_val (pe_callV (gg := false) (E := fun _ _ _ _ => False) (fun z => nomatch z) GT (hr.mono (by decide)) (by rfl) T.m_is_tie T.F_is_tie.kp T.b_is_tie .nil (fun _ => passAt0) (pa_cons (pv 3) pa_nil))))
          (pw_or1 (pt_cmpR (op_inXk (K := K) rfl (by exact hu)) (pv 3) (pe_slice (sl_tupAK (K := K) rfl) (pv 1) po_none (po_some (pv 2))) (by rfl))))) (pss_one ps_never) pss_nil)))
      (pss_cons (ps_set (i := 4) scOf.nd rfl (Or.inl rfl) (pe_callB (cr_sortedWk (w := w) rfl rfl) (by rfl) T.n_sorted (by decide +kernel) (pa_cons (pe_sc2 (own := [("tie", 3), ("place", 5)]) (vs1 := [5]) (g := gName 3) (g1 := gName 5) (by rfl) scOf.nd (pi_tup (pv 1))
          (blkOk_by (N := nOF) (sc := defScope (methOf 23 2)) (own := [("tie", 3), ("place", 5)]) (by decide +kernel)) (by decide)
          (fun _ _ _ _ _ => pg_name (i := 3) scOf.nd rfl (Or.inl rfl)) (fun _ _ _ _ _ => pts_nil) (fun _ _ _ _ _ => pi_tupK (K := K) rfl (pv 3)) (fun _ _ _ _ _ => pg_name (i := 5) scOf.nd rfl (Or.inl rfl)) (fun _ _ _ _ _ => pts_nil) (fun _ _ _ _ _ => pv 5)) pa_nil)))
      (pss_one (ps_ret (pe_makeL (i := 0) (E := E) T.mk_Web GM hr rfl (Or.inl rfl) T.b_Web___init__ .nil (passes_call tk fun _ _ _ _ h => h) (pa_cons (pe_callTy cr_tupF (by rfl) T.n_tuple (by decide +kernel) (pa_cons (pv 4) pa_nil))
        (pa_cons (pe_callTy cr_tupF (by rfl) T.n_tuple (by decide +kernel) (pa_cons (pe_callB (cr_sortedQk (K := K) rfl) (by rfl) T.n_sorted (by decide +kernel) (pa_cons (pv 1) pa_nil)) pa_nil)) pa_nil)))))), ?_⟩
    refine ⟨_, rfl, p, _, rfl, SqT.of hp, ?_⟩
    refine for_it (walk_enumT (K := K) (a := p) (xs := ks.map fun k => V.ref k.1)) (fun i σ Hc => ∃ u v, σ = [some (.ref T.C_Web), some (.ref p), u, v, none, none] ∧ Same H Hc) ⟨none, none, rfl, fun _ _ e => e⟩ (fun i σ Hc _ z => by obtain ⟨_, _, _, s⟩ := z; exact SqT.of (s _ _ hp)) ?_ ?_
    · rintro i y σ Hc Hc' lt ⟨u, v, rfl, sc⟩ ⟨Tt, x1, x2, rfl, nT, rfl, e1, e2⟩
      cases e1
      rw [List.length_map] at lt
      have e2' : (ks.map fun k => V.ref k.1)[i]? = some x2 := e2
      rw [List.getElem?_map, List.getElem?_eq_getElem lt] at e2'
      cases e2'
      have mk : ks[i] ∈ ks := List.getElem_mem lt
      have s1 := same_trans sc (same_upd (o := .tup [V.int (i : Nat), V.ref (ks[i]).1]) nT)
      have hT : (upd Hc Tt (.tup [V.int (i : Nat), V.ref (ks[i]).1])) Tt = some (.tup [V.int (i : Nat), V.ref (ks[i]).1]) := upd_same
      generalize upd Hc Tt (.tup [V.int (i : Nat), V.ref (ks[i]).1]) = H1 at s1 hT ⊢
      refine ⟨Tt, [V.int (i : Nat), V.ref (ks[i]).1], rfl, SqT.of hT, rfl, _, _, rfl, _, _, rfl, rfl, ?_⟩
      have Ek := Each.same each s1
      have tv := ties _ mk
      have vk : ∀ x ∈ (ks[i]).2.map V.str, Vok H1 x := fun x m => by
        obtain ⟨c, mc, rfl⟩ := List.mem_map.mp m
        exact ⟨⟨_, .str c⟩, fun y e => by cases e; exact (each _ mk).2.1 _ mc⟩
      refine ⟨_, rfl, (ks[i]).1, _, rfl, (Ek _ mk).1, vk, by rw [List.length_map]; exact (each _ mk).2.2, fun H2 s2 => ⟨_, rfl, ?_⟩⟩
      rw [tv]
      have S2 := same_trans s1 s2
      have E2 := Each.same each S2
      refine ⟨_, rfl, _, rfl, _, rfl, ((i : Nat) : Int), rfl, p, _, rfl, SqT.of (S2 _ _ hp), fun hw => ?_, fun hw b nb => ?_⟩
      · have z := hw.2
        rw [HT.sIx_nat, List.length_map] at z
        omega
      · have s3 := same_upd (o := .tup (cutV (ks.map fun k => V.ref k.1) none (some ((i : Nat) : Int)))) nb
        have hb : (upd H2 b (.tup (cutV (ks.map fun k => V.ref k.1) none (some ((i : Nat) : Int))))) b = some (.tup ((ks.take i).map fun k => V.ref k.1)) := by rw [upd_same, cutTo, List.map_take]
        generalize upd H2 b (.tup (cutV (ks.map fun k => V.ref k.1) none (some ((i : Nat) : Int)))) = H3 at s3 hb ⊢
        have E3 := Each.same E2 s3
        refine ⟨(ks[i]).1, b, (ks[i]).2, ks.take i, rfl, rfl, (E3 _ mk).1, SqT.of hb, fun k m => (E3 k (List.mem_of_mem_take m)).1, _, rfl, ?_⟩
        have off : (ks[i]).2 ∉ (ks.take i).map (·.2) := by
          rw [List.map_take]
          intro m
          obtain ⟨j, hj, ej⟩ := List.getElem_of_mem m
          rw [List.length_take, List.length_map] at hj
          rw [List.getElem_take] at ej
          refine (List.pairwise_iff_getElem.mp nd) j i (by rw [List.length_map]; omega) (by rw [List.length_map]; exact lt) (by omega) ?_
          rw [ej, List.getElem_map]
        rw [decide_eq_false off]
        exact ⟨_, _, rfl, same_trans S2 s3⟩
    · rintro σ Hc ⟨u, v, rfl, sc⟩
      have hpc := sc _ _ hp
      refine ⟨_, rfl, p, rfl, ⟨_, SqT.of hpc⟩, fun D nD => ?_⟩
      refine walk_by (walk_tup (K := K) (a := p) (xs := ks.map fun k => V.ref k.1)) (fun i Hd => ∃ l : List Str, Hd D = some (SetWO w D l) ∧ Same Hc Hd ∧ l.length ≤ 2 * i ∧ l.Nodup ∧ ∀ z, z ∈ l ↔ ∃ k ∈ ks.take i, z ∈ k.2)
        ⟨[], upd_same, same_upd nD, by simp, List.nodup_nil, by simp⟩ (fun i Hd _ z => by obtain ⟨_, _, s, _⟩ := z; exact SqT.of (s _ _ hpc)) ?_ ?_
      · rintro i y Hd Hd' lt ⟨l, hl, sd, len, ndl, mem⟩ ⟨rfl, ey⟩
        rw [List.length_map] at lt
        rw [List.getElem?_map, List.getElem?_eq_getElem lt] at ey
        cases ey
        have mk : ks[i] ∈ ks := List.getElem_mem lt
        have tk1 : ks.take (i + 1) = ks.take i ++ [ks[i]] := by
          rw [List.take_add_one, List.getElem?_eq_getElem lt]
          rfl
        have two : (ks[i]).2.length = 2 := by
          obtain ⟨x, y, e, _⟩ := tie_two (ns := []) (ties _ mk)
          rw [e]
          rfl
        have Ed := Each.same (Each.same each sc) sd
        refine ⟨rfl, _, rfl, (ks[i]).1, rfl, ⟨_, .inl (Ed _ mk).1⟩, ?_⟩
        refine walk_by (walk_tup (K := K) (a := (ks[i]).1) (xs := (ks[i]).2.map V.str)) (fun j He => ∃ l : List Str, He D = some (SetWO w D l) ∧ Same Hc He ∧ l.length ≤ 2 * i + j ∧ l.Nodup ∧ ∀ z, z ∈ l ↔ (∃ k ∈ ks.take i, z ∈ k.2) ∨ z ∈ (ks[i]).2.take j)
          ⟨l, hl, sd, by omega, ndl, by simpa using mem⟩ (fun j He _ z => by obtain ⟨_, _, s, _⟩ := z; exact .inl (Each.same (Each.same each sc) s _ mk).1) ?_ ?_
        · rintro j x He He' lj ⟨l2, hl2, se, len2, nd2, mem2⟩ ⟨rfl, ex⟩
          rw [List.length_map] at lj
          rw [List.getElem?_map, List.getElem?_eq_getElem lj] at ex
          cases ex
          refine ⟨rfl, _, rfl, l2, _, rfl, hl2, by show l2.length + 1 < 4096; omega, _, upd_same, fun b o e => ?_, ?_, addT_nodup nd2 _, fun z => ?_⟩
          · rw [upd_ne (ne_of_none e nD)]
            exact se _ _ e
          · have := addT_len l2 ((ks[i]).2[j])
            omega
          · rw [addT_mem, mem2, List.take_add_one, List.getElem?_eq_getElem lj, or_assoc, List.mem_append]
            simp only [Option.toList_some, List.mem_singleton]
        · rintro He ⟨l2, hl2, se, len2, nd2, mem2⟩
          rw [List.length_map] at len2 mem2
          refine ⟨l2, hl2, se, by omega, nd2, fun z => ?_⟩
          rw [mem2, List.take_length, tk1]
          constructor
          · rintro (⟨k, m, h⟩ | h)
            · exact ⟨k, List.mem_append_left _ m, h⟩
            · exact ⟨ks[i], List.mem_append_right _ (by simp), h⟩
          · rintro ⟨k, m, h⟩
            rcases List.mem_append.mp m with m | m
            · exact .inl ⟨k, m, h⟩
            · rw [List.mem_singleton.mp m] at h
              exact .inr h
      · rintro Hd ⟨l, hl, sd, len, ndl, mem⟩
        rw [List.length_map] at len mem
        rw [List.take_length] at mem
        have S1 := same_trans sc sd
        refine ⟨D, l, rfl, hl, by omega, fun ys q2 py so nq2 => ?_⟩
        have s2 := same_trans S1 (same_upd (o := .lst (ys.map V.str)) nq2)
        have h2 : (upd Hd q2 (.lst (ys.map V.str))) q2 = some (.lst (ys.map V.str)) := upd_same
        generalize upd Hd q2 (.lst (ys.map V.str)) = H2 at s2 h2 ⊢
        refine ⟨rfl, _, rfl, q2, _, rfl, .inl ⟨SqL.of h2, fun t o nt ot => ?_⟩⟩
        have s3 := same_trans s2 (same_upd (o := .frz o (.tup (ys.map V.str))) nt)
        have kt : TupK (upd H2 t (.frz o (.tup (ys.map V.str)))) t (ys.map V.str) := TupK.new ot
        generalize upd H2 t (.frz o (.tup (ys.map V.str))) = H3 at s3 kt ⊢
        have E3 := Each.same each s3
        have two : ∀ k ∈ ks, k.2 ≠ [] := fun k m e => by
          obtain ⟨x, y, e', _⟩ := tie_two (ns := []) (ties _ m)
          rw [e] at e'
          cases e'
        refine ⟨_, rfl, p, ks, rfl, .inr (SqT.of (s3 _ _ hp)), by omega, fun k m => ⟨(E3 k m).1, two k m⟩, fun zs q4 pz az n4 => ?_⟩
        have s4 := same_trans s3 (same_upd (o := .lst (zs.map fun k => V.ref k.1)) n4)
        have h4 : (upd H3 q4 (.lst (zs.map fun k => V.ref k.1))) q4 = some (.lst (zs.map fun k => V.ref k.1)) := upd_same
        have kt4 := kt.same (same_upd (o := .lst (zs.map fun k => V.ref k.1)) n4)
        generalize upd H3 q4 (.lst (zs.map fun k => V.ref k.1)) = H4 at s4 h4 kt4 ⊢
        refine ⟨q4, _, rfl, .inl ⟨SqL.of h4, fun a o2 na oa => ?_⟩⟩
        have s5 := same_upd (o := .frz o2 (.tup (zs.map fun k => V.ref k.1))) na
        have S5 := same_trans s4 s5
        have E5 := Each.same each S5
        have mz : ∀ k ∈ zs, k ∈ ks := fun k m => pz.mem_iff.mp m
        have asc : AscN ys := ascN_of so (py.nodup_iff.mpr ndl)
        have memN : ∀ z, z ∈ ys ↔ ∃ k ∈ ks, z ∈ k.2 := fun z => py.mem_iff.trans (mem z)
        have ascT : AscT (zs.map (·.2)) := List.pairwise_map.mpr (strict_txt ((pz.map (·.2)).nodup_iff.mpr nd) az)
        have memT : ∀ z, z ∈ zs.map (·.2) ↔ z ∈ ks.map (·.2) := fun z => (pz.map (·.2)).mem_iff
        have ok : webB ys (zs.map (·.2)) = true := by
          refine webB_iff.mpr ⟨fun x m => ?_, ?_, ?_, asc, ?_, fun k m => ?_, ascT⟩
          · obtain ⟨k, mk, m⟩ := (memN x).mp m
            exact tieV_names (ties k mk) x m
          · obtain ⟨k, mk⟩ := List.exists_mem_of_length_pos (show 0 < ks.length by omega)
            obtain ⟨x, y, e, _⟩ := tie_two (ns := []) (ties k mk)
            exact List.length_pos_of_mem ((memN x).mpr ⟨k, mk, by rw [e]; simp⟩)
          · rw [py.length_eq]
            omega
          · rw [List.length_map, pz.length_eq]
            omega
          · obtain ⟨j, mj, rfl⟩ := List.mem_map.mp m
            have tj := ties j (mz j mj)
            obtain ⟨x, y, e, e2⟩ := tie_two (ns := ys) tj
            rw [e2, in_yes ((memN x).mpr ⟨j, mz j mj, by rw [e]; simp⟩), in_yes ((memN y).mpr ⟨j, mz j mj, by rw [e]; simp⟩)]
            rfl
        exact made_by S5 (kt4.same s5) (.inr ⟨o2, upd_same⟩) (fun k m => E5 k (mz k m)) ok fun H' y s' ny W _ => q H' y t a ys zs asc memN ascT memT s' ny W
end
end Lx

/-! The law: all pairs. -/
namespace Lx
open PySem PySem.Spec PyProof.Rows L2 Fw
theorem ix_listK {X : Cx} {K : PySem.W.Frag} (h : X.K = K) : IxR X (rIxL K) := h ▸ ix_list
theorem cr_listK {X : Cx} {K : PySem.W.Frag} {l : Expr} {tl : TE} {tg : Expr} (h : X.K = K) (r : PE X l tl) : PI X tg l (iList K tl) := h ▸ pi_list r
/-- tuples of texts: a list of them, known -/
def spLPairs (K : PySem.W.Frag) : Sp := fun vs H Q _ => ∃ (p : Addr) (ns : List Str), vs = [.ref p] ∧ SqL K H p (ns.map V.str) ∧ (∀ x ∈ ns, x.length ≤ 1000) ∧ AscN ns ∧ ns.length ≤ 30 ∧ NewT Q H (pairsT ns)
abbrev nLPR : List Str := ["_law_places", "_law_found", "_law_at", "_law_other"]
theorem pairT_lt {x y : Str} (h : x.cps.toList < y.cps.toList) : pairT x y = [x, y] := by
  unfold pairT
  rw [if_pos (ltS_iff.mpr h)]
section
variable {P : Program} {w : World} {K : PySem.W.Frag} {mg : Str → Option Value} {base : Heap} {gg : Bool}
theorem scLPairs : FnScope nLPR ["_law_places"] (defScope (top 45)) := ⟨rfl, rfl, rfl, by decide +kernel, rfl, by decide +kernel, by decide +kernel⟩
theorem TX.q_lpairs (T : TX K mg) : FnV gg P w K mg base CX0 2 T.f__law_pairs T.d__law_pairs ["_law_places"] (spLPairs K) := by
  have GT : FnV gg P w K mg base CX0 1 T.f__law_tie T.d__law_tie ["_law_a", "_law_b"] spPair := T.q_ltie
  refine fnV T.F__law_pairs scLPairs (fun vs H Q E h => ?_) (fun cdv Ar fr s H vs Q E hG hr h => ?_)
  · obtain ⟨p, ns, rfl, _⟩ := h
    rfl
  · obtain ⟨p, ns, rfl, hp, sm, asc, few, q⟩ := h
    refine ⟨_, pss_cons (ps_set (i := 1) scLPairs.nd rfl (Or.inl rfl) (pe_lst pa_nil))
      (pss_cons (ps_for (passes_of rfl) rfl (pi_range1 (by rfl) T.n_range (pa_cons (pe_callB call_len_seq (by rfl) T.n_len PySem.boot_len (pa_cons (pv 0) pa_nil)) pa_nil)) (pg_name (i := 2) scLPairs.nd rfl (Or.inr rfl))
        (pss_one (ps_expr (pe_bm PySem.F.plainAttrs_list PySem.F.slot_list_extend PySem.F.type_list_extend mt_extend (pv 1) (pa_cons
          (pe_lc (own := [("_law_other", 3)]) (g := gName 3) (by rfl) scLPairs.nd (pi_listK (K := K) rfl (pe_slice (sl_listK (K := K) rfl) (pv 0) (po_some (pe_op op_add (pv 2) pe_int)) po_none))
            (blkOk_by (N := nLPR) (sc := defScope (top 45)) (own := [("_law_other", 3)]) (by decide +kernel)) (fun _ _ _ _ _ => pg_name (i := 3) scLPairs.nd rfl (Or.inl rfl)) (fun _ _ _ _ _ => pts_nil)
            (fun _ _ _ _ _ => pe_callV (E := fun _ _ _ _ => False) hG GT hr (by rfl) T.m__law_tie T.F__law_tie.kp T.b__law_tie .nil (fun _ => passAt0) (pa_cons (pe_ix (ix_listK (K := K) rfl) (pv 0) (pv 2) (fun _ _ => rfl)) (pa_cons (pv 3) pa_nil)))) pa_nil)))))
      (pss_one (ps_ret (pe_callB (cr_sortedQk (K := K) rfl) (by rfl) T.n_sorted (by decide +kernel) (pa_cons (pv 1) pa_nil))))), ?_⟩
    refine ⟨by show 0 ≤ sizeLine; decide, fun L nL => ?_⟩
    have L0 := GrowR.new (r := repT) nL
    generalize upd H L (.lst []) = H1 at L0 ⊢
    have hp1 := sqL_same hp L0.2.1
    have ln : ((ns.map V.str).length : Int) = (ns.length : Int) := by rw [List.length_map]
    refine ⟨_, rfl, p, _, rfl, .inl hp1, _, rfl, ?_⟩
    rw [ln]
    refine ⟨by omega, by have : (2 : Int) ^ 62 > 30 := by decide
                         omega, ?_⟩
    refine for_range (lo := 0) (n := ((ns.length : Nat) : Int).toNat) (fun i σ Hc => (∃ u, σ = [some (.ref p), some (.ref L), u, none]) ∧ ∃ ts, GrowR repT H L ts Hc ∧ ts ++ pairsT (ns.drop i) = pairsT ns) ⟨⟨_, rfl⟩, [], L0, rfl⟩ ?_ ?_
    · rintro i σ Hc lt ⟨⟨u, rfl⟩, ts, gr, ets⟩
      have lt' : i < ns.length := by omega
      have hpc := sqL_same hp gr.2.1
      obtain ⟨acc, ea, la⟩ : ∃ acc, Hc L = some (.lst acc) ∧ acc.length = ts.length := by
        obtain ⟨_, _, ys, e, m⟩ := gr
        exact ⟨ys, e, m.length⟩
      have ei : ((0 + (i : Nat) : Int) + 1) = ((i + 1 : Nat) : Int) := by omega
      rw [pairsT_drop (List.getElem?_eq_getElem lt')] at ets
      refine ⟨_, rfl, .inl ⟨rfl, _, SqL.of ea⟩, _, rfl, _, rfl, _, _, rfl, rfl, ((i + 1 : Nat) : Int), by rw [← ei], p, _, rfl, hpc, fun c nc => ?_⟩
      have s1 := same_upd (o := .lst (cutV (ns.map V.str) (some ((i + 1 : Nat) : Int)) none)) nc
      have hc : (upd Hc c (.lst (cutV (ns.map V.str) (some ((i + 1 : Nat) : Int)) none))) c = some (.lst ((ns.drop (i + 1)).map V.str)) := by rw [upd_same, cutFrom, List.map_drop]
      generalize upd Hc c (.lst (cutV (ns.map V.str) (some ((i + 1 : Nat) : Int)) none)) = H2 at s1 hc ⊢
      refine ⟨c, rfl, ⟨_, SqL.of hc⟩, fun D nD => ?_⟩
      have hp2 := sqL_same hpc s1
      refine lc_listR (K := K) repS repT (as := ns.drop (i + 1)) (SqL.of hc) (reps_strs _) (fun b => some [ns[i], b]) nD (by rw [List.length_drop]; omega) ?_ ?_
      · rintro j v b Hd C N eb sd rfl yes no
        have mb : b ∈ ns := List.mem_of_mem_drop (List.mem_of_getElem? eb)
        have lb : (ns[i]).cps.toList < b.cps.toList := by
          obtain ⟨lj, ej⟩ := List.getElem?_eq_some_iff.mp eb
          rw [List.getElem_drop] at ej
          have z := (List.pairwise_iff_getElem.mp asc) i (i + 1 + j) lt' (by rw [List.length_drop] at lj; omega) (by omega)
          rw [ej] at z
          exact z
        refine ⟨rfl, _, rfl, _, rfl, p, _, _, .str (ns[i]), rfl, rfl, sqL_same hp2 sd, ?_, _, rfl, ns[i], b, rfl, fun q1 n1 => ?_⟩
        · have z := atI_nat (xs := ns.map V.str) (j := i) (v := V.str (ns[i])) (by rw [List.getElem?_map, List.getElem?_eq_getElem lt']; rfl)
          rw [show ((0 : Int) + (i : Nat)) = ((i : Nat) : Int) by omega]
          exact z
        · rw [pairT_lt lb]
          refine yes _ _ [ns[i], b] rfl (upd_keeps n1) ⟨q1, rfl, .inl upd_same, fun x m => ?_, by simp, by simp⟩
          rcases (show x = ns[i] ∨ x = b by simpa using m) with z | z
          · rw [z]; exact sm _ (List.getElem_mem lt')
          · rw [z]; exact sm b mb
      · intro H3 ys s3 h3 rs
        have gr3 := (gr.same s1).same s3
        have tl := congrArg List.length ets
        rw [List.length_append, List.length_append, List.length_map] at tl
        have pl := pairsT_len ns
        have pl2 : ns.length * ns.length ≤ 30 * 30 := Nat.mul_le_mul few few
        obtain ⟨acc, ea, la', gr'⟩ := gr3.more rs (by rw [List.filterMap_eq_map']; simp only [List.length_map]; omega)
        refine ⟨L, D, acc, ys, rfl, rfl, ea, h3, la', ⟨_, rfl⟩, ts ++ (ns.drop (i + 1)).map (fun b => [ns[i], b]), ?_, ?_⟩
        · have z : (ns.drop (i + 1)).filterMap (fun b => some [ns[i], b]) = (ns.drop (i + 1)).map (fun b => [ns[i], b]) := by
            rw [← List.filterMap_eq_map]
            rfl
          rw [z] at gr'
          exact gr'
        · rw [List.append_assoc]
          exact ets
    · rintro σ Hc ⟨⟨u, rfl⟩, ts, gr, ets⟩
      rw [show (((ns.length : Nat) : Int).toNat) = ns.length by omega, List.drop_length] at ets
      have ets' : ts = pairsT ns := by rw [← ets]; simp [pairsT]
      obtain ⟨n0, s0, ys, e, m⟩ := gr
      obtain ⟨zs, ev, em, each, ne⟩ := reps_tups_of m
      have lz : zs.length ≤ 1000 := by
        have z := pairsT_len ns
        have y : ns.length * ns.length ≤ 30 * 30 := Nat.mul_le_mul few few
        have x := congrArg List.length (em.trans ets')
        rw [List.length_map] at x
        omega
      refine ⟨_, rfl, L, zs, rfl, .inl (SqL.of (by rw [← ev]; exact e)), lz, fun k m => ⟨(each k m).1, ne k m⟩, fun ws q4 pz az n4 => ?_⟩
      have s4 := same_upd (o := .lst (ws.map fun k => V.ref k.1)) n4
      have mw : ∀ k ∈ ws, k ∈ zs := fun k m => pz.mem_iff.mp m
      have asc2 : AscT (zs.map (·.2)) := by rw [em, ets']; exact pairs_asc asc
      have nd : (zs.map (·.2)).Nodup := asc2.imp fun {a b} z e => by
        rw [e, ltT_irrefl] at z
        cases z
      have ascW : AscT (ws.map (·.2)) := List.pairwise_map.mpr (strict_txt ((pz.map (·.2)).nodup_iff.mpr nd) az)
      have ew : ws.map (·.2) = pairsT ns := by
        rw [← ets', ← em]
        exact AscT.same ascW asc2 fun z => (pz.map (·.2)).mem_iff
      exact q _ q4 ws (same_trans s0 s4) (none_same s0 n4) upd_same ew (fun k m => Each.same each s4 k (mw k m)) fun k m => ne k (mw k m)
end
end Lx

/-! The law: drawn images. -/
namespace Lx
open PySem PySem.Spec PyProof.Rows L2 Fw
def imgK (ps : List (Str × Str)) : List (L2.Key × V) := ps.map fun p => (Sum.inr p.1, .str p.2)
theorem valV_off {kvs : List (L2.Key × V)} {k : L2.Key} (h : k ∉ kvs.map (·.1)) : valV kvs k = none := by
  unfold valV
  rw [Option.map_eq_none_iff, List.find?_eq_none]
  intro x m z
  exact h (of_decide_eq_true z ▸ List.mem_map_of_mem m)
theorem img_off {ps : List (Str × Str)} {n : Str} (h : n ∉ ps.map (·.1)) : valV (imgK ps) (Sum.inr n) = none := by
  refine valV_off fun m => h ?_
  unfold imgK at m
  rw [List.map_map] at m
  obtain ⟨x, mx, e⟩ := List.mem_map.mp m
  cases e
  exact List.mem_map_of_mem mx
theorem zip_snd {α β : Type} : ∀ (ns : List α) (zs : List β), ns.length ≤ zs.length → (ns.zip zs).map (·.2) = zs.take ns.length
  | [], _, _ => by simp
  | _ :: _, [], h => absurd h (by simp)
  | a :: ns, z :: zs, h => by
    rw [List.zip_cons_cons, List.map_cons, zip_snd ns zs (by simpa using h), List.length_cons, List.take_succ_cons]
def spImages (K : PySem.W.Frag) : Sp := fun vs H Q _ => ∃ (p b : Addr) (ns : List Str), vs = [.ref p, .ref b] ∧ DiceAt H p ∧ SqL K H b (ns.map V.str) ∧ b ≠ p ∧ ns.length ≤ 14 ∧ ns.Nodup ∧
  ∀ H' d ps, But p H H' → DiceAt H' p → H d = none → H' d = some (.dK (imgK ps)) → ps.map (·.1) = ns → (ps.map (·.2)).Nodup → (∀ x ∈ ps, x.2 ∈ poolN) → Q (.ref d) H'
abbrev nLI : List Str := ["_law_dice_here", "_law_places", "_law_pool", "_law_found", "_law_place"]
theorem dice_ne {H : Hp} {p q : Addr} (d : DiceAt H p) (n : H q = none) : q ≠ p := fun z => by
  obtain ⟨_, _, _, e⟩ := d
  rw [← z, n] at e
  cases e
theorem DiceAt.upd {H : Hp} {p q : Addr} {o : HO} (d : DiceAt H p) (n : q ≠ p) : DiceAt (upd H q o) p := by
  obtain ⟨a1, a2, a3, e⟩ := d
  exact ⟨a1, a2, a3, by rw [upd_ne n.symm]; exact e⟩
section
variable {P : Program} {w : World} {K : PySem.W.Frag} {mg : Str → Option Value} {base : Heap}
theorem scImages : FnScope nLI ["_law_dice_here", "_law_places"] (defScope (top 48)) := ⟨rfl, rfl, rfl, by decide +kernel, rfl, by decide +kernel, by decide +kernel⟩
theorem TX.q_images (T : TX K mg) : FnG P w K mg base CX0 3 T.f__law_images T.d__law_images ["_law_dice_here", "_law_places"] (spImages K) := by
  have GM : FnG P w K mg base CX0 2 T.f__law_mixed T.d__law_mixed ["_law_dice_here", "_law_items"] (spMixed K) := T.q_mixed
  have GN : FnG P w K mg base CX0 1 T.f__law_names T.d__law_names [] spNamesL := T.q_names
  refine fnG T.F__law_images scImages (fun vs H Q E h => ?_) (fun cdv A fr s H vs Q E hG hr h => ?_)
  · obtain ⟨p, b, ns, rfl, _⟩ := h
    rfl
  · obtain ⟨p, b, ns, rfl, hd, hb, nbp, few, nd, q⟩ := h
    have hu := hr.units
    have hu1 := Nat.lt_of_le_of_lt (Nat.add_le_add_left (show 1 ≤ 64 by decide) _) hu
    refine ⟨_, pss_cons (ps_par (i := 2) (j := 3) (by rfl) scImages.nd rfl rfl (by decide) rfl rfl (pa_cons (pe_callG (E := fun _ _ _ _ => False) hG GM hr (by rfl) T.m__law_mixed T.F__law_mixed.kp T.b__law_mixed .nil (fun _ => passAt0)
          (pa_cons (pv 0) (pa_cons (pe_callG0 (E := fun _ _ _ _ => False) hG GN (hr.mono (by decide)) (by rfl) T.m__law_names T.F__law_names.kp T.b__law_names .nil (fun _ => passAt0)) pa_nil))) (pa_cons pe_dnewK pa_nil)) (by rfl))
      (pss_cons (ps_for (passes_of rfl) rfl (pi_list (pv 1)) (pg_name (i := 4) scImages.nd rfl (Or.inl rfl))
        (pss_one (ps_dput (by exact hu1) (pv 3) (pv 4) (pe_bm0 PySem.F.plainAttrs_list PySem.F.slot_list_pop PySem.F.type_list_pop mt_pop (pv 2)) rfl)))
      (pss_one (ps_ret (pv 3)))), ?_⟩
    refine ⟨_, rfl, rfl, fun l nl => ?_⟩
    have s1 := same_upd (o := .lst (poolN.map V.str)) nl
    have hl : (upd H l (.lst (poolN.map V.str))) l = some (.lst (poolN.map V.str)) := upd_same
    generalize upd H l (.lst (poolN.map V.str)) = H1 at s1 hl ⊢
    have nlp := dice_ne hd nl
    refine ⟨p, l, _, rfl, hd.same s1, SqL.of hl, by rw [List.length_map]; decide, fun ys g H2 py b2 d2 ng hg => ?_⟩
    obtain ⟨mx, pm, em⟩ := perm_lift V.str py poolN rfl
    have ngH : H g = none := none_same s1 ng
    have ngp := dice_ne hd ngH
    have B2 := (But.same s1).trans b2
    intro d nD
    have s3 := same_upd (o := .dK []) nD
    have d3 := d2.same s3
    have hg3 := s3 _ _ hg
    have hd3 : (upd H2 d (.dK [])) d = some (.dK []) := upd_same
    have ndp := dice_ne d2 nD
    have ndH : H d = none := by
      cases e : H d with
      | none => rfl
      | some o =>
        rw [B2 _ _ ndp e] at nD
        cases nD
    have B3 := B2.trans (But.same s3)
    have nge : g ≠ d := fun z => by
      rw [z, nD] at hg
      cases hg
    generalize upd H2 d (.dK []) = H3 at d3 hg3 hd3 B3 ⊢
    refine ⟨_, _, rfl, ?_⟩
    generalize ez : mx.reverse = zs
    have lz : zs.length = 14 := by rw [← ez, List.length_reverse, pm.length_eq]; rfl
    have mz : ∀ z ∈ zs, z ∈ poolN := fun z m => by
      rw [← ez, List.mem_reverse] at m
      exact pm.mem_iff.mp m
    have nz : zs.Nodup := by
      rw [← ez]
      exact (List.reverse_perm mx).nodup_iff.mpr (pm.nodup_iff.mpr (by decide))
    refine ⟨_, rfl, b, rfl, ⟨_, B3.seqL nbp hb⟩, ?_⟩
    refine for_list (K := K) (a := b) (xs := ns.map V.str) (fun i σ Hc => ∃ v4, σ = [some (.ref p), some (.ref b), some (.ref g), some (.ref d), v4] ∧ But p H Hc ∧ DiceAt Hc p ∧ Hc g = some (.lst ((zs.drop i).reverse.map V.str)) ∧ Hc d = some (.dK (imgK ((ns.zip zs).take i))))
      ⟨none, rfl, B3, d3, by rw [List.drop_zero, ← ez, List.reverse_reverse, em]; exact hg3, hd3⟩ (fun i σ Hc _ z => by obtain ⟨_, _, bc, _⟩ := z; exact bc.seqL nbp hb) ?_ ?_
    · rintro i y σ Hc hy ⟨v4, rfl, bc, dc, hgc, hdc⟩
      rw [List.getElem?_map] at hy
      cases en : ns[i]? with
      | none => rw [en] at hy; cases hy
      | some n =>
        rw [en] at hy
        obtain rfl : V.str n = y := Option.some.inj hy
        obtain ⟨li, ei⟩ := List.getElem?_eq_some_iff.mp en
        have lt : i < zs.length := by omega
        have rv : (zs.drop i).reverse = (zs.drop (i + 1)).reverse ++ [zs[i]] := by
          rw [List.drop_eq_getElem_cons lt, List.reverse_cons]
        have zt : (ns.zip zs).take (i + 1) = (ns.zip zs).take i ++ [(n, zs[i])] := by
          rw [List.take_add_one, List.getElem?_eq_getElem (by rw [List.length_zip]; omega), List.getElem_zip, ei]
          rfl
        refine ⟨_, rfl, .inl ⟨rfl, _, SqL.of hgc⟩, g, _, .str (zs[i]), rfl, rfl, hgc, ?_, ?_⟩
        · rw [rv, List.map_append, List.length_append]
          simp
        · rw [rv, List.map_append, show [zs[i]].map V.str = [V.str (zs[i])] from rfl, List.dropLast_concat]
          have hd4 : (upd Hc g (.lst ((zs.drop (i + 1)).reverse.map V.str))) d = some (.dK (imgK ((ns.zip zs).take i))) := by rw [upd_ne nge.symm]; exact hdc
          refine ⟨_, rfl, _, rfl, d, _, rfl, DPut.k (k := Sum.inr n) hd4 ?_, ?_⟩
          · unfold imgK
            rw [List.length_map, sizeLine_eq]
            have z := List.length_take_le' i (ns.zip zs)
            rw [List.length_zip] at z
            omega
          · have off : n ∉ ((ns.zip zs).take i).map (·.1) := by
              rw [List.map_take, List.map_fst_zip (by omega)]
              intro m
              obtain ⟨j, hj, ej⟩ := List.getElem_of_mem m
              rw [List.length_take] at hj
              rw [List.getElem_take] at ej
              exact (List.pairwise_iff_getElem.mp nd) j i (by omega) li (by omega) (ej.trans ei.symm)
            rw [putK_new _ (img_off off)]
            refine ⟨_, rfl, fun c o nc e => ?_, (dc.upd ngp).upd ndp, ?_, ?_⟩
            · rw [upd_ne (ne_of_none e ndH), upd_ne (ne_of_none e ngH)]
              exact bc _ _ nc e
            · rw [upd_ne nge, upd_same]
            · rw [upd_same, zt]
              unfold imgK
              rw [List.map_append]
              rfl
    · rintro σ Hc ⟨v4, rfl, bc, dc, hgc, hdc⟩
      rw [List.length_map] at hdc
      have tk : (ns.zip zs).take ns.length = ns.zip zs := List.take_of_length_le (by rw [List.length_zip]; omega)
      rw [tk] at hdc
      have e1 : (ns.zip zs).map (·.1) = ns := List.map_fst_zip (by omega)
      have e2 : (ns.zip zs).map (·.2) = zs.take ns.length := zip_snd ns zs (by omega)
      refine ⟨_, rfl, q Hc d _ bc dc ndH hdc e1 (by rw [e2]; exact nz.sublist (List.take_sublist _ _)) fun x m => ?_⟩
      have z : x.2 ∈ (ns.zip zs).map (·.2) := List.mem_map_of_mem m
      rw [e2] at z
      exact mz _ (List.mem_of_mem_take z)
end
end Lx

/-! The law: drawn webs. -/
namespace Lx
open PySem PySem.Spec PyProof.Rows L2 Fw
/-- a drawn plain web: what holds of it -/
structure Drawn (ns : List Str) (ts : List (List Str)) : Prop where
  pool : ∀ n ∈ ns, n ∈ poolN
  asc : AscN ns
  ge : 1 ≤ ns.length
  few : ns.length ≤ 8
  ascT : AscT ts
  sub : ∀ k ∈ ts, k ∈ pairsT ns
theorem pool_ok : ∀ n ∈ poolN, nameS n = true := by decide +kernel
theorem pool_short {n : Str} (h : n ∈ poolN) : n.length ≤ 1000 := name_short (pool_ok n h)
theorem nodup_sub_len {α : Type} [DecidableEq α] : ∀ {l m : List α}, l.Nodup → (∀ x ∈ l, x ∈ m) → l.length ≤ m.length
  | [], m, _, _ => Nat.zero_le _
  | x :: l, m, nd, h => by
    obtain ⟨h1, h2⟩ := List.nodup_cons.mp nd
    have mx := h x List.mem_cons_self
    have z := nodup_sub_len h2 (m := m.erase x) fun y my => (List.mem_erase_of_ne (fun e => h1 (by rw [← e]; exact my))).mpr (h y (List.mem_cons_of_mem _ my))
    rw [List.length_erase_of_mem mx] at z
    have := List.length_pos_of_mem mx
    simp only [List.length_cons]
    omega
theorem ascT_nodup {ts : List (List Str)} (h : AscT ts) : ts.Nodup := h.imp fun {a b} z e => by
  rw [e, ltT_irrefl] at z
  cases z
theorem ascN_nodup {ns : List Str} (h : AscN ns) : ns.Nodup := h.imp fun {a b} z e => by
  rw [e] at z
  exact List.lt_irrefl _ z
theorem Drawn.len {ns : List Str} {ts : List (List Str)} (d : Drawn ns ts) : ts.length ≤ 28 := by
  have z := nodup_sub_len (ascT_nodup d.ascT) d.sub
  have y := pairs_len ns
  have x : ∀ n : Nat, n ≤ 8 → n * n ≤ 56 + n := by decide
  have w := x _ d.few
  omega
theorem Drawn.web {ns : List Str} {ts : List (List Str)} (d : Drawn ns ts) : webB ns ts = true := pairs_web (fun n m => pool_ok n (d.pool n m)) d.asc d.ge (by have := d.few; omega) d.ascT d.sub (by have := d.len; omega)
theorem Drawn.two {ns : List Str} {ts : List (List Str)} (d : Drawn ns ts) : ∀ k ∈ ts, ∃ x y, k = [x, y] ∧ x ∈ ns ∧ y ∈ ns ∧ ltS x y = true := fun k m => (mem_pairs d.asc k).mp (d.sub k m)
theorem asTie_lt {x y : Str} (h : ltS x y = true) : asTie [x, y] = [x, y] := pairT_lt (ltS_iff.mp h)
def spRandom : Sp := fun vs H Q _ => ∃ (p : Addr), vs = [.ref p, .int 7] ∧ DiceAt H p ∧ ∀ H' d ns ks, But p H H' → DiceAt H' p → H d = none → Drawn ns (ks.map (·.2)) → PlainAt H' d ns ks → (∀ k ∈ ks, k.2 ≠ []) → Q (.ref d) H'
abbrev nLRD : List Str := ["_law_dice_here", "_law_most", "_law_names_here", "_law_share", "_law_tie_here"]
section
variable {P : Program} {w : World} {K : PySem.W.Frag} {mg : Str → Option Value} {base : Heap}
theorem scRandom : FnScope nLRD ["_law_dice_here", "_law_most"] (defScope (top 50)) := ⟨rfl, rfl, rfl, by decide +kernel, rfl, by decide +kernel, by decide +kernel⟩
theorem TX.q_random (T : TX K mg) : FnG P w K mg base CX0 3 T.f__law_random T.d__law_random ["_law_dice_here", "_law_most"] spRandom := by
  have GM : FnG P w K mg base CX0 2 T.f__law_mixed T.d__law_mixed ["_law_dice_here", "_law_items"] (spMixed K) := T.q_mixed
  have GR : FnG P w K mg base CX0 1 T.f__law_roll T.d__law_roll ["_law_dice_here", "_law_total"] spRoll := T.q_roll
  have GK : FnG P w K mg base CX0 2 T.f__law_pick T.d__law_pick ["_law_dice_here", "_law_items"] (spPick K) := T.q_pick
  have GN : FnG P w K mg base CX0 1 T.f__law_names T.d__law_names [] spNamesL := T.q_names
  have GL : FnG P w K mg base CX0 2 T.f__law_plain T.d__law_plain ["_law_places", "_law_ties"] (spPlain K) := T.q_plain
  have GP : FnG P w K mg base CX0 2 T.f__law_pairs T.d__law_pairs ["_law_places"] (spLPairs K) := T.q_lpairs
  refine fnG T.F__law_random scRandom (fun vs H Q E h => ?_) (fun cdv A fr s H vs Q E hG hr h => ?_)
  · obtain ⟨p, rfl, _⟩ := h
    rfl
  · obtain ⟨p, rfl, hd, q⟩ := h
    have hu := hr.units
    have hr1 := hr.mono (show 1 ≤ 2 by decide)
    refine ⟨_, pss_cons (ps_set (i := 2) scRandom.nd rfl (Or.inl rfl) (pe_callB cr_sortedS (by rfl) T.n_sorted (by decide +kernel) (pa_cons (pe_slice (sl_listK (K := K) rfl) (pe_callG (E := fun _ _ _ _ => False) hG GM hr (by rfl) T.m__law_mixed T.F__law_mixed.kp T.b__law_mixed .nil (fun _ => passAt0)
          (pa_cons (pv 0) (pa_cons (pe_callG0 (E := fun _ _ _ _ => False) hG GN hr1 (by rfl) T.m__law_names T.F__law_names.kp T.b__law_names .nil (fun _ => passAt0)) pa_nil))) po_none
          (po_some (pe_op op_add pe_int (pe_callG (E := fun _ _ _ _ => False) hG GR hr1 (by rfl) T.m__law_roll T.F__law_roll.kp T.b__law_roll .nil (fun _ => passAt0) (pa_cons (pv 0) (pa_cons (pv 1) pa_nil)))))) pa_nil)))
      (pss_cons (ps_set (i := 3) scRandom.nd rfl (Or.inr rfl) (pe_callG (E := fun _ _ _ _ => False) hG GK hr (by rfl) T.m__law_pick T.F__law_pick.kp T.b__law_pick .nil (fun _ => passAt0) (pa_cons (pv 0) (pa_cons (pe_lst (pa_cons pe_int (pa_cons pe_int (pa_cons pe_int (pa_cons pe_int (pa_cons pe_int pa_nil)))))) pa_nil))))
      (pss_one (ps_ret (pe_callG (E := fun _ _ _ _ => False) hG GL hr (by rfl) T.m__law_plain T.F__law_plain.kp T.b__law_plain .nil (fun _ => passAt0) (pa_cons (pv 2) (pa_cons
          (pe_lc (own := [("_law_tie_here", 4)]) (g := gName 4) (by rfl) scRandom.nd (pi_listK (K := K) rfl (pe_callG (E := fun _ _ _ _ => False) hG GP hr (by rfl) T.m__law_pairs T.F__law_pairs.kp T.b__law_pairs .nil (fun _ => passAt0) (pa_cons (pv 2) pa_nil)))
            (blkOk_by (N := nLRD) (sc := defScope (top 50)) (own := [("_law_tie_here", 4)]) (by decide +kernel)) (fun _ _ _ _ _ => pg_name (i := 4) scRandom.nd rfl (Or.inl rfl))
            (fun _ _ _ _ _ => pts_one (pt_cmpR op_lt (pe_callG (E := fun _ _ _ _ => False) hG GR hr1 (by rfl) T.m__law_roll T.F__law_roll.kp T.b__law_roll .nil (fun _ => passAt0) (pa_cons (pv 0) (pa_cons pe_int pa_nil))) (pv 3) (nomark _)))
            (fun _ _ _ _ _ => pv 4)) pa_nil)))))), ?_⟩
    refine ⟨_, rfl, rfl, fun l nl => ?_⟩
    have s1 := same_upd (o := .lst (poolN.map V.str)) nl
    have hl : (upd H l (.lst (poolN.map V.str))) l = some (.lst (poolN.map V.str)) := upd_same
    generalize upd H l (.lst (poolN.map V.str)) = H1 at s1 hl ⊢
    refine ⟨p, l, _, rfl, hd.same s1, SqL.of hl, by rw [List.length_map]; decide, fun ys g H2 py b2 d2 ng hg => ?_⟩
    obtain ⟨mx, pm, em⟩ := perm_lift V.str py poolN rfl
    subst em
    have ngp := dice_ne (hd.same s1) ng
    have ngH : H g = none := none_same s1 ng
    have B2 := (But.same s1).trans b2
    refine ⟨_, rfl, _, rfl, p, 7, rfl, d2, by decide, by decide, fun r H3 r0 r1 b3 d3 => ⟨_, _, rfl, rfl, 1 + r, rfl, ?_⟩⟩
    have hg3 := b3 _ _ ngp hg
    have B3 := B2.trans b3
    have ej : 1 + r = (((r.toNat + 1 : Nat)) : Int) := by omega
    generalize r.toNat + 1 = j at ej
    have j1 : 1 ≤ j := by omega
    have j7 : j ≤ 7 := by omega
    refine ⟨g, _, rfl, SqL.of hg3, fun c nc => ?_⟩
    have s4 := same_upd (o := .lst (cutV (mx.map V.str) none (some (1 + r)))) nc
    have hc : (upd H3 c (.lst (cutV (mx.map V.str) none (some (1 + r))))) c = some (.lst ((mx.take j).map V.str)) := by rw [upd_same, ej, cutTo, List.map_take]
    generalize upd H3 c (.lst (cutV (mx.map V.str) none (some (1 + r)))) = H4 at s4 hc ⊢
    have d4 := d3.same s4
    have B4 := B3.trans (But.same s4)
    have lm : mx.length = 14 := by rw [pm.length_eq]; rfl
    have ltk : (mx.take j).length = j := by rw [List.length_take]; omega
    refine ⟨c, mx.take j, rfl, SqL.of hc, by rw [ltk]; omega, fun ns e pn so ne => ?_⟩
    have s5 := same_upd (o := .lst (ns.map V.str)) ne
    have he : (upd H4 e (.lst (ns.map V.str))) e = some (.lst (ns.map V.str)) := upd_same
    have nep := dice_ne d4 ne
    have neH : H e = none := by
      cases z : H e with
      | none => rfl
      | some o =>
        rw [B4 _ _ nep z] at ne
        cases ne
    generalize upd H4 e (.lst (ns.map V.str)) = H5 at s5 he ⊢
    have d5 := d4.same s5
    have B5 := B4.trans (But.same s5)
    have ndP : mx.Nodup := pm.nodup_iff.mpr (by decide)
    have asc : AscN ns := ascN_of so (pn.nodup_iff.mpr (ndP.sublist (List.take_sublist _ _)))
    have pool : ∀ n ∈ ns, n ∈ poolN := fun n m => pm.mem_iff.mp (List.mem_of_mem_take (pn.mem_iff.mp m))
    have ln : ns.length = j := by rw [pn.length_eq, ltk]
    have sm : ∀ n ∈ ns, n.length ≤ 1000 := fun n m => pool_short (pool n m)
    refine ⟨_, rfl, by show 5 ≤ sizeLine; decide, fun b nb => ?_⟩
    have s6 := same_upd (o := .lst [V.int 1, V.int 2, V.int 3, V.int 4, V.int 5]) nb
    have hb : (upd H5 b (.lst [V.int 1, V.int 2, V.int 3, V.int 4, V.int 5])) b = some (.lst [V.int 1, V.int 2, V.int 3, V.int 4, V.int 5]) := upd_same
    have nbp := dice_ne d5 nb
    generalize upd H5 b (.lst [V.int 1, V.int 2, V.int 3, V.int 4, V.int 5]) = H6 at s6 hb ⊢
    have d6 := d5.same s6
    have B6 := B5.trans (But.same s6)
    have he6 := s6 _ _ he
    refine ⟨p, b, _, rfl, d6, SqL.of hb, nbp.symm, by show 0 < 5; decide, by show 5 < 1000000; decide, fun r' x H7 hx b7 d7 => ?_⟩
    obtain ⟨v, rfl⟩ : ∃ v : Int, x = .int v := by
      have z := List.mem_of_getElem? hx
      simp only [List.mem_cons, List.not_mem_nil, or_false] at z
      rcases z with rfl | rfl | rfl | rfl | rfl <;> exact ⟨_, rfl⟩
    have he7 := b7 _ _ nep he6
    have B7 := B6.trans b7
    refine ⟨_, rfl, _, rfl, e, ns, rfl, SqL.of he7, sm, asc, by omega, fun H8 L zs s8 nL hL mp each nee => ⟨L, rfl, ⟨_, SqL.of hL⟩, fun D nD => ?_⟩⟩
    have d8 := d7.same s8
    have B8 := B7.trans (But.same s8)
    have he8 := s8 _ _ he7
    have nDp := dice_ne d8 nD
    have nDH : H D = none := by
      cases z : H D with
      | none => rfl
      | some o =>
        rw [B8 _ _ nDp z] at nD
        cases nD
    have nLp : L ≠ p := dice_ne d7 nL
    have rdB : ∀ {Hx : Hp}, But p H8 Hx → ∀ k ∈ zs, Rd Hx k.1 (.tup (k.2.map V.str)) := fun {Hx} bx k m => by
      obtain ⟨a1, a2, a3, ed⟩ := d8
      rcases (each k m).1 with z | ⟨o, z⟩
      · exact .inl (bx _ _ (fun q => by rw [q, ed] at z; cases z) z)
      · exact .inr ⟨o, bx _ _ (fun q => by rw [q, ed] at z; cases z) z⟩
    refine lc_list (K := K) (a := L) (xs := zs.map fun k => V.ref k.1) (fun i Hc => But p H8 Hc ∧ DiceAt Hc p ∧ ∃ cs : List (Addr × List Str), cs.Sublist (zs.take i) ∧ Hc D = some (.lst (cs.map fun k => V.ref k.1)))
      ⟨But.same (same_upd nD), d8.same (same_upd nD), [], List.Sublist.refl _, upd_same⟩ (fun i Hc _ z => SqL.of (z.1 _ _ nLp hL)) ?_ ?_
    · rintro i y Hc hy ⟨bc, dc, cs, sub, hD⟩
      rw [List.getElem?_map] at hy
      cases ek : zs[i]? with
      | none => rw [ek] at hy; cases hy
      | some k =>
        rw [ek] at hy
        obtain rfl : V.ref k.1 = y := Option.some.inj hy
        have tk1 : zs.take (i + 1) = zs.take i ++ [k] := by
          rw [List.take_add_one, ek]
          rfl
        refine ⟨rfl, _, rfl, p, 6, rfl, dc, by decide, by decide, fun r2 H9 _ _ b9 d9 => ⟨_, rfl, _, _, rfl, rfl, _, rfl, ?_⟩⟩
        have hD9 := b9 _ _ nDp hD
        dsimp only
        by_cases c : r2 < v
        · rw [if_pos (decide_eq_true c)]
          refine ⟨_, rfl, _, hD9, ?_, fun d o nd z => ?_, d9.upd nDp, cs ++ [k], by rw [tk1]; exact sub.append (List.Sublist.refl _), by rw [upd_same, List.map_append]; rfl⟩
          · have z := sub.length_le
            have y := List.length_take_le' i zs
            have x := congrArg List.length mp
            rw [List.length_map] at x
            have u := pairsT_len ns
            have t : ns.length * ns.length ≤ 7 * 7 := Nat.mul_le_mul (by omega) (by omega)
            rw [List.length_map, sizeLine_eq]
            omega
          · rw [upd_ne (ne_of_none z nD)]
            exact b9 _ _ nd (bc _ _ nd z)
        · rw [if_neg (by rw [decide_eq_true_eq]; exact c)]
          exact ⟨bc.trans b9, d9, cs, by rw [tk1]; exact List.Sublist.trans sub (List.sublist_append_left _ _), hD9⟩
    · rintro Hc ⟨bc, dc, cs, sub, hD⟩
      rw [List.length_map, List.take_length] at sub
      have eachc : Each Hc cs := fun k m => ⟨rdB bc k (sub.subset m), (each k (sub.subset m)).2⟩
      have subT : (cs.map (·.2)).Sublist (pairsT ns) := by
        rw [← mp]
        exact sub.map _
      have ascT : AscT (cs.map (·.2)) := (pairs_asc asc).sublist subT
      have dr : Drawn ns (cs.map (·.2)) := ⟨pool, asc, by omega, by omega, ascT, fun k m => subT.subset m⟩
      have two := dr.two
      have lc := dr.len
      rw [List.length_map] at lc
      have Bc := B8.trans bc
      refine ⟨e, D, ns, ns, cs, rfl, SqL.of (bc _ _ nep he8), SqL.of hD, eachc, fun k m => ?_, by omega, fun z m => m, fun k m z mz => ?_, sm, by omega, by omega, fun H' d ns' ks' s' nd' as mn at' mt ne' pl => ?_⟩
      · obtain ⟨x, y, ek, _⟩ := two k.2 (List.mem_map_of_mem m)
        exact ⟨x, y, ek⟩
      · obtain ⟨x, y, ek, mx', my', _⟩ := two k.2 (List.mem_map_of_mem m)
        rw [ek] at mz
        rcases (show z = x ∨ z = y by simpa using mz) with q1 | q1 <;> rw [q1] <;> assumption
      · have en : ns' = ns := as.same asc fun z => (mn z).trans ⟨fun m => by
          rcases List.mem_append.mp m with m | m
          · exact m
          · obtain ⟨k, mk, mz⟩ := List.mem_flatMap.mp m
            obtain ⟨x, y, ek, mx', my', _⟩ := two k.2 (List.mem_map_of_mem mk)
            rw [ek] at mz
            rcases (show z = x ∨ z = y by simpa using mz) with q1 | q1 <;> rw [q1] <;> assumption, fun m => List.mem_append_left _ m⟩
        have et : ks'.map (·.2) = cs.map (·.2) := at'.same ascT fun z => (mt z).trans (by
          have e2 : (cs.map fun k => asTie k.2) = cs.map (·.2) := List.map_congr_left fun k m => by
            obtain ⟨x, y, ek, _, _, l⟩ := two k.2 (List.mem_map_of_mem m)
            rw [ek]
            exact asTie_lt l
          rw [e2])
        have ndH : H d = none := by
          have ndp := dice_ne dc nd'
          cases z : H d with
          | none => rfl
          | some o =>
            rw [Bc _ _ ndp z] at nd'
            cases nd'
        rw [en] at pl
        exact q H' d ns ks' (Bc.trans (But.same s')) (dc.same s') ndH (by rw [et]; exact dr) pl ne'
end
end Lx

/-! The law: what a call gives, or the word for its error. -/
namespace Lx
open PySem PySem.Spec PyProof.Rows L2 Fw LamX
theorem takes_len {X : Cx} {W : WX} (t : Takes X W) : Takes X (fun c d σ H => σ.length = X.N.length → W c d σ H) := fun u s' ⟨a, B, sI, pins, σ, H, cls, d, e, I, nb, up, sky, na, os, ag, w⟩ =>
  t u s' ⟨a, B, sI, pins, σ, H, cls, d, e, I, nb, up, sky, na, os, ag, w I.len⟩
/-- what the caller of _law_asked wants of an error of the call -/
def EAsked (CT CW : Addr) (Q : VK) : XK := fun cls _ H' => (cls = .ref CT ∧ Q (.str ("tie" : Str)) H') ∨ (cls = .ref CW ∧ Q (.str ("web" : Str)) H')
def TAsked (C CT CW : Addr) : (XK → Hp → VK → Prop) → Hp → VK → Prop := fun tl H Q => tl (EAsked CT CW Q) H fun v H' => spToldW C [v] H' Q (fun _ _ _ => False)
theorem scAsked : FnScope ["_law_call", "e"] ["_law_call"] (defScope (top 53)) := ⟨rfl, rfl, rfl, by decide +kernel, rfl, by decide +kernel, by decide +kernel⟩
theorem asked_gives {X : Cx} {g : Addr} {cdg : Value} {q : Str} {k : Nat} (T : TX X.K X.mg) (hr : Room (k + 4) X.A) :
    GivesTo X ["_law_call", "e"] "_law_asked" (defScope (top 53)) g cdg (defBody (top 53)) "_law_call" q (TAsked T.C_Web T.C_InvalidTie T.C_InvalidWeb) := by
  intro f c' s H Q tl act hc h
  have hr' := hr.deeper (envOfC "_law_asked" (defScope (top 53)) s.heap.objs.size g cdg)
  have GW : FnV false X.prog X.w X.K X.mg X.base CX0 3 T.f__law_told_web T.d__law_told_web ["_law_web"] (spToldW T.C_Web) := T.q_toldW
  refine ⟨_, pss_one (ps_try_cls (X := (cxOf C8.CX0 X.prog X.w X.K X.mg X.base ["_law_call", "e"] "_law_asked" (defScope (top 53)) g cdg X.A X.stack s H C8.E0).nox) (out := fun _ _ _ _ => False)
      (tb := fun W D σ H => ∃ Ech : XK, (∀ cls d σ' H', Ech cls d H' → σ'.length = 2 → W cls d σ' H') ∧ σ[0]? = some (some (.ref f)) ∧ H c' = some (CodeO c' q) ∧ tl Ech H (fun v H' => spToldW T.C_Web [v] H' D.rt (fun _ _ _ => False)))
      rfl rfl scAsked.nd L2.takes0 (fun W pn xe tk _ => ?_)
      (.bare (c := .ref T.C_InvalidTie) ⟨by rfl, by decide, .inl T.g_InvalidTie⟩ (fun a oe cls d pn hz hf => pss_one (ps_ret pe_str))
      (.bare (c := .ref T.C_InvalidWeb) ⟨by rfl, by decide, .inl T.g_InvalidWeb⟩ (fun a oe cls d pn hz hf => pss_one (ps_ret pe_str))
      (.named (i := 1) (c := .ref T.C_TooMany) ⟨by rfl, by decide, .inl T.g_TooMany⟩ rfl rfl (fun a oe cls d pn hz hf => pss_one ps_never) .nil)))), ?_⟩
  · refine ⟨fun pins s' σ H' D I h' => ?_⟩
    obtain ⟨Ech, hW, h1, h2, h3⟩ := h'
    exact (pss_one (ps_ret (pe_callV (X := (cxOf C8.CX0 X.prog X.w X.K X.mg X.base ["_law_call", "e"] "_law_asked" (defScope (top 53)) g cdg X.A X.stack s H C8.E0).tr pn xe) (gg := false) (E := fun _ _ _ _ => False) (fun z => nomatch z) GW (hr'.mono (by omega)) (by rfl) T.m__law_told_web T.F__law_told_web.kp T.b__law_told_web .nil (fun _ => passAt0)
      (pa_cons (act _ pn xe Ech _ _ (takes_len tk) (fun cls d σ' H' e l => hW cls d σ' H' e l)) pa_nil)))).run pins s' σ H' D I ⟨h1, h2, h3⟩
  · refine ⟨EAsked T.C_InvalidTie T.C_InvalidWeb Q, fun cls d σ' H' hE len => ?_, rfl, hc, h⟩
    rcases hE with ⟨rfl, q⟩ | ⟨rfl, q⟩
    · exact ⟨true, T.E_InvalidTie_InvalidTie, fun _ a na => q, fun z => by cases z⟩
    · exact ⟨false, T.E_InvalidWeb_InvalidTie, (fun z => by cases z), fun _ => ⟨true, T.E_InvalidWeb_InvalidWeb, fun _ a na => q, fun z => by cases z⟩⟩
end Lx

/-! The law: what stands while lambdas are made and dice are rolled; told webs compared. -/
namespace Lx
open PySem PySem.Spec PyProof.Rows L2 Fw LamX
/-! ### tables and dice -/
def ButT (p : Addr) (H H' : Hp) : Prop := ∀ b o, b ≠ p → (∀ ps, o ≠ .tbl ps) → H b = some o → H' b = some o
theorem ButT.refl {p : Addr} {H : Hp} : ButT p H H := fun _ _ _ _ e => e
theorem ButT.of {p : Addr} {H H' : Hp} (b : But p H H') : ButT p H H' := fun c o n _ e => b c o n e
theorem ButT.trans {p : Addr} {H H1 H2 : Hp} (a : ButT p H H1) (b : ButT p H1 H2) : ButT p H H2 := fun c o n t e => b c o n t (a c o n t e)
theorem ButT.ext {p : Addr} {H H' : Hp} (b : ExtN H H') : ButT p H H' := fun c o _ t e => b c o e t
theorem ButT.same {p : Addr} {H H' : Hp} (b : Same H H') : ButT p H H' := fun c o _ _ e => b c o e
theorem tabs_but {T : List (Addr × Str)} {p : Addr} {H H' : Hp} (t : Tabs T H) (d : DiceAt H p) (b : But p H H') : Tabs T H' := by
  obtain ⟨_, _, _, ep⟩ := d
  intro x mx
  obtain ⟨ps, h1, h2, h3⟩ := t x mx
  refine ⟨ps, b _ _ (fun z => ?_) h1, h2, fun pos cv hc => ?_⟩
  · rw [z, ep] at h1
    cases h1
  · obtain ⟨c, e1, e2⟩ := h3 pos cv hc
    refine ⟨c, e1, b _ _ (fun z => ?_) e2⟩
    rw [z, ep] at e2
    unfold CodeO at e2
    cases e2
theorem dice_ext {p : Addr} {H H' : Hp} (d : DiceAt H p) (e : ExtN H H') : DiceAt H' p := by
  obtain ⟨a, b, c, at_⟩ := d
  exact ⟨a, b, c, e _ _ at_ fun ps z => by cases z⟩
theorem extN_of {H H' : Hp} (s : Same H H') : ExtN H H' := fun b o e _ => s b o e
/-- an object that is no dice and no table stays -/
theorem stays {p b : Addr} {H H' : Hp} {o : HO} (d : DiceAt H p) (B : ButT p H H') (e : H b = some o) (n : ∀ l s c : Int, o ≠ .lst [.int l, .int s, .int c] := by intro _ _ _ z; cases z) (t : ∀ ps, o ≠ .tbl ps := by intro _ z; cases z) : H' b = some o := by
  obtain ⟨l, s, c, ed⟩ := d
  refine B _ _ (fun z => ?_) t e
  rw [z, ed] at e
  exact n l s c (Option.some.inj e).symm
theorem strs_ne (ns : List Str) : ∀ l s c : Int, HO.lst (ns.map V.str) ≠ .lst [.int l, .int s, .int c] := fun l s c z => by
  have z' : ns.map V.str = [.int l, .int s, .int c] := by injection z
  cases ns with
  | nil => cases z'
  | cons x r => cases z'
theorem refs_ne (ks : List (Addr × List Str)) : ∀ l s c : Int, HO.lst (ks.map fun k => V.ref k.1) ≠ .lst [.int l, .int s, .int c] := fun l s c z => by
  have z' : (ks.map fun k => V.ref k.1) = [.int l, .int s, .int c] := by injection z
  cases ks with
  | nil => cases z'
  | cons x r => cases z'
theorem rd_stays {p b : Addr} {H H' : Hp} {xs : List V} (d : DiceAt H p) (B : ButT p H H') (h : Rd H b (.tup xs)) : Rd H' b (.tup xs) := by
  rcases h with h | ⟨o, h⟩
  · exact .inl (stays d B h)
  · exact .inr ⟨o, stays d B h⟩
theorem each_stays {p : Addr} {H H' : Hp} {ks : List (Addr × List Str)} (d : DiceAt H p) (B : ButT p H H') (h : Each H ks) : Each H' ks := fun k m => ⟨rd_stays d B (h k m).1, (h k m).2⟩
theorem plain_stays {p x : Addr} {H H' : Hp} {ns : List Str} {ks : List (Addr × List Str)} (d : DiceAt H p) (B : ButT p H H') (h : PlainAt H x ns ks) : PlainAt H' x ns ks := by
  obtain ⟨⟨l1, l2, a1, a2, a3⟩, each⟩ := h
  exact ⟨⟨l1, l2, stays d B a1, stays d B a2 (strs_ne ns), stays d B a3 (refs_ne ks)⟩, each_stays d B each⟩
theorem web_stays {C p x t a : Addr} {H H' : Hp} {ns : List Str} {ks : List (Addr × List Str)} (d : DiceAt H p) (B : ButT p H H') (ap : Apart H x p) (h : WebAt C H x t a ns ks) : WebAt C H' x t a ns ks ∧ Apart H' x p := by
  obtain ⟨⟨dx, D, e1, e2, e3⟩, ⟨o, od, tu⟩, ro, sm, ok⟩ := h
  have e1' := stays d B e1
  refine ⟨⟨⟨dx, D, e1', stays d B e2, B _ _ (ap _ _ _ _ _ e1) (fun ps z => by cases z) e3⟩, ⟨o, od, stays d B tu⟩, ⟨rd_stays d B ro.at_, each_stays d B ro.each, ro.few⟩, sm, ok⟩, fun C' dx' v1 v2 D' z => ?_⟩
  rw [e1'] at z
  cases z
  exact ap _ _ _ _ _ e1
/-! ### told webs -/
/-- a word, or a web's places and ties in a dict of lists -/
inductive ToldR (H : Hp) : V → Str ⊕ (List Str × List (List Str)) → Prop
  | word (s : Str) : ToldR H (.str s) (.inl s)
  | web {d : Addr} {ns : List Str} {ks : List (Addr × List Str)} (h : PlainAt H d ns ks) : ToldR H (.ref d) (.inr (ns, ks.map (·.2)))
theorem plain_same {H H' : Hp} {x : Addr} {ns : List Str} {ks : List (Addr × List Str)} (s : Same H H') (h : PlainAt H x ns ks) : PlainAt H' x ns ks := by
  obtain ⟨⟨l1, l2, a1, a2, a3⟩, each⟩ := h
  exact ⟨⟨l1, l2, s _ _ a1, s _ _ a2, s _ _ a3⟩, each.same s⟩
theorem ToldR.same {H H' : Hp} {v : V} {r : Str ⊕ (List Str × List (List Str))} (t : ToldR H v r) (s : Same H H') : ToldR H' v r := by
  cases t with
  | word w => exact .word w
  | web h => exact .web (plain_same s h)
theorem plain_ext {H H' : Hp} {x : Addr} {ns : List Str} {ks : List (Addr × List Str)} (s : ExtN H H') (h : PlainAt H x ns ks) : PlainAt H' x ns ks := by
  obtain ⟨⟨l1, l2, a1, a2, a3⟩, each⟩ := h
  refine ⟨⟨l1, l2, s _ _ a1 (fun _ z => by cases z), s _ _ a2 (fun _ z => by cases z), s _ _ a3 (fun _ z => by cases z)⟩, fun k m => ⟨?_, (each k m).2⟩⟩
  rcases (each k m).1 with z | ⟨o, z⟩
  · exact .inl (s _ _ z fun _ z => by cases z)
  · exact .inr ⟨o, s _ _ z fun _ z => by cases z⟩
theorem ToldR.ext {H H' : Hp} {v : V} {r : Str ⊕ (List Str × List (List Str))} (t : ToldR H v r) (s : ExtN H H') : ToldR H' v r := by
  cases t with
  | word w => exact .word w
  | web h => exact .web (plain_ext s h)
theorem plainTs : ∀ ts : List (List Str), PyData.plainAll (dataT ts) = true
  | [] => rfl
  | k :: ts => by
    have z : ∀ k : List Str, PyData.plainAll (k.map PyData.str) = true := fun k => by
      induction k with
      | nil => rfl
      | cons x k ih => exact (by show (true && PyData.plainAll (k.map PyData.str)) = true; rw [ih]; rfl)
    show (PyData.plainAll (k.map PyData.str) && PyData.plainAll (dataT ts)) = true
    rw [z, plainTs ts]
    rfl
theorem plainNs : ∀ ns : List Str, PyData.plainAll (ns.map PyData.str) = true
  | [] => rfl
  | x :: ns => by
    show (true && PyData.plainAll (ns.map PyData.str)) = true
    rw [plainNs ns]
    rfl
theorem depthTs : ∀ ts : List (List Str), PyData.depthAll (dataT ts) ≤ 1
  | [] => Nat.zero_le _
  | k :: ts => by
    show max (PyData.depthAll (k.map PyData.str) + 1) (PyData.depthAll (dataT ts)) ≤ 1
    rw [flat_txt]
    have := depthTs ts
    omega
theorem told_same {K : PySem.W.Frag} {H : Hp} {v v' : V} {r : Str ⊕ (List Str × List (List Str))} (t : ToldR H v r) (t' : ToldR H v' r) : SameD K H v v' ∨ SameK K H v v' := by
  cases t with
  | word s =>
    cases t' with
    | word s => exact .inl ⟨.str s, .str s, .str s, rfl, by show 0 ≤ 60; decide⟩
  | @web d ns ks h =>
    generalize e : (ns, ks.map (·.2)) = q at t'
    cases t' with
    | @web d' ns' ks' h' =>
      obtain ⟨e1, e2⟩ := Prod.mk.inj e
      obtain ⟨⟨l1, l2, a1, a2, a3⟩, each⟩ := h
      obtain ⟨⟨m1, m2, b1, b2, b3⟩, each'⟩ := h'
      refine .inr ⟨d, d', _, _, rfl, rfl, a1, b1, rfl, fun p m => ?_⟩
      rcases (show p = ((Sum.inr ("places" : Str) : L2.Key), V.ref l1) ∨ p = ((Sum.inr ("ties" : Str) : L2.Key), V.ref l2) by simpa using m) with z | z
      · rw [z]
        refine ⟨.ref m1, rfl, .list (ns.map PyData.str), .lst (SqL.of a2) (dpT ns), ?_, plainNs ns, ?_⟩
        · rw [e1]
          exact .lst (SqL.of b2) (dpT ns')
        · show PyData.depthAll (ns.map PyData.str) + 1 ≤ 60
          rw [flat_txt]
          omega
      · rw [z]
        refine ⟨.ref m2, rfl, .list (dataT (ks.map (·.2))), .lst (SqL.of a3) (dpTs fun k m => (each k m).1), ?_, plainTs _, ?_⟩
        · rw [e2]
          exact .lst (SqL.of b3) (dpTs fun k m => (each' k m).1)
        · show PyData.depthAll (dataT (ks.map (·.2))) + 1 ≤ 60
          have := depthTs (ks.map (·.2))
          omega
/-! ### what a call is asked for, if it is told -/
/-- a web at x told: its dict of lists -/
theorem told_web {C x t a : Addr} {H : Hp} {Q : VK} {E : XK} {ns : List Str} {ks : List (Addr × List Str)} {r : Str ⊕ (List Str × List (List Str))} (W : WebAt C H x t a ns ks) (e : r = .inr (ns, ks.map (·.2))) (q : ∀ H' v, Same H H' → ToldR H' v r → Q v H') : spToldW C [.ref x] H Q E :=
  ⟨x, t, a, ns, ks, rfl, W, fun H' d s nd pl => q H' _ s (by rw [e]; exact .web pl)⟩
/-- gathered webs, where the places and ties are right -/
theorem gath_ok {C CW : Addr} {H : Hp} {Q : VK} {E : XK} {ns0 ns : List Str} {ts0 : List (List Str)} (asc : AscN ns) (mn : ∀ z, z ∈ ns ↔ z ∈ ns0) (nm : ∀ x ∈ ns, nameS x = true) (ge : 1 ≤ ns.length) (few : ns.length ≤ 9) (sub : ∀ k ∈ ts0, k ∈ pairsT ns)
    (q : ∀ H' x t a ks', AscT (ks'.map (·.2)) → (∀ z, z ∈ ks'.map (·.2) ↔ z ∈ ts0) → Same H H' → H x = none → WebAt C H' x t a ns ks' → Q (.ref x) H') : Gath C CW H Q E ns0 ts0 := by
  intro ns' ts' an mn' at' mt'
  obtain rfl : ns' = ns := an.same asc fun z => (mn' z).trans (mn z).symm
  have sub' : ∀ k ∈ ts', k ∈ pairsT ns' := fun k m => sub k ((mt' k).mp m)
  have len : ts'.length ≤ 40 := Nat.le_trans (nodup_sub_len (ascT_nodup at') sub') (by have := pairs_few few; omega)
  refine ⟨fun c => ?_, fun _ H' x t a ks' ek s n W => q H' x t a ks' (by rw [ek]; exact at') (fun z => by rw [ek]; exact mt' z) s n W⟩
  rw [pairs_web nm asc ge few at' sub' len] at c
  cases c
theorem pairT_mem {ns : List Str} {u v : Str} (asc : AscN ns) (hu : u ∈ ns) (hv : v ∈ ns) (n : u ≠ v) : pairT u v ∈ pairsT ns := by
  unfold pairT
  cases c : ltS u v with
  | true =>
    rw [if_pos rfl]
    exact (mem_pairs asc _).mpr ⟨u, v, rfl, hu, hv, c⟩
  | false =>
    rw [if_neg (by decide)]
    exact (mem_pairs asc _).mpr ⟨v, u, rfl, hv, hu, ltS_or n c⟩
end Lx

/-! Marks: the neighbours told by bits are the tied places. -/
namespace Lx
open PySem PySem.Spec PyProof.Rows L2 Fw
theorem bitOr_nat (a b : Nat) : Builtin.bitOr (a : Int) (b : Int) = ((a ||| b : Nat) : Int) := by
  have e1 : Builtin.bitNot ((a : Nat) : Int) = -(a : Int) - 1 := rfl
  have e2 : Builtin.bitNot ((b : Nat) : Int) = -(b : Int) - 1 := rfl
  have n : ∀ x : Int, Builtin.bitNot x = -x - 1 := fun _ => rfl
  unfold Builtin.bitOr Builtin.bitAnd
  rw [e1, e2, decide_eq_false (show ¬ (0 : Int) ≤ -(a : Int) - 1 by omega), decide_eq_false (show ¬ (0 : Int) ≤ -(b : Int) - 1 by omega)]
  simp only [n]
  have t1 : (-(-(a : Int) - 1) - 1).toNat = a := by omega
  have t2 : (-(-(b : Int) - 1) - 1).toNat = b := by omega
  rw [t1, t2]
  omega
theorem bitAnd_nat (a b : Nat) : Builtin.bitAnd (a : Int) (b : Int) = ((a &&& b : Nat) : Int) := by
  unfold Builtin.bitAnd
  rw [decide_eq_true (show (0 : Int) ≤ (a : Int) by omega), decide_eq_true (show (0 : Int) ≤ (b : Int) by omega)]
  simp
theorem bitOn_nat (m j : Nat) : bitOn (m : Int) j = m.testBit j := by
  unfold bitOn
  have e : ((m : Int) / 2 ^ ((j : Nat) : Int).toNat) = ((m / 2 ^ j : Nat) : Int) := by
    rw [Int.toNat_natCast]
    norm_cast
  have a := bitAnd_nat (m / 2 ^ j) 1
  rw [e, show (1 : Int) = ((1 : Nat) : Int) from rfl, a]
  show _ = ((1 &&& (m >>> j)) != 0)
  rw [Nat.shiftRight_eq_div_pow, Nat.and_comm 1]
  cases h : (m / 2 ^ j &&& 1) with
  | zero => rfl
  | succ n => rfl
def markN (M : List Nat) (i j : Nat) : List Nat := M.set i (M.getD i 0 ||| 2 ^ j)
def stepN (ns : List Str) (M : List Nat) (k : List Str) : List Nat := markN (markN M (ns.idxOf (k.getD 0 Str.empty)) (ns.idxOf (k.getD 1 Str.empty))) (ns.idxOf (k.getD 1 Str.empty)) (ns.idxOf (k.getD 0 Str.empty))
def castL (M : List Nat) : List Int := List.map (fun n : Nat => (n : Int)) M
theorem castL_getD (M : List Nat) (i : Nat) : (castL M).getD i 0 = ((M.getD i 0 : Nat) : Int) := by
  unfold castL
  rw [List.getD_eq_getElem?_getD, List.getD_eq_getElem?_getD, List.getElem?_map]
  cases M[i]? <;> rfl
theorem mark_cast (M : List Nat) (i j : Nat) : markAt (castL M) i j = castL (markN M i j) := by
  unfold markAt markN
  rw [castL_getD]
  have e : (1 * 2 ^ j : Int) = ((2 ^ j : Nat) : Int) := by
    rw [Int.one_mul]
    norm_cast
  rw [e, bitOr_nat]
  unfold castL
  rw [List.map_set]
theorem near_cast (ns : List Str) : ∀ (ts : List (List Str)) (M : List Nat), ts.foldl (nearStep ns) (castL M) = castL (ts.foldl (stepN ns) M)
  | [], _ => rfl
  | k :: ts, M => by
    show ts.foldl (nearStep ns) (nearStep ns (castL M) k) = castL (ts.foldl (stepN ns) (stepN ns M k))
    have e : nearStep ns (castL M) k = castL (stepN ns M k) := by
      unfold nearStep stepN
      dsimp only
      rw [mark_cast, mark_cast]
    rw [e, near_cast ns ts]
def Bt (M : List Nat) (i j : Nat) : Bool := (M.getD i 0).testBit j
theorem markN_len (M : List Nat) (i j : Nat) : (markN M i j).length = M.length := List.length_set
theorem markN_bt {M : List Nat} {i0 j0 : Nat} (h : i0 < M.length) (i j : Nat) : Bt (markN M i0 j0) i j = (Bt M i j || (decide (i = i0) && decide (j = j0))) := by
  unfold Bt markN
  rw [List.getD_eq_getElem?_getD, List.getElem?_set]
  by_cases c : i0 = i
  · subst c
    rw [if_pos rfl, if_pos h]
    show (M.getD i0 0 ||| 2 ^ j0).testBit j = _
    rw [Nat.testBit_or, Nat.testBit_two_pow]
    by_cases d : j0 = j
    · subst d
      simp
    · rw [decide_eq_false d, decide_eq_false (show ¬ j = j0 from fun e => d e.symm)]
      simp
  · rw [if_neg c, ← List.getD_eq_getElem?_getD, decide_eq_false (fun e => c e.symm)]
    simp
theorem stepN_len (ns : List Str) (M : List Nat) (k : List Str) : (stepN ns M k).length = M.length := by
  unfold stepN
  rw [markN_len, markN_len]
theorem fold_bt {ns : List Str} : ∀ (ts : List (List Str)) (M : List Nat), M.length = ns.length → (∀ k ∈ ts, k.getD 0 Str.empty ∈ ns ∧ k.getD 1 Str.empty ∈ ns) → ∀ i j, Bt (ts.foldl (stepN ns) M) i j = true ↔ Bt M i j = true ∨
    ∃ k ∈ ts, (i = ns.idxOf (k.getD 0 Str.empty) ∧ j = ns.idxOf (k.getD 1 Str.empty)) ∨ (i = ns.idxOf (k.getD 1 Str.empty) ∧ j = ns.idxOf (k.getD 0 Str.empty))
  | [], M, _, _, i, j => by simp
  | k :: ts, M, hl, hk, i, j => by
    show Bt (ts.foldl (stepN ns) (stepN ns M k)) i j = true ↔ _
    rw [fold_bt ts (stepN ns M k) (by rw [stepN_len]; exact hl) (fun q m => hk q (List.mem_cons_of_mem _ m)) i j]
    obtain ⟨h0, h1⟩ := hk k List.mem_cons_self
    have l0 : ns.idxOf (k.getD 0 Str.empty) < M.length := by rw [hl]; exact List.idxOf_lt_length_iff.mpr h0
    have l1 : ns.idxOf (k.getD 1 Str.empty) < M.length := by rw [hl]; exact List.idxOf_lt_length_iff.mpr h1
    unfold stepN
    rw [markN_bt (by rw [markN_len]; exact l1), markN_bt l0]
    simp only [Bool.or_eq_true, Bool.and_eq_true, decide_eq_true_eq, List.mem_cons, exists_eq_or_imp]
    constructor
    · rintro (((a | b) | c) | d)
      · exact .inl a
      · exact .inr (.inl (.inl b))
      · exact .inr (.inl (.inr c))
      · exact .inr (.inr d)
    · rintro (a | (b | c) | d)
      · exact .inl (.inl (.inl a))
      · exact .inl (.inl (.inr b))
      · exact .inl (.inr c)
      · exact .inr d
theorem mem_marked (ns : List Str) (m : Int) (z : Str) : ∀ i, z ∈ markedTo ns m i ↔ ∃ j, j < i ∧ bitOn m j = true ∧ ns.getD j Str.empty = z
  | 0 => by
    show z ∈ [] ↔ _
    simp
  | i + 1 => by
    show z ∈ markedTo ns m i ++ (if bitOn m i = true then [ns.getD i Str.empty] else []) ↔ _
    rw [List.mem_append, mem_marked ns m z i]
    constructor
    · rintro (⟨j, a, b⟩ | h)
      · exact ⟨j, by omega, b⟩
      · by_cases c : bitOn m i = true
        · rw [if_pos c, List.mem_singleton] at h
          exact ⟨i, by omega, c, h.symm⟩
        · rw [if_neg c] at h
          cases h
    · rintro ⟨j, a, b, c⟩
      by_cases d : j = i
      · subst d
        refine .inr ?_
        rw [if_pos b, c]
        exact List.mem_singleton.mpr rfl
      · exact .inl ⟨j, by omega, b, c⟩
theorem neigh_mem {ns : List Str} {ts : List (List Str)} (ok : webB ns ts = true) {v : Str} (hv : v ∈ ns) (z : Str) : z ∈ neighL ns ts v ↔ z ∈ ns ∧ pairT z v ∈ ts := by
  obtain ⟨_, _, _, asc, _, tin, _⟩ := webB_iff.mp ok
  have nd := ascN_nodup asc
  have two : ∀ k ∈ ts, ∃ x y, k = [x, y] ∧ x ∈ ns ∧ y ∈ ns ∧ ltS x y = true := fun k m => by
    obtain ⟨x, y, e, _, _, l, mx, my⟩ := tieIn_inv (tin k m)
    exact ⟨x, y, e, mx, my, l⟩
  have e0 : nearL ns ts = castL (ts.foldl (stepN ns) (List.replicate ns.length 0)) := by
    unfold nearL
    rw [← near_cast]
    unfold castL
    rw [List.map_replicate]
    rfl
  have bt : ∀ j, bitOn ((nearL ns ts).getD (ns.idxOf v) 0) j = true ↔ ∃ k ∈ ts, (ns.idxOf v = ns.idxOf (k.getD 0 Str.empty) ∧ j = ns.idxOf (k.getD 1 Str.empty)) ∨ (ns.idxOf v = ns.idxOf (k.getD 1 Str.empty) ∧ j = ns.idxOf (k.getD 0 Str.empty)) := fun j => by
    rw [e0, castL_getD, bitOn_nat]
    have z := fold_bt (ns := ns) ts (List.replicate ns.length 0) (by simp) (fun k m => by
      obtain ⟨x, y, e, mx, my, _⟩ := two k m
      rw [e]
      exact ⟨mx, my⟩) (ns.idxOf v) j
    have b0 : Bt (List.replicate ns.length 0) (ns.idxOf v) j = false := by
      unfold Bt
      have : (List.replicate ns.length 0).getD (ns.idxOf v) 0 = 0 := by
        rw [List.getD_eq_getElem?_getD, List.getElem?_replicate]
        split <;> rfl
      rw [this]
      simp
    rw [b0] at z
    exact z.trans ⟨fun q => q.resolve_left (by simp), .inr⟩
  have inj : ∀ x y : Str, x ∈ ns → y ∈ ns → ns.idxOf x = ns.idxOf y → x = y := fun x y mx my e => by
    have a := List.getElem_idxOf (List.idxOf_lt_length_iff.mpr mx)
    have b := List.getElem_idxOf (List.idxOf_lt_length_iff.mpr my)
    rw [← a, ← b]
    congr 1
  have at_ : ∀ x, x ∈ ns → ns.getD (ns.idxOf x) Str.empty = x := fun x mx => by
    have l := List.idxOf_lt_length_iff.mpr mx
    rw [List.getD_eq_getElem?_getD, List.getElem?_eq_getElem l, List.getElem_idxOf l]
    rfl
  unfold neighL markedL
  rw [mem_marked]
  constructor
  · rintro ⟨j, lj, b, ez⟩
    obtain ⟨k, mk, h⟩ := (bt j).mp b
    obtain ⟨x, y, ek, mx, my, l⟩ := two k mk
    subst ek
    rcases h with ⟨a, c⟩ | ⟨a, c⟩
    · have ev : v = x := inj v x hv mx a
      have c' : j = ns.idxOf y := c
      rw [c', at_ y my] at ez
      subst ez
      refine ⟨my, ?_⟩
      unfold pairT
      rw [ev, if_neg (by rw [ltS_not l]; decide)]
      exact mk
    · have ev : v = y := inj v y hv my a
      have c' : j = ns.idxOf x := c
      rw [c', at_ x mx] at ez
      subst ez
      refine ⟨mx, ?_⟩
      unfold pairT
      rw [ev, if_pos l]
      exact mk
  · rintro ⟨mz, mp⟩
    refine ⟨ns.idxOf z, List.idxOf_lt_length_iff.mpr mz, (bt _).mpr ⟨_, mp, ?_⟩, at_ z mz⟩
    unfold pairT
    cases c : ltS z v with
    | true =>
      rw [if_pos rfl]
      exact .inr ⟨rfl, rfl⟩
    | false =>
      rw [if_neg (by decide)]
      exact .inl ⟨rfl, rfl⟩
end Lx

/-! t in ts, ts a list of tuples of texts. -/
namespace Fw
open PySem PySem.Spec PyProof.Rows L2 PySem.W PySem.SeqAt
section
variable {X : Cx}
def rInXL (K : PySem.W.Frag) (neg : Bool) : R2 := fun x y H Q => ∃ (a b : Addr) (j : List Str) (ks : List (Addr × List Str)), x = .ref a ∧ y = .ref b ∧ Rd H a (.tup (j.map V.str)) ∧ SqL K H b (ks.map fun k => V.ref k.1) ∧ (∀ k ∈ ks, Rd H k.1 (.tup (k.2.map V.str))) ∧
  Q (.bl (if neg then !decide (j ∈ ks.map (·.2)) else decide (j ∈ ks.map (·.2)))) H
theorem inXL_run (hu : X.A.units + 64 < cLine) {pins : List (Addr × Obj)} {σ : L2.St} {H : Hp} {s : Shared} {a b : Addr} {j : List Str} {ks : List (Addr × List Str)} (I : Inv X pins σ H s) (ha : Rd H a (.tup (j.map V.str))) (hb : SqL X.K H b (ks.map fun k => V.ref k.1)) (each : ∀ k ∈ ks, Rd H k.1 (.tup (k.2.map V.str))) :
    ∃ items : Array Value, s.heap.IsList b items ∧ (∀ y, y ∈ items → EqAt X.A.in1 s y (.ref a) (isAt ks j y)) ∧ items.any (isAt ks j) = decide (j ∈ ks.map (·.2)) := by
  obtain ⟨its, rv, pl, _⟩ := I.list hb
  have eits := vals_refsP_inv ks rv
  subst eits
  obtain ⟨its2, r2, ⟨o2, h2, c2, n2, d2⟩, _⟩ := I.tuple (show SqT X.K H a (j.map V.str) from .inl ha)
  refine ⟨_, pl.isList, fun y m => ?_, ?_⟩
  · obtain ⟨k, mk, rfl⟩ := List.mem_map.mp (show y ∈ ks.map fun p => Value.ref p.1 from List.mem_toArray.mp m)
    obtain ⟨its1, r1, ⟨o1, h1, c1, n1, d1⟩, _⟩ := I.tuple (show SqT X.K H k.1 (k.2.map V.str) from .inl (each k mk))
    have z := eqAt_alike (.tuple (k.2.map PyData.str)) (.tuple (j.map PyData.str)) X.A.in1 s (.ref k.1) (.ref a) _ _ (Reads.tuple h1 c1 d1 (by simpa using reads_txt r1)) (Reads.tuple h2 c2 d2 (by simpa using reads_txt r2)) (by rw [alike]; exact alike_txt k.2 j) (by
      show X.A.units + 1 + min (PyData.depthAll (k.2.map PyData.str) + 1) (PyData.depthAll (j.map PyData.str) + 1) < cLine
      rw [flat_txt, flat_txt]
      omega)
    have e1 : PyData.eqv (.tuple (k.2.map PyData.str)) (.tuple (j.map PyData.str)) = isAt ks j (.ref k.1) := by
      show PyData.eqvAll _ _ = _
      rw [eqv_txt]
      by_cases c : k.2 = j
      · rw [decide_eq_true c]
        exact (List.any_eq_true.mpr ⟨k, mk, by simp [c]⟩).symm
      · rw [decide_eq_false c]
        refine (Bool.eq_false_iff.mpr fun t => ?_).symm
        obtain ⟨k', mk', t'⟩ := List.any_eq_true.mp t
        obtain ⟨t1, t2⟩ := Bool.and_eq_true_iff.mp t'
        have ea : k.1 = k'.1 := by simpa using t1
        have e3 := each k' mk'
        rw [← ea] at e3
        exact c ((strs_inj (rd_inj (each k mk) e3)).trans (of_decide_eq_true t2))
    rw [← e1]
    exact z
  · by_cases c : j ∈ ks.map (·.2)
    · rw [decide_eq_true c]
      obtain ⟨k, mk, e⟩ := List.mem_map.mp c
      rw [← Array.any_toList]
      exact List.any_eq_true.mpr ⟨.ref k.1, List.mem_map.mpr ⟨k, mk, rfl⟩, List.any_eq_true.mpr ⟨k, mk, by simp [e]⟩⟩
    · rw [decide_eq_false c, ← Array.any_toList]
      refine Bool.eq_false_iff.mpr fun t => ?_
      obtain ⟨v, _, t'⟩ := List.any_eq_true.mp t
      obtain ⟨k, mk, t2⟩ := List.any_eq_true.mp t'
      exact c (List.mem_map.mpr ⟨k, mk, of_decide_eq_true (Bool.and_eq_true_iff.mp t2).2⟩)
theorem op_inXL (hu : X.A.units + 64 < cLine) : OpR X (compareOp .In) (rInXL X.K false) := by
  intro pins s σ H x y v u Q I rx ry h
  obtain ⟨a, b, j, ks, rfl, rfl, ha, hb, each, q⟩ := h
  cases rx
  cases ry
  obtain ⟨items, e1, e2, e3⟩ := inXL_run hu I ha hb each
  exact in_listAt (isAt ks j) e1 e2 ⟨.bl _, H, I, rfl, by rw [e3]; exact q⟩
theorem op_notInXL (hu : X.A.units + 64 < cLine) : OpR X (compareOp .NotIn) (rInXL X.K true) := by
  intro pins s σ H x y v u Q I rx ry h
  obtain ⟨a, b, j, ks, rfl, rfl, ha, hb, each, q⟩ := h
  cases rx
  cases ry
  obtain ⟨items, e1, e2, e3⟩ := inXL_run hu I ha hb each
  exact notIn_listAt (isAt ks j) e1 e2 ⟨.bl _, H, I, rfl, by rw [e3]; exact q⟩
theorem op_inXLk {K : PySem.W.Frag} (h : X.K = K) (hu : X.A.units + 64 < cLine) : OpR X (compareOp .In) (rInXL K false) := h ▸ op_inXL hu
theorem op_notInXLk {K : PySem.W.Frag} (h : X.K = K) (hu : X.A.units + 64 < cLine) : OpR X (compareOp .NotIn) (rInXL K true) := h ▸ op_notInXL hu
end
end Fw

/-! The law: one web, step by step. -/
namespace Lx
open PySem PySem.Spec PyProof.Rows L2 Fw LamX
abbrev nOR : List Str := ["_law_dice_here", "_law_plain_here", "_law_web", "_law_places", "_law_ties", "_law_a", "_law_b", "_law_tie_here", "_law_due", "_law_one", "_law_moved", "_law_left", "_law_fresh", "_law_place", "_law_gone"]
theorem scOne : FnScope nOR ["_law_dice_here", "_law_plain_here", "_law_web"] (defScope (top 56)) := ⟨rfl, rfl, rfl, by decide +kernel, rfl, by decide +kernel, by decide +kernel⟩
def stmtAt (l : List Stmt) (i : Nat) : Stmt := l.getD i (.Pass ⟨0, 0, 0, 0⟩)
theorem ps_weak {X : Cx} {st : Stmt} {t t' : TS} (h : PS X st t) (m : ∀ D σ H, t' D σ H → t D σ H) : PS X st t' := ⟨fun pins s σ H D I q => h.run pins s σ H D I (m _ _ _ q)⟩
/-- the slots -/
abbrev slO (p d x : Addr) (u3 u4 u5 u6 u7 u8 u9 u10 u11 u12 u13 u14 : Option V) : L2.St := [some (.ref p), some (.ref d), some (.ref x), u3, u4, u5, u6, u7, u8, u9, u10, u11, u12, u13, u14]
section
variable {P : Program} {w : World} {K : PySem.W.Frag} {mg : Str → Option Value} {base : Heap} {f c : Addr} {A : Around} {fr : List Env} {s : Shared} {H0 : Hp} {E : XK}
abbrev XO (P : Program) (w : World) (K : PySem.W.Frag) (mg : Str → Option Value) (base : Heap) (f c : Addr) (A : Around) (fr : List Env) (s : Shared) (H0 : Hp) (E : XK) : Cx := cxOf CX0 P w K mg base nOR "_law_one_right" (defScope (top 56)) f (.ref c) A fr s H0 E
/-- what stands throughout -/
structure OI (Ts : List (Addr × Str)) (C p d x t a l1 l2 : Addr) (ns : List Str) (ks : List (Addr × List Str)) (H : Hp) : Prop where
  dice : DiceAt H p
  tabs : Tabs Ts H
  dr : Drawn ns (ks.map (·.2))
  at_d : H d = some (.dK [(Sum.inr "places", .ref l1), (Sum.inr "ties", .ref l2)])
  at1 : H l1 = some (.lst (ns.map V.str))
  at2 : H l2 = some (.lst (ks.map fun k => V.ref k.1))
  each : Each H ks
  web : WebAt C H x t a ns ks
  apart : Apart H x p
theorem OI.but {Ts : List (Addr × Str)} {C p d x t a l1 l2 : Addr} {ns : List Str} {ks : List (Addr × List Str)} {H H' : Hp} (o : OI Ts C p d x t a l1 l2 ns ks H) (B : ButT p H H') (dd : DiceAt H' p) (tt : Tabs Ts H') : OI Ts C p d x t a l1 l2 ns ks H' := by
  obtain ⟨w1, w2⟩ := web_stays o.dice B o.apart o.web
  exact ⟨dd, tt, o.dr, stays o.dice B o.at_d, stays o.dice B o.at1 (strs_ne ns), stays o.dice B o.at2 (refs_ne ks), each_stays o.dice B o.each, w1, w2⟩
theorem OI.same {Ts : List (Addr × Str)} {C p d x t a l1 l2 : Addr} {ns : List Str} {ks : List (Addr × List Str)} {H H' : Hp} (o : OI Ts C p d x t a l1 l2 ns ks H) (S : Same H H') : OI Ts C p d x t a l1 l2 ns ks H' :=
  o.but (.same S) (o.dice.same S) (o.tabs.ext fun b o e => S b o e)
theorem OI.plain {Ts : List (Addr × Str)} {C p d x t a l1 l2 : Addr} {ns : List Str} {ks : List (Addr × List Str)} {H : Hp} (o : OI Ts C p d x t a l1 l2 ns ks H) : PlainAt H d ns ks := ⟨⟨l1, l2, o.at_d, o.at1, o.at2⟩, o.each⟩
abbrev hO (A : Around) (s : Shared) (f c : Addr) : Prop := Room 15 (A.deeper (envOfC "_law_one_right" (defScope (top 56)) s.heap.objs.size f (.ref c)))
def t0 : TS := fun D σ H => ∃ (p d x l1 l2 : Addr), σ = slO p d x none none none none none none none none none none none none ∧ H d = some (.dK [(Sum.inr "places", .ref l1), (Sum.inr "ties", .ref l2)]) ∧ D.nx (slO p d x (some (.ref l1)) (some (.ref l2)) none none none none none none none none none none) H
theorem one0 (hr : hO A s f c) : PS (XO P w K mg base f c A fr s H0 E) (stmtAt (defBody (top 56)) 0) t0 := by
  have hu := hr.units
  have hu1 := Nat.lt_of_le_of_lt (Nat.add_le_add_left (show 1 ≤ 64 by decide) _) hu
  refine ps_weak (ps_par (i := 3) (j := 4) (by rfl) scOne.nd rfl rfl (by decide) rfl rfl (pa_cons (pe_dget (by exact hu1) (pv 1) pe_str (fun _ _ => rfl)) (pa_cons (pe_dget (by exact hu1) (pv 1) pe_str (fun _ _ => rfl)) pa_nil)) (by rfl)) ?_
  rintro D σ H ⟨p, d, x, l1, l2, rfl, e, q⟩
  exact ⟨_, rfl, d, _, rfl, DGet.k (k := Sum.inr "places") e, _, rfl, d, _, rfl, DGet.k (k := Sum.inr "ties") e, _, _, rfl, q⟩
def t1 (K : PySem.W.Frag) : TS := fun D σ H => ∃ (p d x l1 l2 : Addr) (ns : List Str), σ = slO p d x (some (.ref l1)) (some (.ref l2)) none none none none none none none none none none ∧ DiceAt H p ∧ H l1 = some (.lst (ns.map V.str)) ∧ 0 < ns.length ∧ ns.length ≤ 1000 ∧
  ∀ H' u v, u ∈ ns → v ∈ ns → But p H H' → DiceAt H' p → D.nx (slO p d x (some (.ref l1)) (some (.ref l2)) (some (.str u)) (some (.str v)) none none none none none none none none) H'
theorem one1 (T : TX K mg) (hG : A.guards = some []) (hr : hO A s f c) : PS (XO P w K mg base f c A fr s H0 E) (stmtAt (defBody (top 56)) 1) (t1 K) := by
  have GK : FnG P w K mg base CX0 2 T.f__law_pick T.d__law_pick ["_law_dice_here", "_law_items"] (spPick K) := T.q_pick
  refine ps_weak (ps_asg (g := gTup K 2 (gCons (gName 5) (gCons (gName 6) gNil))) (pe_tup (pa_cons (pe_callG (E := fun _ _ _ _ => False) hG GK (hr.mono (by decide)) (by rfl) T.m__law_pick T.F__law_pick.kp T.b__law_pick .nil (fun _ => passAt0) (pa_cons (pv 0) (pa_cons (pv 3) pa_nil)))
    (pa_cons (pe_callG (E := fun _ _ _ _ => False) hG GK (hr.mono (by decide)) (by rfl) T.m__law_pick T.F__law_pick.kp T.b__law_pick .nil (fun _ => passAt0) (pa_cons (pv 0) (pa_cons (pv 3) pa_nil))) pa_nil))) (pg_tup rfl (pgs_cons (pg_name (i := 5) scOne.nd rfl (Or.inr rfl)) (pgs_cons (pg_name (i := 6) scOne.nd rfl (Or.inr rfl)) pgs_nil))) (by rfl) (by rfl)) ?_
  rintro D σ H ⟨p, d, x, l1, l2, ns, rfl, hd, h1, pos, few, q⟩
  have nl : l1 ≠ p := fun z => by
    obtain ⟨a1, a2, a3, e⟩ := hd
    rw [z, e] at h1
    exact strs_ne ns _ _ _ (Option.some.inj h1).symm
  have got : ∀ {r : Nat} {y : V}, (ns.map V.str)[r]? = some y → ∃ u ∈ ns, y = .str u := fun {r y} e => by
    obtain ⟨u, m, e2⟩ := List.mem_map.mp (List.mem_of_getElem? e)
    exact ⟨u, m, e2.symm⟩
  refine ⟨_, rfl, _, rfl, p, l1, _, rfl, hd, SqL.of h1, nl.symm, by rw [List.length_map]; exact pos, by rw [List.length_map]; omega, fun r y H1 ey b1 d1 => ?_⟩
  obtain ⟨u, mu, rfl⟩ := got ey
  refine ⟨_, rfl, _, rfl, p, l1, _, rfl, d1, SqL.of (b1 _ _ nl h1), nl.symm, by rw [List.length_map]; exact pos, by rw [List.length_map]; omega, fun r' y H2 ey' b2 d2 => ?_⟩
  obtain ⟨v, mv, rfl⟩ := got ey'
  refine ⟨by show 2 ≤ sizeLine; decide, fun T' nT => ?_⟩
  have s3 := same_upd (o := .tup [V.str u, V.str v]) nT
  exact ⟨T', _, rfl, SqT.of upd_same, rfl, _, _, rfl, _, _, rfl, rfl, q _ u v mu mv ((b1.trans b2).trans (But.same s3)) (d2.same s3)⟩
def t2 : TS := fun D σ H => ∃ (p d x : Addr) (u v : Str) (l1 l2 : Option V), σ = slO p d x l1 l2 (some (.str u)) (some (.str v)) none none none none none none none none ∧ ∀ H' tt, Same H H' → Rd H' tt (.tup ((pairT u v).map V.str)) → D.nx (slO p d x l1 l2 (some (.str u)) (some (.str v)) (some (.ref tt)) none none none none none none none) H'
theorem one2 (T : TX K mg) (hG : A.guards = some []) (hr : hO A s f c) : PS (XO P w K mg base f c A fr s H0 E) (stmtAt (defBody (top 56)) 2) t2 := by
  have GT : FnG P w K mg base CX0 1 T.f__law_tie T.d__law_tie ["_law_a", "_law_b"] spPair := T.q_ltie
  refine ps_weak (ps_set (i := 7) scOne.nd rfl (Or.inr rfl) (pe_callG (E := fun _ _ _ _ => False) hG GT (hr.mono (by decide)) (by rfl) T.m__law_tie T.F__law_tie.kp T.b__law_tie .nil (fun _ => passAt0) (pa_cons (pv 5) (pa_cons (pv 6) pa_nil)))) ?_
  rintro D σ H ⟨p, d, x, u, v, l1, l2, rfl, q⟩
  exact ⟨_, rfl, _, rfl, u, v, rfl, fun tt ntt => q _ tt (same_upd ntt) (.inl upd_same)⟩
/-- the word or the web that is due where a tie is put in -/
def RWith (ns : List Str) (ts : List (List Str)) (u v : Str) (r : Str ⊕ (List Str × List (List Str))) : Prop :=
  ((decide (u = v) || decide (pairT u v ∈ ts)) = true ∧ r = .inl ("tie" : Str)) ∨ ((decide (u = v) || decide (pairT u v ∈ ts)) = false ∧ ∃ ts', AscT ts' ∧ (∀ z, z ∈ ts' ↔ z ∈ ts ++ [pairT u v]) ∧ r = .inr (ns, ts'))
def t3 (Ts : List (Addr × Str)) (C : Addr) : TS := fun D σ H => ∃ (p d x t a l1 l2 tt : Addr) (ns : List Str) (ks : List (Addr × List Str)) (u v : Str), σ = slO p d x (some (.ref l1)) (some (.ref l2)) (some (.str u)) (some (.str v)) (some (.ref tt)) none none none none none none none ∧
  OI Ts C p d x t a l1 l2 ns ks H ∧ Rd H tt (.tup ((pairT u v).map V.str)) ∧ u ∈ ns ∧ v ∈ ns ∧
  ∀ H' y r, Same H H' → ToldR H' y r → RWith ns (ks.map (·.2)) u v r → D.nx (slO p d x (some (.ref l1)) (some (.ref l2)) (some (.str u)) (some (.str v)) (some (.ref tt)) (some y) none none none none none none) H'
theorem Drawn.plainOk {ns : List Str} {ks : List (Addr × List Str)} (d : Drawn ns (ks.map (·.2))) : (∀ k ∈ ks, ∃ x y, k.2 = [x, y]) ∧ (∀ k ∈ ks, ∀ z ∈ k.2, z ∈ ns) ∧ (∀ k ∈ ks, asTie k.2 = k.2) ∧ (∀ k ∈ ks, k.2 ≠ []) := by
  have two : ∀ k ∈ ks, ∃ x y, k.2 = [x, y] ∧ x ∈ ns ∧ y ∈ ns ∧ ltS x y = true := fun k m => d.two k.2 (List.mem_map_of_mem m)
  refine ⟨fun k m => ?_, fun k m z mz => ?_, fun k m => ?_, fun k m e => ?_⟩
  · obtain ⟨x, y, e, _⟩ := two k m
    exact ⟨x, y, e⟩
  · obtain ⟨x, y, e, mx, my, _⟩ := two k m
    rw [e] at mz
    rcases (show z = x ∨ z = y by simpa using mz) with q | q <;> rw [q] <;> assumption
  · obtain ⟨x, y, e, _, _, l⟩ := two k m
    rw [e]
    exact asTie_lt l
  · obtain ⟨x, y, e', _⟩ := two k m
    rw [e] at e'
    cases e'
theorem pairT_two (u v : Str) : ∃ x y, pairT u v = [x, y] ∧ ((x = u ∧ y = v) ∨ (x = v ∧ y = u)) := by
  unfold pairT
  split
  · exact ⟨u, v, rfl, .inl ⟨rfl, rfl⟩⟩
  · exact ⟨v, u, rfl, .inr ⟨rfl, rfl⟩⟩
theorem asTie_pair {u v : Str} (n : u ≠ v) : asTie (pairT u v) = pairT u v := by
  unfold pairT
  cases c : ltS u v with
  | true =>
    rw [if_pos rfl]
    exact asTie_lt c
  | false =>
    rw [if_neg (by decide)]
    exact asTie_lt (ltS_or n c)
/-- a plain web of these, told -/
theorem plain_gives {H : Hp} {Q : VK} {E' : XK} {p r : Addr} {ns0 ns : List Str} {ks : List (Addr × List Str)} (asc : AscN ns) (mn : ∀ z, z ∈ ns ↔ z ∈ ns0 ∨ ∃ k ∈ ks, z ∈ k.2) (sm : ∀ z ∈ ns, z.length ≤ 1000) (hp : SqL K H p (ns0.map V.str)) (hq : SqL K H r (ks.map fun k => V.ref k.1)) (each : Each H ks)
    (two : ∀ k ∈ ks, ∃ x y, k.2 = [x, y]) (few : ns.length ≤ 60) (few0 : ns0.length ≤ 100) (fewT : ks.length ≤ 62)
    (q : ∀ H' y ts', Same H H' → AscT ts' → (∀ z, z ∈ ts' ↔ ∃ k ∈ ks, z = asTie k.2) → ToldR H' y (.inr (ns, ts')) → Q y H') : spPlain K [.ref p, .ref r] H Q E' := by
  refine ⟨p, r, ns0, ns, ks, rfl, hp, hq, each, two, few, fun z m => (mn z).mpr (.inl m), fun k m z mz => (mn z).mpr (.inr ⟨k, m, mz⟩), sm, few0, fewT, fun H' d ns' ks' s' nd' as mn' at' mt ne' pl => ?_⟩
  have en : ns' = ns := as.same asc fun z => (mn' z).trans (by
    rw [mn z, List.mem_append, List.mem_flatMap])
  rw [en] at pl
  exact q H' _ (ks'.map (·.2)) s' at' (fun z => (mt z).trans (by
    rw [List.mem_map]
    exact ⟨fun ⟨k, m, e⟩ => ⟨k, m, e.symm⟩, fun ⟨k, m, e⟩ => ⟨k, m, e.symm⟩⟩)) (.web pl)
theorem one3 {Ts : List (Addr × Str)} (T : TX K mg) (hG : A.guards = some []) (hr : hO A s f c) : PS (XO P w K mg base f c A fr s H0 E) (stmtAt (defBody (top 56)) 3) (t3 Ts T.C_Web) := by
  have hu := hr.units
  have GL : FnG P w K mg base CX0 2 T.f__law_plain T.d__law_plain ["_law_places", "_law_ties"] (spPlain K) := T.q_plain
  refine ps_weak (ps_set (i := 8) scOne.nd rfl (Or.inl rfl) (pe_ifExp (PW.pt (pw_or (pt_cmpR op_eq (pv 5) (pv 6) (nomark _)) (pw_or1 (pt_cmpR (op_inXLk (K := K) rfl (by exact hu)) (pv 7) (pv 4) (by rfl))))) pe_str
    (pe_callG (E := fun _ _ _ _ => False) hG GL (hr.mono (by decide)) (by rfl) T.m__law_plain T.F__law_plain.kp T.b__law_plain .nil (fun _ => passAt0) (pa_cons (pv 3) (pa_cons (pe_op op_cat (pv 4) (pe_lst (pa_cons (pv 7) pa_nil))) pa_nil))))) ?_
  rintro D σ H ⟨p, d, x, t, a, l1, l2, tt, ns, ks, u, v, rfl, o, rt, mu, mv, q⟩
  obtain ⟨two, inn, tie, _⟩ := o.dr.plainOk
  have sm : ∀ z ∈ ns, z.length ≤ 1000 := fun z m => pool_short (o.dr.pool z m)
  refine ⟨_, rfl, _, rfl, rfl, _, rfl, ?_⟩
  by_cases cuv : u = v
  · subst cuv
    rw [if_pos (decide_eq_true rfl)]
    exact q H _ _ (fun _ _ e => e) (.word _) (.inl ⟨by simp, rfl⟩)
  · dsimp only
    rw [if_neg (by simp [cuv])]
    refine ⟨_, rfl, _, rfl, tt, l2, pairT u v, ks, rfl, rfl, rt, SqL.of o.at2, fun k m => (o.each k m).1, _, rfl, ?_⟩
    dsimp only
    by_cases ct : pairT u v ∈ ks.map (·.2)
    · rw [if_pos (by simp [ct])]
      exact q H _ _ (fun _ _ e => e) (.word _) (.inl ⟨by rw [decide_eq_true ct, Bool.or_true], rfl⟩)
    · rw [if_neg (by simp [ct])]
      refine ⟨_, rfl, _, rfl, _, rfl, by show 1 ≤ sizeLine; decide, fun c nc => ?_⟩
      have s1 := same_upd (o := .lst [V.ref tt]) nc
      have hc : (upd H c (.lst [V.ref tt])) c = some (.lst [V.ref tt]) := upd_same
      generalize upd H c (.lst [V.ref tt]) = H1 at s1 hc ⊢
      have lk := o.dr.len
      rw [List.length_map] at lk
      refine ⟨l2, c, _, _, rfl, rfl, s1 _ _ o.at2, hc, by rw [List.length_map, sizeLine_eq]; simp; omega, fun e ne => ?_⟩
      have s2 := same_upd (o := .lst ((ks.map fun k => V.ref k.1) ++ [V.ref tt])) ne
      have he : (upd H1 e (.lst ((ks.map fun k => V.ref k.1) ++ [V.ref tt]))) e = some (.lst ((ks ++ [(tt, pairT u v)]).map fun k => V.ref k.1)) := by
        rw [upd_same, List.map_append]
        rfl
      generalize upd H1 e (.lst ((ks.map fun k => V.ref k.1) ++ [V.ref tt])) = H2 at s2 he ⊢
      have S2 := same_trans s1 s2
      have o2 := o.same S2
      obtain ⟨px, py, ep, hxy⟩ := pairT_two u v
      dsimp only [tNil, List.cons_append, List.nil_append]
      refine plain_gives (ns := ns) o.dr.asc (fun z => ⟨.inl, ?_⟩) sm (SqL.of o2.at1) (SqL.of he) ?_ ?_ (by have := o.dr.few; omega) (by have := o.dr.few; omega) (by rw [List.length_append]; simp; omega) fun H' y ts' s' at' mt told => ?_
      · rintro (m | ⟨k, m, mz⟩)
        · exact m
        · rcases List.mem_append.mp m with m | m
          · exact inn k m z mz
          · rw [List.mem_singleton.mp m] at mz
            rw [show ((tt, pairT u v) : Addr × List Str).2 = [px, py] from ep] at mz
            rcases hxy with ⟨e1, e2⟩ | ⟨e1, e2⟩ <;> rcases (show z = px ∨ z = py by simpa using mz) with q1 | q1 <;> rw [q1] <;> simp only [e1, e2] <;> assumption
      · intro k m
        rcases List.mem_append.mp m with m | m
        · exact o2.each k m
        · rw [List.mem_singleton.mp m]
          refine ⟨rd_same rt S2, fun z mz => ?_, ?_⟩
          · rw [show ((tt, pairT u v) : Addr × List Str).2 = [px, py] from ep] at mz
            rcases hxy with ⟨e1, e2⟩ | ⟨e1, e2⟩ <;> rcases (show z = px ∨ z = py by simpa using mz) with q1 | q1 <;> rw [q1] <;> simp only [e1, e2] <;> first | exact sm _ mu | exact sm _ mv
          · show (pairT u v).length ≤ 1000
            rw [ep]
            simp
      · intro k m
        rcases List.mem_append.mp m with m | m
        · exact two k m
        · rw [List.mem_singleton.mp m]
          exact ⟨px, py, ep⟩
      · refine q H' y _ (same_trans S2 s') told (.inr ⟨by rw [decide_eq_false cuv, decide_eq_false ct]; rfl, ts', at', fun z => ?_, rfl⟩)
        rw [mt z, List.mem_append, List.mem_singleton]
        constructor
        · rintro ⟨k, m, e⟩
          rcases List.mem_append.mp m with m | m
          · rw [e, tie k m]
            exact .inl (List.mem_map_of_mem m)
          · rw [List.mem_singleton.mp m] at e
            exact .inr (e.trans (asTie_pair cuv))
        · rintro (m | e)
          · obtain ⟨k, mk, ek⟩ := List.mem_map.mp m
            exact ⟨k, List.mem_append_left _ mk, by rw [← ek]; exact (tie k mk).symm⟩
          · exact ⟨(tt, pairT u v), List.mem_append_right _ (by simp), e.trans (asTie_pair cuv).symm⟩
end
end Lx

/-! The law: one web, what lambdas give. -/
namespace Lx
open PySem PySem.Spec PyProof.Rows L2 Fw LamX
section
variable {P : Program} {w : World} {K : PySem.W.Frag} {mg : Str → Option Value} {base : Heap} {f c : Addr} {A : Around} {fr : List Env} {s : Shared} {H0 : Hp} {E : XK}
def qOne : Str := (("_law_one_right" : Str) ++ (".<locals>." : Str)) ++ ("<lambda>" : Str)
/-- where lambdas are made: the tables, this def's among them -/
structure LamT (base : Heap) (mg : Str → Option Value) (c Pt : Addr) (q : Str) (Ts : List (Addr × Str)) : Prop where
  tb : TabB base mg c Pt
  me : (Pt, q) ∈ Ts
  un : ∀ p ∈ Ts, p.1 = Pt → p.2 = q
/-- what a lambda's call is asked for, if it is told -/
def Gives (C CT CW : Addr) (R : Str ⊕ (List Str × List (List Str)) → Prop) (tl : XK → Hp → VK → Prop) (H : Hp) : Prop := ∀ Q : VK, (∀ H' v r, Same H H' → ToldR H' v r → R r → Q v H') → TAsked C CT CW tl H Q
/-- what is due, told -/
def DueR (R : Str ⊕ (List Str × List (List Str)) → Prop) (td : TE) (σ : L2.St) (H : Hp) : Prop := ∀ Q : VK, (∀ H' v r, Same H H' → ToldR H' v r → R r → Q v H') → td σ H Q
def AskR (Ts : List (Addr × Str)) (C CT CW : Addr) (t : XK → TE) (td : TE) (σ : L2.St) (H : Hp) : Prop := ∃ R : Str ⊕ (List Str × List (List Str)) → Prop, (∀ r r', R r → R r' → r = r') ∧ Tabs Ts H ∧ (∀ H1, ExtN H H1 → Gives C CT CW R (fun E H' Q' => t E σ H' Q') H1) ∧ ∀ H2, ExtN H H2 → DueR R td σ H2
/-- if asked(lambda: ..) != due: return False -/
def tIfNe (Ts : List (Addr × Str)) (C CT CW : Addr) (t : XK → TE) (td : TE) : TS := fun D σ H => AskR Ts C CT CW t td σ H ∧ ∀ H', ExtN H H' → Tabs Ts H' → D.nx σ H'
def tRetEq (Ts : List (Addr × Str)) (C CT CW : Addr) (t : XK → TE) (td : TE) : TS := fun D σ H => AskR Ts C CT CW t td σ H ∧ ∀ H', ExtN H H' → Tabs Ts H' → D.rt (.bl true) H'
theorem AskR.go {K : PySem.W.Frag} {Ts : List (Addr × Str)} {C CT CW : Addr} {t : XK → TE} {td : TE} {σ : L2.St} {H : Hp} {Q : V → V → Hp → Prop} (a : AskR Ts C CT CW t td σ H) (q : ∀ x y H', ExtN H H' → Tabs Ts H' → (SameD K H' x y ∨ SameK K H' x y) → Q x y H') :
    tLam Ts (TAsked C CT CW) t σ H fun x H1 => td σ H1 fun y H2 => Q x y H2 := by
  obtain ⟨R, un, tb, gv, du⟩ := a
  refine ⟨tb, fun H1 eN tb1 => gv H1 eN _ fun H2 x r s2 told hr => ?_⟩
  have e2 : ExtN H H2 := eN.trans (extN_of s2)
  refine du H2 e2 _ fun H3 y r' s3 told' hr' => ?_
  obtain rfl := un r r' hr hr'
  exact q x y H3 (e2.trans (extN_of s3)) ((tb1.ext fun b o e => s2 b o e).ext fun b o e => s3 b o e) (told_same (told.same s3) told')
theorem ifNe {X : Cx} {e due : Expr} {Ts : List (Addr × Str)} {C CT CW : Addr} {t : XK → TE} {td : TE} {body : List Stmt} {tb : TS} {pos pos' : Pos} (hu : X.A.units + 64 < cLine) (he : PE X e (tLam Ts (TAsked C CT CW) t)) (hd : PE X due td) (hb : PSs X body tb) :
    PS X (.If (.Compare e [.NotEq] [due] pos) body [] pos') (tIfNe Ts C CT CW t td) := by
  refine ps_weak (ps_if (pt_cmpR (op_neM hu) he hd (nomark _)) hb pss_nil) ?_
  rintro D σ H ⟨a, q⟩
  refine a.go (K := X.K) (Q := fun x y H2 => rNeM X.K x y H2 fun x H' => ∃ k, x = .bl k ∧ (if k = true then tb D σ H' else tNext D σ H')) fun x y H' eN tb' same => ?_
  exact ⟨same, false, rfl, q H' eN tb'⟩
theorem retEq {X : Cx} {e due : Expr} {Ts : List (Addr × Str)} {C CT CW : Addr} {t : XK → TE} {td : TE} {pos pos' : Pos} (hu : X.A.units + 64 < cLine) (he : PE X e (tLam Ts (TAsked C CT CW) t)) (hd : PE X due td) :
    PS X (.Return (some (.Compare e [.Eq] [due] pos)) pos') (tRetEq Ts C CT CW t td) := by
  refine ps_weak (ps_ret (pe_cmpR (op_eqM hu) he hd (nomark _))) ?_
  rintro D σ H ⟨a, q⟩
  refine a.go (K := X.K) (Q := fun x y H2 => rEqM X.K x y H2 fun x H' => D.rt x H') fun x y H' eN tb' same => ?_
  exact ⟨same, q H' eN tb'⟩
/-- asked(lambda: ..) in this def -/
theorem askOne {Ts : List (Addr × Str)} {Pt : Addr} {params : Arguments} {body : Expr} {scope : Scope} {t : XK → TE} {p lpos pos : Pos} (T : TX K mg) (L : LamT base mg c Pt qOne Ts) (hr : hO A s f c) (hl : LamS (defScope (top 56)) scope) (hdef : defaultsOf params (XO P w K mg base f c A fr s H0 E).env = ([], []))
    (hbind : ∀ (q : Str) (cl : List (Str × Addr)) (pm cv ctv : Value), bindArgs (PySem.W.kla_fn "<lambda>" q params body scope cl pm cv ctv) ⟨[], []⟩ = pure [])
    (hbody : ∀ (A' : Around) (outer : List Env) (s' : Shared) (H : Hp) (E' : XK) (f' c' : Addr), Room 11 (A'.deeper (lamEnv (XO P w K mg base f c A fr s H0 E) scope s'.heap.objs.size f' c')) → PE (lamCx (XO P w K mg base f c A fr s H0 E) A' outer s' H E' scope f' c') body (t E')) :
    PE (XO P w K mg base f c A fr s H0 E) (.Call (.Name "_law_asked" p) [.Lambda params body scope lpos] [] pos) (tLam Ts (TAsked T.C_Web T.C_InvalidTie T.C_InvalidWeb) t) := by
  obtain ⟨oc, od, kV, doc, pm, an, cdv, ct, osl, efd, lk, hcd⟩ := T.F__law_asked.ex
  have bA := T.b__law_asked
  rw [efd] at lk bA
  exact pe_lamcall (by rfl) T.m__law_asked T.F__law_asked.kp lk hcd bA scAsked rfl (Or.inl rfl) (asked_gives (X := XO P w K mg base f c A fr s H0 E) (k := 11) T hr) L.tb rfl L.me L.un (k := 11) (hr.mono (by decide)) hl hdef hbind hbody
end
end Lx

/-! The law: one web, ties put in and taken out. -/
namespace Lx
open PySem PySem.Spec PyProof.Rows L2 Fw LamX
theorem op_nePk {X : Cx} {K : PySem.W.Frag} (h : X.K = K) (hu : X.A.units + 64 < cLine) : OpR X (compareOp .NotEq) (rNeP K) := h ▸ op_neP hu
theorem keep_refl {H : Hp} : Same H H := fun _ _ e => e
/-- a display of places and ties -/
theorem plain_disp {H H8 : Hp} {d l1 l2 : Addr} {ns : List Str} {ks : List (Addr × List Str)} (nd : H d = none) (S : Same (upd H d (.dK [])) H8) (h1 : H8 l1 = some (.lst (ns.map V.str))) (h2 : H8 l2 = some (.lst (ks.map fun k => V.ref k.1))) (each : Each H8 ks) :
    H8 d = some (.dK []) ∧ Same H (upd H8 d (.dK [(Sum.inr "places", .ref l1), (Sum.inr "ties", .ref l2)])) ∧ PlainAt (upd H8 d (.dK [(Sum.inr "places", .ref l1), (Sum.inr "ties", .ref l2)])) d ns ks := by
  have hd8 : H8 d = some (.dK []) := S _ _ upd_same
  have S0 := same_trans (same_upd (o := .dK []) nd) S
  have keep : ∀ b o, b ≠ d → H8 b = some o → (upd H8 d (.dK [(Sum.inr "places", V.ref l1), (Sum.inr "ties", V.ref l2)])) b = some o := fun b o n e => by
    rw [upd_ne n]
    exact e
  have rdk : ∀ {b : Addr} {xs : List V}, Rd H8 b (.tup xs) → Rd (upd H8 d (.dK [(Sum.inr "places", V.ref l1), (Sum.inr "ties", V.ref l2)])) b (.tup xs) := fun {b xs} h => by
    rcases h with h | ⟨o, h⟩
    · exact .inl (keep b _ (fun z => by rw [z, hd8] at h; cases h) h)
    · exact .inr ⟨o, keep b _ (fun z => by rw [z, hd8] at h; cases h) h⟩
  exact ⟨hd8, fun b o e => keep b o (ne_of_none e nd) (S0 _ _ e), ⟨l1, l2, upd_same, keep _ _ (fun z => by rw [z, hd8] at h1; cases h1) h1, keep _ _ (fun z => by rw [z, hd8] at h2; cases h2) h2⟩, fun k m => ⟨rdk (each k m).1, (each k m).2⟩⟩
/-- what stands once the places and their tie are drawn -/
structure OS (Ts : List (Addr × Str)) (C p d x t a l1 l2 tt : Addr) (ns : List Str) (ks : List (Addr × List Str)) (u v : Str) (H : Hp) : Prop where
  oi : OI Ts C p d x t a l1 l2 ns ks H
  rt : Rd H tt (.tup ((pairT u v).map V.str))
  mu : u ∈ ns
  mv : v ∈ ns
section
variable {Ts : List (Addr × Str)} {C p d x t a l1 l2 tt : Addr} {ns : List Str} {ks : List (Addr × List Str)} {u v : Str} {H H' : Hp}
theorem OS.but (o : OS Ts C p d x t a l1 l2 tt ns ks u v H) (B : ButT p H H') (dd : DiceAt H' p) (tb : Tabs Ts H') : OS Ts C p d x t a l1 l2 tt ns ks u v H' := ⟨o.oi.but B dd tb, rd_stays o.oi.dice B o.rt, o.mu, o.mv⟩
theorem OS.same (o : OS Ts C p d x t a l1 l2 tt ns ks u v H) (S : Same H H') : OS Ts C p d x t a l1 l2 tt ns ks u v H' := ⟨o.oi.same S, rd_same o.rt S, o.mu, o.mv⟩
theorem OS.ext (o : OS Ts C p d x t a l1 l2 tt ns ks u v H) (S : ExtN H H') (tb : Tabs Ts H') : OS Ts C p d x t a l1 l2 tt ns ks u v H' := o.but (.ext S) (dice_ext o.oi.dice S) tb
theorem OI.webE (o : OI Ts C p d x t a l1 l2 ns ks H) (S : ExtN H H') : WebAt C H' x t a ns ks := (web_stays o.dice (.ext S) o.apart o.web).1
end
abbrev slS (p d x l1 l2 : Addr) (u v : Str) (tt : Addr) (y u9 u10 u11 u12 u13 u14 : Option V) : L2.St := slO p d x (some (.ref l1)) (some (.ref l2)) (some (.str u)) (some (.str v)) (some (.ref tt)) y u9 u10 u11 u12 u13 u14
section
variable {P : Program} {w : World} {K : PySem.W.Frag} {mg : Str → Option Value} {base : Heap} {f c : Addr} {A : Around} {fr : List Env} {s : Shared} {H0 : Hp} {E : XK}
/-- .. compared: the due word or web stands in slot 8 -/
def t46 (Ts : List (Addr × Str)) (C : Addr) (R : List Str → List (List Str) → Str → Str → Str ⊕ (List Str × List (List Str)) → Prop) : TS := fun D σ H => ∃ (p d x t a l1 l2 tt : Addr) (ns : List Str) (ks : List (Addr × List Str)) (u v : Str) (y : V) (r : Str ⊕ (List Str × List (List Str))) (u9 u10 u11 u12 u13 u14 : Option V),
  σ = slS p d x l1 l2 u v tt (some y) u9 u10 u11 u12 u13 u14 ∧ OS Ts C p d x t a l1 l2 tt ns ks u v H ∧ ToldR H y r ∧ R ns (ks.map (·.2)) u v r ∧ ∀ H', ExtN H H' → Tabs Ts H' → D.nx σ H'
theorem rwith_un {ns : List Str} {ts : List (List Str)} {u v : Str} {r r' : Str ⊕ (List Str × List (List Str))} (h : RWith ns ts u v r) (h' : RWith ns ts u v r') : r = r' := by
  rcases h with ⟨c, e⟩ | ⟨c, t1, a1, m1, e⟩ <;> rcases h' with ⟨c', e'⟩ | ⟨c', t2, a2, m2, e'⟩
  · rw [e, e']
  · rw [c] at c'; cases c'
  · rw [c] at c'; cases c'
  · rw [e, e', a1.same a2 fun z => (m1 z).trans (m2 z).symm]
theorem one4 {Ts : List (Addr × Str)} {Pt : Addr} (T : TX K mg) (L : LamT base mg c Pt qOne Ts) (hr : hO A s f c) : PS (XO P w K mg base f c A fr s H0 E) (stmtAt (defBody (top 56)) 4) (t46 Ts T.C_Web RWith) := by
  have hu := hr.units
  have GW : FnOk P w K mg base (L2.CX P w) 10 T.f_Web_with_tie T.d_Web_with_tie ["self", "a", "b"] (spWith T.C_Web T.C_InvalidWeb T.C_InvalidTie) := (T.q_with (gg := false)).ok
  refine ps_weak (ifNe (by exact hu) (askOne T L hr (lamS_by (by show lamSB (defScope (top 56)) _ = true; decide +kernel)) (by rfl) (by intros; rfl)
    (fun A' outer s' H E' f' c' hr2 => pe_meth (E := E') (pv 2) T.cl_Web T.M_Web_with_tie GW (hr2.mono (by decide)) T.b_Web_with_tie .nil (passes_call (takes_of rfl rfl rfl rfl) fun _ _ _ _ h => h) (pa_cons (pv 5) (pa_cons (pv 6) pa_nil)))) (pv 8) (pss_one (ps_ret pe_bl))) ?_
  rintro D σ H ⟨p, d, x, t, a, l1, l2, tt, ns, ks, u, v, y, r, u9, u10, u11, u12, u13, u14, rfl, o, told, rw, q⟩
  refine ⟨⟨RWith ns (ks.map (·.2)) u v, fun _ _ => rwith_un, o.oi.tabs, fun H1 eN Q hQ => ?_, fun H2 e2 Q hQ => ⟨y, rfl, hQ H2 y r keep_refl (told.ext e2) rw⟩⟩, q⟩
  have W1 := o.oi.webE eN
  obtain ⟨dx, D1, e1, _, _⟩ := W1.ins
  have lk := o.oi.dr.len
  have ln := o.oi.dr.few
  rw [List.length_map] at lk
  refine ⟨_, rfl, x, dx, _, rfl, e1, rfl, _, rfl, _, rfl, x, t, a, ns, ks, u, v, rfl, W1, o.mu, o.mv, by omega, by omega, fun cc H' s' => .inl ⟨rfl, hQ H' _ _ s' (.word _) (.inl ⟨by rw [Bool.or_comm]; exact cc, rfl⟩)⟩, fun cc => ?_⟩
  rw [Bool.or_comm] at cc
  have nuv : u ≠ v := fun z => by
    rw [decide_eq_true z] at cc
    cases cc
  refine gath_ok o.oi.dr.asc (fun _ => Iff.rfl) (fun n m => pool_ok n (o.oi.dr.pool n m)) o.oi.dr.ge (by omega) (fun k m => ?_) fun H' x' t' a' ks' asc' mem' s' n' W' => told_web W' rfl fun H'' v' s'' told' => hQ H'' v' _ (same_trans s' s'') told' (.inr ⟨cc, _, asc', mem', rfl⟩)
  rcases List.mem_append.mp m with m | m
  · exact o.oi.dr.sub k m
  · rw [List.mem_singleton.mp m]
    exact pairT_mem o.oi.dr.asc o.mu o.mv nuv
/-- due where a tie is taken out -/
def RWo (ns : List Str) (ts : List (List Str)) (u v : Str) (r : Str ⊕ (List Str × List (List Str))) : Prop :=
  (decide (pairT u v ∈ ts) = false ∧ r = .inl ("tie" : Str)) ∨ (decide (pairT u v ∈ ts) = true ∧ r = .inr (ns, ts.filter fun k => !decide (k = pairT u v)))
theorem rwo_un {ns : List Str} {ts : List (List Str)} {u v : Str} {r r' : Str ⊕ (List Str × List (List Str))} (h : RWo ns ts u v r) (h' : RWo ns ts u v r') : r = r' := by
  rcases h with ⟨c, e⟩ | ⟨c, e⟩ <;> rcases h' with ⟨c', e'⟩ | ⟨c', e'⟩
  · rw [e, e']
  · rw [c] at c'; cases c'
  · rw [c] at c'; cases c'
  · rw [e, e']
def t5 (Ts : List (Addr × Str)) (C : Addr) : TS := fun D σ H => ∃ (p d x t a l1 l2 tt : Addr) (ns : List Str) (ks : List (Addr × List Str)) (u v : Str) (y0 u9 u10 u11 u12 u13 u14 : Option V),
  σ = slS p d x l1 l2 u v tt y0 u9 u10 u11 u12 u13 u14 ∧ OS Ts C p d x t a l1 l2 tt ns ks u v H ∧ ∀ H' y r, Same H H' → ToldR H' y r → RWo ns (ks.map (·.2)) u v r → D.nx (slS p d x l1 l2 u v tt (some y) u9 u10 u11 u12 u13 u14) H'
theorem one5 {Ts : List (Addr × Str)} {C : Addr} (hr : hO A s f c) : PS (XO P w K mg base f c A fr s H0 E) (stmtAt (defBody (top 56)) 5) (t5 Ts C) := by
  have hu := hr.units
  refine ps_weak (ps_set (i := 8) scOne.nd rfl (Or.inl rfl) (pe_ifExp (pt_cmpR (op_inXLk (K := K) rfl (by exact hu)) (pv 7) (pv 4) (by rfl)) (pe_disp (pps_cons pe_str (pv 3) (pps_cons pe_str
      (pe_lc (own := [("_law_one", 9)]) (g := gName 9) (by rfl) scOne.nd (pi_listK (K := K) rfl (pv 4)) (blkOk_by (N := nOR) (sc := defScope (top 56)) (own := [("_law_one", 9)]) (by decide +kernel)) (fun _ _ _ _ _ => pg_name (i := 9) scOne.nd rfl (Or.inl rfl))
        (fun _ _ _ _ _ => pts_one (pt_cmpR (op_nePk (K := K) rfl (by exact hu)) (pv 9) (pv 7) (nomark _))) (fun _ _ _ _ _ => pv 9)) pps_nil)) (by rfl) (by rfl) (fun z => by cases z) (by decide)) pe_str)) ?_
  rintro D σ H ⟨p, d, x, t, a, l1, l2, tt, ns, ks, u, v, y0, u9, u10, u11, u12, u13, u14, rfl, o, q⟩
  obtain ⟨two, inn, tie, ne⟩ := o.oi.dr.plainOk
  have lk := o.oi.dr.len
  rw [List.length_map] at lk
  refine ⟨_, rfl, _, rfl, tt, l2, pairT u v, ks, rfl, rfl, o.rt, SqL.of o.oi.at2, fun k m => (o.oi.each k m).1, _, rfl, ?_⟩
  dsimp only
  by_cases ct : pairT u v ∈ ks.map (·.2)
  · rw [if_pos (by simp [ct])]
    refine fun e ne1 => ?_
    have s1 := same_upd (o := .dK []) ne1
    have hd1 : (upd H e (.dK [])) e = some (.dK []) := upd_same
    have o1 := o.same s1
    generalize hH1 : upd H e (.dK []) = H1 at s1 o1 hd1 ⊢
    refine ⟨_, rfl, _, rfl, l2, rfl, ⟨_, SqL.of o1.oi.at2⟩, fun L nL => ?_⟩
    refine lc_listR (K := K) repT repT (as := ks.map (·.2)) (SqL.of o1.oi.at2) (reps_tups o1.oi.each ne) (fun k => if (!decide (k = pairT u v)) = true then some k else none) nL (by rw [List.length_map]; omega) ?_ ?_
    · rintro i y k Hc C' N ek sc ⟨b, rfl, hb, hs, hl, hn⟩ yes no
      refine ⟨rfl, _, rfl, _, rfl, .tuple (k.map PyData.str), .tuple ((pairT u v).map PyData.str), dpX hb, dpX (rd_same o1.rt sc), plainNs _, plainNs _, by show PyData.depthAll (k.map PyData.str) + 1 ≤ 60; rw [flat_txt]; omega, _, rfl, ?_⟩
      have e1 : PyData.eqv (.tuple (k.map PyData.str)) (.tuple ((pairT u v).map PyData.str)) = decide (k = pairT u v) := eqv_txt k (pairT u v)
      dsimp only
      rw [e1]
      by_cases c : k = pairT u v
      · rw [if_neg (by simp [c])]
        exact no (by simp [c]) Hc keep_refl
      · rw [if_pos (by simp [c])]
        exact ⟨_, rfl, yes _ _ k (by simp [c]) keep_refl ⟨b, rfl, hb, hs, hl, hn⟩⟩
    · intro H3 ys s3 h3 rs
      obtain ⟨zs, ev, em, each3, ne3⟩ := reps_tups_of rs
      rw [fm_guard (fun k => !decide (k = pairT u v))] at em
      have S3 := same_trans s1 s3
      subst hH1
      obtain ⟨hd8, S8, pl⟩ := plain_disp (ns := ns) (ks := zs) ne1 s3 (S3 _ _ o.oi.at1) (by rw [h3, ev]) each3
      refine ⟨hd8, [(Sum.inr "places", .ref l1), (Sum.inr "ties", .ref L)], rfl, by show 2 ≤ 15; decide, ?_⟩
      exact q _ _ _ S8 (.web pl) (.inr ⟨decide_eq_true ct, by rw [em]⟩)
  · rw [if_neg (by simp [ct])]
    exact q H _ _ keep_refl (.word _) (.inl ⟨decide_eq_false ct, rfl⟩)
theorem one6 {Ts : List (Addr × Str)} {Pt : Addr} (T : TX K mg) (L : LamT base mg c Pt qOne Ts) (hr : hO A s f c) : PS (XO P w K mg base f c A fr s H0 E) (stmtAt (defBody (top 56)) 6) (t46 Ts T.C_Web RWo) := by
  have hu := hr.units
  have GW : FnOk P w K mg base (L2.CX P w) 9 T.f_Web_without_tie T.d_Web_without_tie ["self", "a", "b"] (spWo T.C_Web T.C_InvalidTie) := (T.q_wo (gg := false)).ok
  refine ps_weak (ifNe (by exact hu) (askOne T L hr (lamS_by (by show lamSB (defScope (top 56)) _ = true; decide +kernel)) (by rfl) (by intros; rfl)
    (fun A' outer s' H E' f' c' hr2 => pe_meth (E := E') (pv 2) T.cl_Web T.M_Web_without_tie GW (hr2.mono (by decide)) T.b_Web_without_tie .nil (passes_call (takes_of rfl rfl rfl rfl) fun _ _ _ _ h => h) (pa_cons (pv 5) (pa_cons (pv 6) pa_nil)))) (pv 8) (pss_one (ps_ret pe_bl))) ?_
  rintro D σ H ⟨p, d, x, t, a, l1, l2, tt, ns, ks, u, v, y, r, u9, u10, u11, u12, u13, u14, rfl, o, told, rw, q⟩
  refine ⟨⟨RWo ns (ks.map (·.2)) u v, fun _ _ => rwo_un, o.oi.tabs, fun H1 eN Q hQ => ?_, fun H2 e2 Q hQ => ⟨y, rfl, hQ H2 y r keep_refl (told.ext e2) rw⟩⟩, q⟩
  have W1 := o.oi.webE eN
  obtain ⟨dx, D1, e1, _, _⟩ := W1.ins
  have ln := o.oi.dr.few
  refine ⟨_, rfl, x, dx, _, rfl, e1, rfl, _, rfl, _, rfl, x, t, a, ns, ks, u, v, rfl, W1, o.mu, o.mv, by omega, fun cc H' s' => .inl ⟨rfl, hQ H' _ _ s' (.word _) (.inl ⟨cc, rfl⟩)⟩, fun cc H' x' a' s' n' W' => ?_⟩
  have em : (ks.filter fun k => decide (k.2 ≠ pairT u v)).map (·.2) = (ks.map (·.2)).filter fun k => !decide (k = pairT u v) := by
    rw [List.filter_map]
    congr 1
    refine List.filter_congr fun k _ => ?_
    show decide (k.2 ≠ pairT u v) = !decide (k.2 = pairT u v)
    rw [decide_not]
  exact told_web W' rfl fun H'' v' s'' told' => hQ H'' v' _ (same_trans s' s'') told' (.inr ⟨cc, by rw [em]⟩)
end
end Lx

/-! The law: one web, two places drawn together. -/
namespace Lx
open PySem PySem.Spec PyProof.Rows L2 Fw LamX
theorem split_len (v : Str) : ∀ ts : List (List Str), (∀ k ∈ ts, ∃ x y, k = [x, y] ∧ x ≠ y) → (ts.filter fun k => !inV (.str v) (k.map V.str)).length + ((fromU ts v).length + (toU ts v).length) ≤ ts.length
  | [], _ => by simp [fromU, toU]
  | k :: ts, h => by
    have ih := split_len v ts fun q m => h q (List.mem_cons_of_mem _ m)
    obtain ⟨x, y, e, n⟩ := h k List.mem_cons_self
    subst e
    have e1 : inV (.str v) (([x, y] : List Str).map V.str) = (decide (x = v) || decide (y = v)) := by
      show (eqV (.str x) (.str v) || (eqV (.str y) (.str v) || false)) = _
      rw [Bool.eq_iff_iff]
      simp [eqV]
    unfold fromU toU at ih ⊢
    simp only [List.filter_cons, e1]
    rw [show fstOf [x, y] = x from rfl, show sndOf [x, y] = y from rfl]
    by_cases c : x = v <;> by_cases c' : y = v
    · exact absurd (c.trans c'.symm) n
    · simp only [c, c', decide_true, decide_false, Bool.or_false, Bool.not_true, if_true, Bool.false_eq_true, if_false, List.map_cons, List.length_cons]
      omega
    · simp only [c, c', decide_true, decide_false, Bool.or_true, Bool.not_true, if_true, Bool.false_eq_true, if_false, List.map_cons, List.length_cons]
      omega
    · simp only [c, c', decide_false, Bool.or_false, Bool.not_false, if_true, Bool.false_eq_true, if_false, List.length_cons]
      omega
theorem inV_iff {v : Str} {k : List Str} : inV (.str v) (k.map V.str) = true ↔ v ∈ k := by
  unfold inV
  rw [List.any_map, List.any_eq_true]
  constructor
  · rintro ⟨x, m, e⟩
    have : x = v := by simpa [eqV] using e
    exact this ▸ m
  · intro m
    exact ⟨v, m, by simp [eqV]⟩
theorem mem_less {ns gs : List Str} {z : Str} : z ∈ lessN ns gs ↔ z ∈ ns ∧ z ∉ gs := by
  unfold lessN
  rw [List.mem_filter]
  refine and_congr_right fun _ => ?_
  rw [Bool.not_eq_true', ← Bool.not_eq_true, inV_iff]
/-- the other places tied with v -/
theorem beside_mem {ns : List Str} {ts : List (List Str)} (dr : Drawn ns ts) (v o : Str) : (o ∈ fromU ts v ∨ o ∈ toU ts v) ↔ pairT o v ∈ ts := by
  have two := dr.two
  constructor
  · rintro (h | h)
    · obtain ⟨k, mk, e⟩ := List.mem_map.mp h
      obtain ⟨mk2, c⟩ := List.mem_filter.mp mk
      obtain ⟨x, y, ek, _, _, l⟩ := two k mk2
      subst ek
      have c' : x = v := of_decide_eq_true c
      have e' : y = o := e
      subst c' e'
      unfold pairT
      rw [if_neg (by rw [ltS_not l]; decide)]
      exact mk2
    · obtain ⟨k, mk, e⟩ := List.mem_map.mp h
      obtain ⟨mk2, c⟩ := List.mem_filter.mp mk
      obtain ⟨x, y, ek, _, _, l⟩ := two k mk2
      subst ek
      have c' : y = v := of_decide_eq_true c
      have e' : x = o := e
      subst c' e'
      unfold pairT
      rw [if_pos l]
      exact mk2
  · intro m
    unfold pairT at m
    split at m
    · exact .inr (List.mem_map.mpr ⟨[o, v], List.mem_filter.mpr ⟨m, decide_eq_true rfl⟩, rfl⟩)
    · exact .inl (List.mem_map.mpr ⟨[v, o], List.mem_filter.mpr ⟨m, decide_eq_true rfl⟩, rfl⟩)
theorem pair_ends {ns : List Str} {ts : List (List Str)} (dr : Drawn ns ts) {o v : Str} (m : pairT o v ∈ ts) : o ∈ ns ∧ v ∈ ns ∧ o ≠ v := by
  obtain ⟨x, y, e, mx, my, l⟩ := dr.two _ m
  obtain ⟨p, q, e', h⟩ := pairT_two o v
  rw [e'] at e
  injection e with a b
  injection b with b _
  subst a b
  have n : p ≠ q := fun z => by rw [z, ltS_irr] at l; cases l
  rcases h with ⟨h1, h2⟩ | ⟨h1, h2⟩
  · rw [← h1, ← h2]
    exact ⟨mx, my, n⟩
  · rw [← h1, ← h2]
    exact ⟨my, mx, fun z => n z.symm⟩
theorem asTie_of (u o : Str) : asTie [u, o] = pairT u o := rfl
/-- a list of tuples of texts at l -/
structure ListT (H : Hp) (l : Addr) (ks : List (Addr × List Str)) : Prop where
  at_ : H l = some (.lst (ks.map fun k => V.ref k.1))
  each : Each H ks
theorem ListT.same {H H' : Hp} {l : Addr} {ks : List (Addr × List Str)} (h : ListT H l ks) (s : Same H H') : ListT H' l ks := ⟨s _ _ h.at_, h.each.same s⟩
section
variable {P : Program} {w : World} {K : PySem.W.Frag} {mg : Str → Option Value} {base : Heap} {f c : Addr} {A : Around} {fr : List Env} {s : Shared} {H0 : Hp} {E : XK}
def t7 (Ts : List (Addr × Str)) (C : Addr) : TS := fun D σ H => ∃ (p d x t a l1 l2 tt : Addr) (ns : List Str) (ks : List (Addr × List Str)) (u v : Str) (y0 u9 u10 u11 u12 u13 u14 : Option V),
  σ = slS p d x l1 l2 u v tt y0 u9 u10 u11 u12 u13 u14 ∧ OS Ts C p d x t a l1 l2 tt ns ks u v H ∧ ∀ H' L ms, Same H H' → ListT H' L ms → (∀ z, z ∈ ms.map (·.2) ↔ ∃ o, o ≠ u ∧ pairT o v ∈ ks.map (·.2) ∧ z = [u, o]) → ms.length ≤ (fromU (ks.map (·.2)) v).length + (toU (ks.map (·.2)) v).length →
    D.nx (slS p d x l1 l2 u v tt y0 u9 (some (.ref L)) u11 u12 u13 u14) H'
theorem one7 {Ts : List (Addr × Str)} {C : Addr} (T : TX K mg) (hG : A.guards = some []) (hr : hO A s f c) : PS (XO P w K mg base f c A fr s H0 E) (stmtAt (defBody (top 56)) 7) (t7 Ts C) := by
  have hu := hr.units
  have GB : FnG P w K mg base CX0 1 T.f__law_beside T.d__law_beside ["_law_plain_here", "_law_place"] spBeside := T.q_beside
  refine ps_weak (ps_setLc (i := 10) (own := [("_law_one", 9)]) (g := gName 9) (by rfl) scOne.nd rfl rfl (sw_true rfl rfl rfl (by decide +kernel)) (pi_listK (K := K) rfl (pe_callG (E := fun _ _ _ _ => False) hG GB (hr.mono (by decide)) (by rfl) T.m__law_beside T.F__law_beside.kp T.b__law_beside .nil (fun _ => passAt0) (pa_cons (pv 1) (pa_cons (pv 6) pa_nil))))
    (blkOk_by (N := nOR) (sc := defScope (top 56)) (own := [("_law_one", 9)]) (by decide +kernel)) (fun _ _ _ _ _ => pg_name (i := 9) scOne.nd rfl (Or.inl rfl))
    (fun _ _ _ _ _ => pts_one (pt_cmpR op_ne (pv 9) (pv 5) (nomark _))) (fun _ _ _ _ _ => pe_tup (pa_cons (pv 5) (pa_cons (pv 9) pa_nil)))) ?_
  rintro D σ H ⟨p, d, x, t, a, l1, l2, tt, ns, ks, u, v, y0, u9, u10, u11, u12, u13, u14, rfl, o, q⟩
  obtain ⟨two, inn, tie, ne⟩ := o.oi.dr.plainOk
  have lk := o.oi.dr.len
  rw [List.length_map] at lk
  refine ⟨_, rfl, _, rfl, d, v, ns, ks, rfl, o.oi.plain, two, by omega, fun H1 l ys s1 nl py so hl => ⟨l, rfl, ⟨_, SqL.of hl⟩, fun L nL => ?_⟩⟩
  have lp := py.length_eq
  rw [List.length_append] at lp
  have f1 : (fromU (ks.map (·.2)) v).length ≤ 28 := by
    unfold fromU
    rw [List.length_map]
    exact Nat.le_trans (List.length_filter_le _ _) (by rw [List.length_map]; exact lk)
  have f2 : (toU (ks.map (·.2)) v).length ≤ 28 := by
    unfold toU
    rw [List.length_map]
    exact Nat.le_trans (List.length_filter_le _ _) (by rw [List.length_map]; exact lk)
  have sm : ∀ z ∈ ns, z.length ≤ 1000 := fun z m => pool_short (o.oi.dr.pool z m)
  have my : ∀ z, z ∈ ys ↔ pairT z v ∈ ks.map (·.2) := fun z => by
    rw [py.mem_iff, List.mem_append]
    exact beside_mem o.oi.dr v z
  refine lc_listR (K := K) repS repT (as := ys) (SqL.of hl) (reps_strs _) (fun z => if (!decide (z = u)) = true then some [u, z] else none) nL (by omega) ?_ ?_
  · rintro i y z Hc C' N ez sc rfl yes no
    refine ⟨rfl, _, rfl, _, rfl, rfl, _, rfl, ?_⟩
    dsimp only
    by_cases c : z = u
    · rw [if_neg (by simp [c])]
      exact no (by simp [c]) Hc keep_refl
    · rw [if_pos (by simp [c])]
      refine ⟨_, rfl, _, rfl, by show 2 ≤ sizeLine; decide, fun b nb => ?_⟩
      have mz := (pair_ends o.oi.dr ((my z).mp (List.mem_of_getElem? ez))).1
      refine yes _ _ [u, z] (by simp [c]) (upd_keeps nb) ⟨b, rfl, .inl upd_same, fun y m => ?_, by simp, by simp⟩
      rcases (show y = u ∨ y = z by simpa using m) with q1 | q1
      · rw [q1]; exact sm u o.mu
      · rw [q1]; exact sm z mz
  · intro H3 vs s3 h3 rs
    obtain ⟨ms, ev, em, each3, ne3⟩ := reps_tups_of rs
    have lm : ms.length ≤ ys.length := by
      have z := congrArg List.length em
      rw [List.length_map] at z
      rw [z]
      exact List.length_filterMap_le _ _
    refine q H3 L ms (same_trans s1 s3) ⟨by rw [h3, ev], each3⟩ (fun z => ?_) (by omega)
    rw [em, List.mem_filterMap]
    constructor
    · rintro ⟨w', mw, e⟩
      by_cases c : w' = u
      · simp [c] at e
      · simp [c] at e
        exact ⟨w', c, (my w').mp mw, e.symm⟩
    · rintro ⟨w', n, m, e⟩
      exact ⟨w', (my w').mpr m, by simp [n, e]⟩
def t8 (Ts : List (Addr × Str)) (C : Addr) : TS := fun D σ H => ∃ (p d x t a l1 l2 tt : Addr) (ns : List Str) (ks : List (Addr × List Str)) (u v : Str) (y0 u9 u10 u11 u12 u13 u14 : Option V),
  σ = slS p d x l1 l2 u v tt y0 u9 u10 u11 u12 u13 u14 ∧ OS Ts C p d x t a l1 l2 tt ns ks u v H ∧ ∀ H' L ls, Same H H' → ListT H' L ls → ls.map (·.2) = (ks.map (·.2)).filter (fun k => !inV (.str v) (k.map V.str)) → D.nx (slS p d x l1 l2 u v tt y0 u9 u10 (some (.ref L)) u12 u13 u14) H'
theorem one8 {Ts : List (Addr × Str)} {C : Addr} (hr : hO A s f c) : PS (XO P w K mg base f c A fr s H0 E) (stmtAt (defBody (top 56)) 8) (t8 Ts C) := by
  have hu := hr.units
  refine ps_weak (ps_setLc (i := 11) (own := [("_law_one", 9)]) (g := gName 9) (by rfl) scOne.nd rfl rfl (sw_true rfl rfl rfl (by decide +kernel)) (pi_listK (K := K) rfl (pv 4))
    (blkOk_by (N := nOR) (sc := defScope (top 56)) (own := [("_law_one", 9)]) (by decide +kernel)) (fun _ _ _ _ _ => pg_name (i := 9) scOne.nd rfl (Or.inl rfl))
    (fun _ _ _ _ _ => pts_one (pt_cmpR (op_notInK (K := K) rfl) (pv 6) (pv 9) (by rfl))) (fun _ _ _ _ _ => pv 9)) ?_
  rintro D σ H ⟨p, d, x, t, a, l1, l2, tt, ns, ks, u, v, y0, u9, u10, u11, u12, u13, u14, rfl, o, q⟩
  obtain ⟨two, inn, tie, ne⟩ := o.oi.dr.plainOk
  have lk := o.oi.dr.len
  rw [List.length_map] at lk
  refine ⟨_, rfl, l2, rfl, ⟨_, SqL.of o.oi.at2⟩, fun L nL => ?_⟩
  refine lc_listR (K := K) repT repT (as := ks.map (·.2)) (SqL.of o.oi.at2) (reps_tups o.oi.each ne) (fun k => if (!inV (.str v) (k.map V.str)) = true then some k else none) nL (by rw [List.length_map]; omega) ?_ ?_
  · rintro i y k Hc C' N ek sc ⟨b, rfl, hb, hs, hl, hn⟩ yes no
    refine ⟨rfl, _, rfl, _, rfl, b, _, rfl, .inr (.inl hb), rfl, strs_flat k, _, rfl, ?_⟩
    dsimp only
    by_cases c : inV (.str v) (k.map V.str) = true
    · rw [if_neg (by simp [c])]
      exact no (by simp [c]) Hc keep_refl
    · rw [if_pos (by simp [c])]
      exact ⟨_, rfl, yes _ _ k (by simp [c]) keep_refl ⟨b, rfl, hb, hs, hl, hn⟩⟩
  · intro H3 vs s3 h3 rs
    obtain ⟨ms, ev, em, each3, ne3⟩ := reps_tups_of rs
    rw [fm_guard (fun k : List Str => !inV (.str v) (k.map V.str))] at em
    exact q H3 L ms s3 ⟨by rw [h3, ev], each3⟩ em
end
end Lx

/-! The law: one web, the web that is due where two places are drawn together. -/
namespace Lx
open PySem PySem.Spec PyProof.Rows L2 Fw LamX
/-- the ties once v is drawn to u -/
def DrT (ts : List (List Str)) (u v : Str) (z : List Str) : Prop := (z ∈ ts ∧ v ∉ z) ∨ ∃ o, o ≠ u ∧ pairT o v ∈ ts ∧ z = pairT u o
theorem AscN.filter {ns : List Str} (h : AscN ns) (p : Str → Bool) : AscN (ns.filter p) := List.Pairwise.sublist List.filter_sublist h
theorem AscT.filter {ts : List (List Str)} (h : AscT ts) (p : List Str → Bool) : AscT (ts.filter p) := List.Pairwise.sublist List.filter_sublist h
theorem less_asc {ns gs : List Str} (h : AscN ns) : AscN (lessN ns gs) := AscN.filter h _
theorem drt_in {ns : List Str} {ts : List (List Str)} (dr : Drawn ns ts) {u v : Str} (m : pairT u v ∈ ts) {z : List Str} (h : DrT ts u v z) : z ∈ pairsT (lessN ns [v]) := by
  obtain ⟨mu, mv, nuv⟩ := pair_ends dr m
  have asc := less_asc (gs := [v]) dr.asc
  rcases h with ⟨mz, nv⟩ | ⟨o, no, mo, rfl⟩
  · obtain ⟨x, y, rfl, mx, my, l⟩ := dr.two z mz
    have a : x ≠ v := fun e => nv (by rw [e]; exact List.mem_cons_self)
    have b : y ≠ v := fun e => nv (by rw [e]; exact List.mem_cons_of_mem _ List.mem_cons_self)
    exact (mem_pairs asc _).mpr ⟨x, y, rfl, mem_less.mpr ⟨mx, by simpa using a⟩, mem_less.mpr ⟨my, by simpa using b⟩, l⟩
  · obtain ⟨m1, m2, nov⟩ := pair_ends dr mo
    exact pairT_mem asc (mem_less.mpr ⟨mu, by simpa using nuv⟩) (mem_less.mpr ⟨m1, by simpa using nov⟩) fun e => no e.symm
section
variable {P : Program} {w : World} {K : PySem.W.Frag} {mg : Str → Option Value} {base : Heap} {f c : Addr} {A : Around} {fr : List Env} {s : Shared} {H0 : Hp} {E : XK}
def t9 (Ts : List (Addr × Str)) (C : Addr) : TS := fun D σ H => ∃ (p d x t a l1 l2 tt L1 L2 : Addr) (ns : List Str) (ks ms ls : List (Addr × List Str)) (u v : Str) (y0 u9 u12 u13 u14 : Option V),
  σ = slS p d x l1 l2 u v tt y0 u9 (some (.ref L1)) (some (.ref L2)) u12 u13 u14 ∧ OS Ts C p d x t a l1 l2 tt ns ks u v H ∧ ListT H L1 ms ∧ ListT H L2 ls ∧
  (∀ z, z ∈ ms.map (·.2) ↔ ∃ o, o ≠ u ∧ pairT o v ∈ ks.map (·.2) ∧ z = [u, o]) ∧ ms.length ≤ (fromU (ks.map (·.2)) v).length + (toU (ks.map (·.2)) v).length ∧ ls.map (·.2) = (ks.map (·.2)).filter (fun k => !inV (.str v) (k.map V.str)) ∧
  ∀ H' y, Same H H' → (pairT u v ∈ ks.map (·.2) → ∃ ts', ToldR H' y (.inr (lessN ns [v], ts')) ∧ AscT ts' ∧ ∀ z, z ∈ ts' ↔ DrT (ks.map (·.2)) u v z) → D.nx (slS p d x l1 l2 u v tt y0 u9 (some (.ref L1)) (some (.ref L2)) (some y) u13 u14) H'
theorem one9 {Ts : List (Addr × Str)} {C : Addr} (T : TX K mg) (hG : A.guards = some []) (hr : hO A s f c) : PS (XO P w K mg base f c A fr s H0 E) (stmtAt (defBody (top 56)) 9) (t9 Ts C) := by
  have hu := hr.units
  have GL : FnG P w K mg base CX0 2 T.f__law_plain T.d__law_plain ["_law_places", "_law_ties"] (spPlain K) := T.q_plain
  refine ps_weak (ps_set (i := 12) scOne.nd rfl (Or.inl rfl) (pe_callG (E := fun _ _ _ _ => False) hG GL (hr.mono (by decide)) (by rfl) T.m__law_plain T.F__law_plain.kp T.b__law_plain .nil (fun _ => passAt0)
    (pa_cons (pe_lc (own := [("_law_place", 13)]) (g := gName 13) (by rfl) scOne.nd (pi_listK (K := K) rfl (pv 3)) (blkOk_by (N := nOR) (sc := defScope (top 56)) (own := [("_law_place", 13)]) (by decide +kernel)) (fun _ _ _ _ _ => pg_name (i := 13) scOne.nd rfl (Or.inl rfl))
      (fun _ _ _ _ _ => pts_one (pt_cmpR op_ne (pv 13) (pv 6) (nomark _))) (fun _ _ _ _ _ => pv 13)) (pa_cons (pe_op op_cat (pv 11) (pv 10)) pa_nil)))) ?_
  rintro D σ H ⟨p, d, x, t, a, l1, l2, tt, L1, L2, ns, ks, ms, ls, u, v, y0, u9, u12, u13, u14, rfl, o, hm, hl, mm, lm, em, q⟩
  have dr := o.oi.dr
  have few := dr.few
  have lk := dr.len
  have sm : ∀ z ∈ ns, z.length ≤ 1000 := fun z m => pool_short (dr.pool z m)
  have two2 : ∀ k ∈ ks.map (·.2), ∃ x y, k = [x, y] ∧ x ≠ y := fun k m => by
    obtain ⟨x, y, e, _, _, l⟩ := dr.two k m
    exact ⟨x, y, e, fun z => by rw [z, ltS_irr] at l; cases l⟩
  have sl := split_len v (ks.map (·.2)) two2
  rw [← em, List.length_map] at sl
  refine ⟨_, rfl, l1, rfl, ⟨_, SqL.of o.oi.at1⟩, fun L nL => ?_⟩
  refine lc_listR (K := K) repS repS (as := ns) (SqL.of o.oi.at1) (reps_strs _) (fun z => if (!decide (z = v)) = true then some z else none) nL (by omega) ?_ ?_
  · rintro i y z Hc C' N ez sc rfl yes no
    refine ⟨rfl, _, rfl, _, rfl, rfl, _, rfl, ?_⟩
    dsimp only
    by_cases c : z = v
    · rw [if_neg (by simp [c])]
      exact no (by simp [c]) Hc keep_refl
    · rw [if_pos (by simp [c])]
      exact ⟨_, rfl, yes _ _ z (by simp [c]) keep_refl rfl⟩
  · intro H3 vs s3 h3 rs
    rw [fm_guard (fun z : Str => !decide (z = v))] at rs
    have ev := reps_strs_of rs
    subst ev
    generalize en : ns.filter (fun z => !decide (z = v)) = ns0 at h3
    have mn0 : ∀ z, z ∈ ns0 ↔ z ∈ ns ∧ z ≠ v := fun z => by
      rw [← en, List.mem_filter]
      simp
    have ln0 : ns0.length ≤ ns.length := by
      rw [← en]
      exact List.length_filter_le _ _
    have hl3 := hl.same s3
    have hm3 := hm.same s3
    refine ⟨_, rfl, _, rfl, L2, L1, _, _, rfl, rfl, hl3.at_, hm3.at_, by rw [List.length_map, List.length_map, sizeLine_eq]; omega, fun e ne => ?_⟩
    have s4 := same_upd (o := .lst ((ls.map fun k => V.ref k.1) ++ ms.map fun k => V.ref k.1)) ne
    have he : (upd H3 e (.lst ((ls.map fun k => V.ref k.1) ++ ms.map fun k => V.ref k.1))) e = some (.lst ((ls ++ ms).map fun k => V.ref k.1)) := by
      rw [upd_same, List.map_append]
    generalize upd H3 e (.lst ((ls.map fun k => V.ref k.1) ++ ms.map fun k => V.ref k.1)) = H4 at s4 he ⊢
    have inL : ∀ k ∈ ls, ∃ x y, k.2 = [x, y] ∧ x ∈ ns ∧ y ∈ ns ∧ ltS x y = true ∧ v ∉ k.2 := fun k m => by
      have z : k.2 ∈ ls.map (·.2) := List.mem_map_of_mem m
      rw [em] at z
      obtain ⟨z1, z2⟩ := List.mem_filter.mp z
      obtain ⟨x, y, e, mx, my, l⟩ := dr.two _ z1
      exact ⟨x, y, e, mx, my, l, fun h => by rw [inV_iff.mpr h] at z2; cases z2⟩
    have inM : ∀ k ∈ ms, ∃ o, k.2 = [u, o] ∧ o ≠ u ∧ pairT o v ∈ ks.map (·.2) := fun k m => by
      obtain ⟨o, h1, h2, h3⟩ := (mm k.2).mp (List.mem_map_of_mem m)
      exact ⟨o, h3, h1, h2⟩
    refine ⟨L, e, ns0, ns, ls ++ ms, rfl, SqL.of (s4 _ _ h3), SqL.of he, fun k m => ?_, fun k m => ?_, by omega, fun z m => ((mn0 z).mp m).1, fun k m z mz => ?_, sm, by omega, by rw [List.length_append]; omega, fun H' d' ns' ks' s' nd' as mn at' mt ne' pl => ?_⟩
    · rcases List.mem_append.mp m with m | m
      · exact hl3.each.same s4 k m
      · exact hm3.each.same s4 k m
    · rcases List.mem_append.mp m with m | m
      · obtain ⟨x, y, e, _⟩ := inL k m
        exact ⟨x, y, e⟩
      · obtain ⟨o, e, _⟩ := inM k m
        exact ⟨u, o, e⟩
    · rcases List.mem_append.mp m with m | m
      · obtain ⟨x, y, e, mx, my, _⟩ := inL k m
        rw [e] at mz
        rcases (show z = x ∨ z = y by simpa using mz) with q1 | q1 <;> rw [q1] <;> assumption
      · obtain ⟨o', e, _, mo⟩ := inM k m
        rw [e] at mz
        rcases (show z = u ∨ z = o' by simpa using mz) with q1 | q1
        · rw [q1]; exact o.mu
        · rw [q1]; exact (pair_ends dr mo).1
    · refine q H' _ (same_trans s3 (same_trans s4 s')) fun mp => ⟨ks'.map (·.2), ?_, at', fun z => (mt z).trans ?_⟩
      · obtain ⟨_, _, nuv⟩ := pair_ends dr mp
        have e1 : ns' = lessN ns [v] := as.same (less_asc dr.asc) fun z => by
          rw [mn z, mem_less, List.mem_append, mn0 z, List.mem_flatMap]
          constructor
          · rintro (⟨h1, h2⟩ | ⟨k, mk, mz⟩)
            · exact ⟨h1, by simpa using h2⟩
            · rcases List.mem_append.mp mk with mk | mk
              · obtain ⟨x, y, e, mx, my, _, nv⟩ := inL k mk
                refine ⟨?_, fun h => nv (by rw [← show z = v by simpa using h]; exact mz)⟩
                rw [e] at mz
                rcases (show z = x ∨ z = y by simpa using mz) with q1 | q1 <;> rw [q1] <;> assumption
              · obtain ⟨o', e, _, mo⟩ := inM k mk
                obtain ⟨m1, m2, n1⟩ := pair_ends dr mo
                rw [e] at mz
                rcases (show z = u ∨ z = o' by simpa using mz) with q1 | q1
                · rw [q1]; exact ⟨o.mu, by simpa using nuv⟩
                · rw [q1]; exact ⟨m1, by simpa using n1⟩
          · rintro ⟨h1, h2⟩
            exact .inl ⟨h1, by simpa using h2⟩
        rw [← e1]
        exact .web pl
      · rw [List.mem_map]
        constructor
        · rintro ⟨k, mk, rfl⟩
          rcases List.mem_append.mp mk with mk | mk
          · obtain ⟨x, y, e, mx, my, l, nv⟩ := inL k mk
            refine .inl ?_
            show asTie k.2 ∈ _ ∧ v ∉ asTie k.2
            rw [e, asTie_lt l, ← e]
            refine ⟨?_, nv⟩
            have z : k.2 ∈ ls.map (·.2) := List.mem_map_of_mem mk
            rw [em] at z
            exact (List.mem_filter.mp z).1
          · obtain ⟨o', e, n1, mo⟩ := inM k mk
            refine .inr ⟨o', n1, mo, ?_⟩
            show asTie k.2 = _
            rw [e, asTie_of]
        · rintro (⟨mz, nv⟩ | ⟨o', n1, mo, rfl⟩)
          · have z1 : z ∈ ls.map (·.2) := by
              rw [em]
              refine List.mem_filter.mpr ⟨mz, ?_⟩
              rw [Bool.not_eq_true', ← Bool.not_eq_true, inV_iff]
              exact nv
            obtain ⟨k, mk, rfl⟩ := List.mem_map.mp z1
            obtain ⟨x, y, e, mx, my, l, _⟩ := inL k mk
            refine ⟨k, List.mem_append_left _ mk, ?_⟩
            show asTie k.2 = k.2
            rw [e, asTie_lt l]
          · obtain ⟨k, mk, e⟩ := List.mem_map.mp ((mm [u, o']).mpr ⟨o', n1, mo, rfl⟩)
            refine ⟨k, List.mem_append_right _ mk, ?_⟩
            show asTie k.2 = _
            rw [show k.2 = [u, o'] from e, asTie_of]
/-- what is due then -/
def RDr (ns : List Str) (ts : List (List Str)) (u v : Str) (r : Str ⊕ (List Str × List (List Str))) : Prop :=
  (decide (pairT u v ∈ ts) = false ∧ r = .inl ("tie" : Str)) ∨ (decide (pairT u v ∈ ts) = true ∧ ∃ ts', AscT ts' ∧ (∀ z, z ∈ ts' ↔ DrT ts u v z) ∧ r = .inr (lessN ns [v], ts'))
theorem rdr_un {ns : List Str} {ts : List (List Str)} {u v : Str} {r r' : Str ⊕ (List Str × List (List Str))} (h : RDr ns ts u v r) (h' : RDr ns ts u v r') : r = r' := by
  rcases h with ⟨c, e⟩ | ⟨c, t1, a1, m1, e⟩ <;> rcases h' with ⟨c', e'⟩ | ⟨c', t2, a2, m2, e'⟩
  · rw [e, e']
  · rw [c] at c'; cases c'
  · rw [c] at c'; cases c'
  · rw [e, e', a1.same a2 fun z => (m1 z).trans (m2 z).symm]
def t10 (Ts : List (Addr × Str)) (C : Addr) : TS := fun D σ H => ∃ (p d x t a l1 l2 tt : Addr) (ns : List Str) (ks : List (Addr × List Str)) (u v : Str) (y : V) (y0 u9 u10 u11 u13 u14 : Option V),
  σ = slS p d x l1 l2 u v tt y0 u9 u10 u11 (some y) u13 u14 ∧ OS Ts C p d x t a l1 l2 tt ns ks u v H ∧ (pairT u v ∈ ks.map (·.2) → ∃ ts', ToldR H y (.inr (lessN ns [v], ts')) ∧ AscT ts' ∧ ∀ z, z ∈ ts' ↔ DrT (ks.map (·.2)) u v z) ∧ ∀ H', ExtN H H' → Tabs Ts H' → D.nx σ H'
theorem both_less {ns : List Str} {ts : List (List Str)} (dr : Drawn ns ts) {gs k : List Str} (m : k ∈ ts) : bothIn (lessN ns gs) k = true ↔ ∀ z ∈ k, z ∉ gs := by
  obtain ⟨x, y, rfl, mx, my, l⟩ := dr.two k m
  unfold bothIn
  rw [List.all_eq_true]
  refine ⟨fun h z mz => ((mem_less.mp (inV_iff.mp (h z mz))).2), fun h z mz => inV_iff.mpr (mem_less.mpr ⟨?_, h z mz⟩)⟩
  rcases (show z = x ∨ z = y by simpa using mz) with q1 | q1 <;> rw [q1] <;> assumption
theorem one10 {Ts : List (Addr × Str)} {Pt : Addr} (T : TX K mg) (L : LamT base mg c Pt qOne Ts) (hr : hO A s f c) : PS (XO P w K mg base f c A fr s H0 E) (stmtAt (defBody (top 56)) 10) (t10 Ts T.C_Web) := by
  have hu := hr.units
  have GW : FnOk P w K mg base (L2.CX P w) 11 T.f_Web_drawn_together T.d_Web_drawn_together ["self", "a", "b"] (spDT T.C_Web T.C_InvalidWeb T.C_InvalidTie) := (T.q_dt (gg := false)).ok
  refine ps_weak (ifNe (by exact hu) (askOne T L hr (lamS_by (by show lamSB (defScope (top 56)) _ = true; decide +kernel)) (by rfl) (by intros; rfl)
    (fun A' outer s' H E' f' c' hr2 => pe_meth (E := E') (pv 2) T.cl_Web T.M_Web_drawn_together GW hr2 T.b_Web_drawn_together .nil (passes_call (takes_of rfl rfl rfl rfl) fun _ _ _ _ h => h) (pa_cons (pv 5) (pa_cons (pv 6) pa_nil))))
    (pe_ifExp (pt_cmpR (op_inXLk (K := K) rfl (by exact hu)) (pv 7) (pv 4) (by rfl)) (pv 12) pe_str) (pss_one (ps_ret pe_bl))) ?_
  rintro D σ H ⟨p, d, x, t, a, l1, l2, tt, ns, ks, u, v, y, y0, u9, u10, u11, u13, u14, rfl, o, told, q⟩
  have dr := o.oi.dr
  have lk := dr.len
  have ln := dr.few
  refine ⟨⟨RDr ns (ks.map (·.2)) u v, fun _ _ => rdr_un, o.oi.tabs, fun H1 eN Q hQ => ?_, fun H2 e2 Q hQ => ?_⟩, q⟩
  · have W1 := o.oi.webE eN
    obtain ⟨dx, D1, e1, _, _⟩ := W1.ins
    have lk' := lk
    rw [List.length_map] at lk'
    refine ⟨_, rfl, x, dx, _, rfl, e1, rfl, _, rfl, _, rfl, x, t, a, ns, ks, u, v, rfl, W1, o.mu, o.mv, by omega, by omega, fun cc H' s' => .inl ⟨rfl, hQ H' _ _ s' (.word _) (.inl ⟨cc, rfl⟩)⟩, fun cc => ?_⟩
    have mp : pairT u v ∈ ks.map (·.2) := of_decide_eq_true cc
    obtain ⟨_, _, nuv⟩ := pair_ends dr mp
    have asc := less_asc (gs := [v]) dr.asc
    have lz : (lessN ns [v]).length ≤ 8 := Nat.le_trans (List.length_filter_le _ _) ln
    have ge : 1 ≤ (lessN ns [v]).length := List.length_pos_of_mem (mem_less.mpr ⟨o.mu, by simpa using nuv⟩)
    have nm : ∀ z ∈ lessN ns [v], nameS z = true := fun z m => pool_ok z (dr.pool z (mem_less.mp m).1)
    have ef : (ks.filter fun k => bothIn (lessN ns [v]) k.2).map (·.2) = (ks.map (·.2)).filter (bothIn (lessN ns [v])) := by
      rw [List.filter_map]
      rfl
    have mf : ∀ z, z ∈ (ks.filter fun k => bothIn (lessN ns [v]) k.2).map (·.2) ↔ z ∈ ks.map (·.2) ∧ v ∉ z := fun z => by
      rw [ef, List.mem_filter]
      refine and_congr_right fun m => (both_less dr m).trans ⟨fun h mz => h v mz List.mem_cons_self, fun h y my mg => h ?_⟩
      rw [← show y = v by simpa using mg]
      exact my
    have af : AscT ((ks.filter fun k => bothIn (lessN ns [v]) k.2).map (·.2)) := by
      rw [ef]
      exact AscT.filter dr.ascT _
    have lf : ((ks.filter fun k => bothIn (lessN ns [v]) k.2).map (·.2)).length ≤ 28 := by
      rw [ef]
      exact Nat.le_trans (List.length_filter_le _ _) lk
    refine ⟨pairs_web nm asc ge (by omega) af (fun k m => drt_in dr mp (.inl ((mf k).mp m))) (by omega), ?_⟩
    have mz : ∀ z, z ∈ (ks.filter fun k => bothIn (lessN ns [v]) k.2).map (·.2) ++ movedL ns (ks.map (·.2)) u v ↔ DrT (ks.map (·.2)) u v z := fun z => by
      rw [List.mem_append, mf z]
      refine or_congr Iff.rfl ?_
      unfold movedL
      rw [List.mem_map]
      constructor
      · rintro ⟨o', m, rfl⟩
        obtain ⟨m1, m2⟩ := List.mem_filter.mp m
        exact ⟨o', of_decide_eq_true m2, ((neigh_mem dr.web o.mv o').mp m1).2, rfl⟩
      · rintro ⟨o', n1, m, rfl⟩
        exact ⟨o', List.mem_filter.mpr ⟨(neigh_mem dr.web o.mv o').mpr ⟨(pair_ends dr m).1, m⟩, decide_eq_true n1⟩, rfl⟩
    refine gath_ok asc (fun _ => Iff.rfl) nm ge (by omega) (fun k m => drt_in dr mp ((mz k).mp m)) fun H' x' t' a' ks' asc' mem' s' n' W' => told_web W' rfl fun H'' v' s'' told' => hQ H'' v' _ (same_trans s' s'') told' (.inr ⟨cc, _, asc', fun z => (mem' z).trans (mz z), rfl⟩)
  · refine ⟨_, rfl, _, rfl, tt, l2, pairT u v, ks, rfl, rfl, rd_stays o.oi.dice (.ext e2) o.rt, SqL.of (stays o.oi.dice (.ext e2) o.oi.at2 (refs_ne ks)), fun k m => (each_stays o.oi.dice (.ext e2) o.oi.each k m).1, _, rfl, ?_⟩
    dsimp only
    by_cases ct : pairT u v ∈ ks.map (·.2)
    · rw [if_pos (by simp [ct])]
      obtain ⟨ts', told', a', m'⟩ := told ct
      exact ⟨_, rfl, hQ H2 _ _ keep_refl (told'.ext e2) (.inr ⟨decide_eq_true ct, ts', a', m', rfl⟩)⟩
    · rw [if_neg (by simp [ct])]
      exact hQ H2 _ _ keep_refl (.word _) (.inl ⟨decide_eq_false ct, rfl⟩)
end
end Lx

/-! The law: one web, a place put in, places taken out. -/
namespace Lx
open PySem PySem.Spec PyProof.Rows L2 Fw LamX
/-- gathered webs, by members alone -/
theorem gath_ok2 {C CW : Addr} {H : Hp} {Q : VK} {E : XK} {ns0 : List Str} {ts0 : List (List Str)} (nm : ∀ x ∈ ns0, nameS x = true) (ge : ns0 ≠ []) (few : (∃ l : List Str, l.length ≤ 9 ∧ ∀ z ∈ ns0, z ∈ l)) (two : ∀ k ∈ ts0, ∃ x y, k = [x, y] ∧ x ∈ ns0 ∧ y ∈ ns0 ∧ ltS x y = true)
    (q : ∀ H' x t a ns' ks', AscN ns' → (∀ z, z ∈ ns' ↔ z ∈ ns0) → AscT (ks'.map (·.2)) → (∀ z, z ∈ ks'.map (·.2) ↔ z ∈ ts0) → Same H H' → H x = none → WebAt C H' x t a ns' ks' → Q (.ref x) H') : Gath C CW H Q E ns0 ts0 := by
  intro ns' ts' an mn' at' mt'
  obtain ⟨l, ll, sub⟩ := few
  have z0 : ∃ z, z ∈ ns0 := List.exists_mem_of_ne_nil _ ge
  obtain ⟨z, mz⟩ := z0
  exact gath_ok (ns := ns') an mn' (fun x m => nm x ((mn' x).mp m)) (List.length_pos_of_mem ((mn' z).mpr mz)) (Nat.le_trans (nodup_sub_len (ascN_nodup an) fun x m => sub x ((mn' x).mp m)) ll)
    (fun k m => by
      obtain ⟨x, y, e, mx, my, l⟩ := two k m
      exact (mem_pairs an k).mpr ⟨x, y, e, (mn' x).mpr mx, (mn' y).mpr my, l⟩) (fun H' x t a ks' as ms s n W => q H' x t a ns' ks' an mn' as ms s n W) ns' ts' an mn' at' mt'
section
variable {P : Program} {w : World} {K : PySem.W.Frag} {mg : Str → Option Value} {base : Heap} {f c : Addr} {A : Around} {fr : List Env} {s : Shared} {H0 : Hp} {E : XK}
/-- what is due where a place is put in -/
def RFr (ns : List Str) (ts : List (List Str)) (r : Str ⊕ (List Str × List (List Str))) : Prop := ∃ ns', AscN ns' ∧ (∀ z, z ∈ ns' ↔ z ∈ ns ++ [("fresh" : Str)]) ∧ r = .inr (ns', ts)
theorem rfr_un {ns : List Str} {ts : List (List Str)} {r r' : Str ⊕ (List Str × List (List Str))} (h : RFr ns ts r) (h' : RFr ns ts r') : r = r' := by
  obtain ⟨n1, a1, m1, e⟩ := h
  obtain ⟨n2, a2, m2, e'⟩ := h'
  rw [e, e', a1.same a2 fun z => (m1 z).trans (m2 z).symm]
def t11 (Ts : List (Addr × Str)) (C : Addr) : TS := fun D σ H => ∃ (p d x t a l1 l2 tt : Addr) (ns : List Str) (ks : List (Addr × List Str)) (u v : Str) (y0 u9 u10 u11 u12 u13 u14 : Option V),
  σ = slS p d x l1 l2 u v tt y0 u9 u10 u11 u12 u13 u14 ∧ OS Ts C p d x t a l1 l2 tt ns ks u v H ∧ ∀ H', ExtN H H' → Tabs Ts H' → D.nx σ H'
theorem fresh_not {ns : List Str} (pool : ∀ n ∈ ns, n ∈ poolN) : ("fresh" : Str) ∉ ns := fun m => absurd (pool _ m) (by decide +kernel)
theorem one11 {Ts : List (Addr × Str)} {Pt : Addr} (T : TX K mg) (L : LamT base mg c Pt qOne Ts) (hr : hO A s f c) : PS (XO P w K mg base f c A fr s H0 E) (stmtAt (defBody (top 56)) 11) (t11 Ts T.C_Web) := by
  have hu := hr.units
  have GW : FnOk P w K mg base (L2.CX P w) 10 T.f_Web_with_place T.d_Web_with_place ["self", "name"] (spWithP T.C_Web T.C_InvalidWeb) := (T.q_withP (gg := false)).ok
  refine ps_weak (ifNe (by exact hu) (askOne T L hr (lamS_by (by show lamSB (defScope (top 56)) _ = true; decide +kernel)) (by rfl) (by intros; rfl)
    (fun A' outer s' H E' f' c' hr2 => pe_meth (E := E') (pv 2) T.cl_Web T.M_Web_with_place GW (hr2.mono (by decide)) T.b_Web_with_place .nil (passes_call (takes_of rfl rfl rfl rfl) fun _ _ _ _ h => h) (pa_cons pe_str pa_nil)))
    (pe_disp (pps_cons pe_str (pe_callB cr_sortedS (by rfl) T.n_sorted (by decide +kernel) (pa_cons (pe_op op_cat (pv 3) (pe_lst (pa_cons pe_str pa_nil))) pa_nil)) (pps_cons pe_str (pv 4) pps_nil)) (by rfl) (by rfl) (fun z => by cases z) (by decide)) (pss_one (ps_ret pe_bl))) ?_
  rintro D σ H ⟨p, d, x, t, a, l1, l2, tt, ns, ks, u, v, y0, u9, u10, u11, u12, u13, u14, rfl, o, q⟩
  have dr := o.oi.dr
  have lk := dr.len
  rw [List.length_map] at lk
  have ln := dr.few
  refine ⟨⟨RFr ns (ks.map (·.2)), fun _ _ => rfr_un, o.oi.tabs, fun H1 eN Q hQ => ?_, fun H2 e2 Q hQ => ?_⟩, q⟩
  · have W1 := o.oi.webE eN
    obtain ⟨dx, D1, e1, _, _⟩ := W1.ins
    refine ⟨_, rfl, x, dx, _, rfl, e1, rfl, x, t, a, ns, ks, _, rfl, W1, by decide +kernel, by decide +kernel, fresh_not dr.pool, by omega, by omega, ?_⟩
    refine gath_ok2 (fun z m => ?_) (by simp) ⟨ns ++ [("fresh" : Str)], by rw [List.length_append]; simp; omega, fun z m => m⟩ (fun k m => ?_) fun H' x' t' a' ns' ks' an mn' as' ms' s' n' W' => ?_
    · rcases List.mem_append.mp m with m | m
      · exact pool_ok z (dr.pool z m)
      · rw [List.mem_singleton.mp m]
        decide +kernel
    · obtain ⟨x, y, e, mx, my, l⟩ := dr.two k m
      exact ⟨x, y, e, List.mem_append_left _ mx, List.mem_append_left _ my, l⟩
    · have ek : ks'.map (·.2) = ks.map (·.2) := as'.same dr.ascT ms'
      exact told_web W' (r := .inr (ns', ks.map (·.2))) (by rw [ek]) fun H'' v' s'' told' => hQ H'' v' _ (same_trans s' s'') told' ⟨ns', an, mn', rfl⟩
  · have a1 := stays o.oi.dice (.ext e2) o.oi.at1 (strs_ne ns)
    have a2 := stays o.oi.dice (.ext e2) o.oi.at2 (refs_ne ks)
    have each := each_stays o.oi.dice (.ext e2) o.oi.each
    refine fun e ne1 => ?_
    have s1 := same_upd (o := .dK []) ne1
    have hd1 : (upd H2 e (.dK [])) e = some (.dK []) := upd_same
    generalize hH1 : upd H2 e (.dK []) = H3 at s1 hd1 ⊢
    refine ⟨_, rfl, by show 1 ≤ sizeLine; decide, fun g ng => ?_⟩
    have s2 := same_upd (o := .lst [V.str ("fresh" : Str)]) ng
    have hg : (upd H3 g (.lst [V.str ("fresh" : Str)])) g = some (.lst [V.str ("fresh" : Str)]) := upd_same
    generalize upd H3 g (.lst [V.str ("fresh" : Str)]) = H4 at s2 hg ⊢
    refine ⟨l1, g, _, _, rfl, rfl, s2 _ _ (s1 _ _ a1), hg, by rw [List.length_map, sizeLine_eq]; simp; omega, fun j nj => ?_⟩
    have s3 := same_upd (o := .lst (ns.map V.str ++ [V.str ("fresh" : Str)])) nj
    have hj : (upd H4 j (.lst (ns.map V.str ++ [V.str ("fresh" : Str)]))) j = some (.lst ((ns ++ [("fresh" : Str)]).map V.str)) := by
      rw [upd_same, List.map_append]
      rfl
    generalize upd H4 j (.lst (ns.map V.str ++ [V.str ("fresh" : Str)])) = H5 at s3 hj ⊢
    refine ⟨j, ns ++ [("fresh" : Str)], rfl, SqL.of hj, by rw [List.length_append]; simp; omega, fun ms m pm so nm => ?_⟩
    have s4 := same_upd (o := .lst (ms.map V.str)) nm
    have hm : (upd H5 m (.lst (ms.map V.str))) m = some (.lst (ms.map V.str)) := upd_same
    generalize upd H5 m (.lst (ms.map V.str)) = H6 at s4 hm ⊢
    have S := same_trans s2 (same_trans s3 s4)
    have S2 := same_trans s1 S
    have nd : (ns ++ [("fresh" : Str)]).Nodup := List.nodup_append.mpr ⟨ascN_nodup dr.asc, by simp, fun x mx y my e => fresh_not dr.pool (by rw [← List.mem_singleton.mp my, ← e]; exact mx)⟩
    subst hH1
    obtain ⟨hd8, S8, pl⟩ := plain_disp (ns := ms) (ks := ks) ne1 S hm (S2 _ _ a2) (each.same S2)
    refine ⟨_, rfl, hd8, [(Sum.inr "places", .ref m), (Sum.inr "ties", .ref l2)], rfl, by show 2 ≤ 15; decide, ?_⟩
    exact hQ _ _ _ S8 (.web pl) ⟨ms, ascN_of so (pm.nodup_iff.mpr nd), fun z => pm.mem_iff, rfl⟩
end
end Lx

/-! The law: one web, places taken out. -/
namespace Lx
open PySem PySem.Spec PyProof.Rows L2 Fw LamX
theorem pe_ownTk {X : Cx} {K : PySem.W.Frag} {CX : CXT} {gg : Bool} {k : Nat} {C f : Addr} {fd : FuncData} {ps : List Str} {sp : Sp} {E : L2.St → XK} {op : Operator} {a b : Expr} {ta tb : TE} {pos : Pos} (h : X.K = K) (O : OwnOp K C f op) (T : TupOp K C op) (G : gg = true → X.A.guards = some []) (F : FnV gg X.prog X.w K X.mg X.base CX k f fd ps sp) (hr : Room k X.A) (hb : Binds K fd ps [])
    (hx : ∀ σ, PassesAt CX X σ (E σ)) (ha : PE X a ta) (hbb : PE X b tb) : PE X (.BinOp a op b pos) (tOwn2 (rOwnT K C sp) E ta tb) := by
  subst h
  exact pe_ownT O T G F hr hb hx ha hbb
/-- what is due where places are taken out -/
def RKe (ns : List Str) (ts : List (List Str)) (gs : List Str) (r : Str ⊕ (List Str × List (List Str))) : Prop :=
  (lessN ns gs ≠ [] ∧ r = .inr (lessN ns gs, ts.filter (outG gs))) ∨ (lessN ns gs = [] ∧ r = .inl ("web" : Str))
theorem rke_un {ns : List Str} {ts : List (List Str)} {gs : List Str} {r r' : Str ⊕ (List Str × List (List Str))} (h : RKe ns ts gs r) (h' : RKe ns ts gs r') : r = r' := by
  rcases h with ⟨c, e⟩ | ⟨c, e⟩ <;> rcases h' with ⟨c', e'⟩ | ⟨c', e'⟩
  · rw [e, e']
  · exact absurd c' c
  · exact absurd c c'
  · rw [e, e']
theorem outG_iff {gs k : List Str} : outG gs k = true ↔ ∀ z ∈ k, z ∉ gs := by
  unfold outG
  rw [List.all_eq_true]
  refine forall₂_congr fun z _ => ?_
  rw [Bool.not_eq_true', ← Bool.not_eq_true, inV_iff]
theorem both_out {ns : List Str} {ks : List (Addr × List Str)} (dr : Drawn ns (ks.map (·.2))) (gs : List Str) : (ks.filter fun k => bothIn (lessN ns gs) k.2).map (·.2) = (ks.map (·.2)).filter (outG gs) := by
  rw [List.filter_map]
  congr 1
  refine List.filter_congr fun k m => ?_
  rw [Bool.eq_iff_iff]
  exact (both_less dr (List.mem_map_of_mem m)).trans outG_iff.symm
theorem out_web {ns : List Str} {ts : List (List Str)} (dr : Drawn ns ts) (gs : List Str) : webB (lessN ns gs) (ts.filter (outG gs)) = !(lessN ns gs).isEmpty := by
  have asc := less_asc (gs := gs) dr.asc
  cases h : lessN ns gs with
  | nil => rfl
  | cons z r =>
    have w : webB (lessN ns gs) (ts.filter (outG gs)) = true := by
     refine pairs_web (fun n m => pool_ok n (dr.pool n (mem_less.mp m).1)) asc (by rw [h]; simp) (Nat.le_trans (List.length_filter_le _ _) (by have := dr.few; omega)) (AscT.filter dr.ascT _) (fun k m => ?_) (Nat.le_trans (List.length_filter_le _ _) (by have := dr.len; omega))
     obtain ⟨m1, m2⟩ := List.mem_filter.mp m
     obtain ⟨x, y, rfl, mx, my, l⟩ := dr.two k m1
     have o := outG_iff.mp m2
     exact (mem_pairs asc _).mpr ⟨x, y, rfl, mem_less.mpr ⟨mx, o x (by simp)⟩, mem_less.mpr ⟨my, o y (by simp)⟩, l⟩
    rw [← h, w, h]
    rfl
theorem kept_due {Q : VK} {E' : XK} {H : Hp} {d g : Addr} {ns gs : List Str} {ks : List (Addr × List Str)} (dr : Drawn ns (ks.map (·.2))) (pl : PlainAt H d ns ks) (hg : Rd H g (.tup (gs.map V.str))) (hQ : ∀ H' v r, Same H H' → ToldR H' v r → RKe ns (ks.map (·.2)) gs r → Q v H') : spKept [.ref d, .ref g] H Q E' := by
  have ln := dr.few
  have lk := dr.len
  have lk' := lk
  rw [List.length_map] at lk'
  refine ⟨d, g, ns, gs, ks, rfl, pl, hg, fun k m => ?_, fun z m => pool_short (dr.pool z m), by omega, by omega, fun H' d' ns' ks' s' nd as mn at' mt ne' pl' => ?_⟩
  · obtain ⟨x, y, e, mx, my, _⟩ := dr.two k.2 (List.mem_map_of_mem m)
    exact ⟨x, y, e, mx, my⟩
  · have e1 : ns' = lessN ns gs := as.same (less_asc dr.asc) fun z => by
      rw [mn z]
      refine ⟨fun h => ?_, .inl⟩
      rcases h with h | ⟨k, mk, mz⟩
      · exact h
      · obtain ⟨m1, m2⟩ := List.mem_filter.mp mk
        obtain ⟨x, y, rfl, mx, my, l⟩ := dr.two k m1
        refine mem_less.mpr ⟨?_, outG_iff.mp m2 z mz⟩
        rcases (show z = x ∨ z = y by simpa using mz) with q1 | q1 <;> rw [q1] <;> assumption
    have e2 : ks'.map (·.2) = (ks.map (·.2)).filter (outG gs) := at'.same (AscT.filter dr.ascT _) fun z => by
      rw [mt z]
      constructor
      · rintro ⟨k, mk, rfl⟩
        obtain ⟨m1, m2⟩ := List.mem_filter.mp mk
        obtain ⟨x, y, rfl, mx, my, l⟩ := dr.two k m1
        rw [asTie_lt l]
        exact mk
      · intro mz
        obtain ⟨m1, m2⟩ := List.mem_filter.mp mz
        obtain ⟨x, y, rfl, mx, my, l⟩ := dr.two z m1
        exact ⟨_, mz, (asTie_lt l).symm⟩
    have l1 : ns'.length ≤ 8 := by
      rw [e1]
      exact Nat.le_trans (List.length_filter_le _ _) ln
    have l2 : ks'.length ≤ 28 := by
      have z := congrArg List.length e2
      rw [List.length_map] at z
      rw [z]
      exact Nat.le_trans (List.length_filter_le _ _) lk
    refine ⟨fun hf => ?_, fun hf => ?_⟩
    · unfold fits at hf
      have h1 : 1 ≤ ns'.length := of_decide_eq_true (Bool.and_eq_true_iff.mp (Bool.and_eq_true_iff.mp hf).1).1
      refine hQ H' _ (.inr (lessN ns gs, (ks.map (·.2)).filter (outG gs))) s' ?_ (.inl ⟨fun z => ?_, rfl⟩)
      · rw [← e1, ← e2]
        exact .web pl'
      · rw [e1, z] at h1
        exact absurd h1 (by simp)
    · refine hQ H' _ _ s' (.word _) (.inr ⟨?_, rfl⟩)
      rw [← e1]
      unfold fits at hf
      rw [decide_eq_true (show ns'.length ≤ 12 by omega), decide_eq_true (show ks'.length ≤ 40 by omega), Bool.and_true, Bool.and_true] at hf
      have := of_decide_eq_false hf
      exact List.length_eq_zero_iff.mp (by omega)
theorem wop_gives {C CT CW x t a g : Addr} {Q : VK} {H : Hp} {ns gs : List Str} {ks : List (Addr × List Str)} (dr : Drawn ns (ks.map (·.2))) (W : WebAt C H x t a ns ks) (hg : Rd H g (.tup (gs.map V.str))) (sub : ∀ z ∈ gs, z ∈ ns)
    (hQ : ∀ H' v r, Same H H' → ToldR H' v r → RKe ns (ks.map (·.2)) gs r → Q v H') : spWoP C CW [.ref x, .ref g] H (fun v H' => spToldW C [v] H' Q (fun _ _ _ => False)) (EAsked CT CW Q) := by
  have ln := dr.few
  refine ⟨x, t, a, g, ns, ks, gs, rfl, W, by omega, hg, sub, fun cc H' s' => .inr ⟨rfl, hQ H' _ _ s' (.word _) (.inr ⟨?_, rfl⟩)⟩, fun cc H' y t' a' s' n' W' => told_web W' rfl fun H'' v' s'' told' => hQ H'' v' _ (same_trans s' s'') told' (.inl ⟨?_, by rw [both_out dr]⟩)⟩
  · rw [both_out dr, out_web dr] at cc
    exact List.isEmpty_iff.mp (by simpa using cc)
  · rw [both_out dr, out_web dr] at cc
    intro z
    rw [z] at cc
    cases cc
section
variable {P : Program} {w : World} {K : PySem.W.Frag} {mg : Str → Option Value} {base : Heap} {f c : Addr} {A : Around} {fr : List Env} {s : Shared} {H0 : Hp} {E : XK}
def t12 (Ts : List (Addr × Str)) (C : Addr) : TS := fun D σ H => ∃ (p d x t a l1 l2 tt : Addr) (ns : List Str) (ks : List (Addr × List Str)) (u v : Str) (y0 u9 u10 u11 u12 u13 u14 : Option V),
  σ = slS p d x l1 l2 u v tt y0 u9 u10 u11 u12 u13 u14 ∧ OS Ts C p d x t a l1 l2 tt ns ks u v H ∧ ∀ H' g (gs : List Str), OS Ts C p d x t a l1 l2 tt ns ks u v H' → ButT p H H' → Rd H' g (.tup (gs.map V.str)) → (∀ z ∈ gs, z ∈ ns) → D.nx (slS p d x l1 l2 u v tt y0 u9 u10 u11 u12 u13 (some (.ref g))) H'
theorem one12 {Ts : List (Addr × Str)} {C : Addr} (T : TX K mg) (hG : A.guards = some []) (hr : hO A s f c) : PS (XO P w K mg base f c A fr s H0 E) (stmtAt (defBody (top 56)) 12) (t12 Ts C) := by
  have hu := hr.units
  have GM : FnG P w K mg base CX0 2 T.f__law_mixed T.d__law_mixed ["_law_dice_here", "_law_items"] (spMixed K) := T.q_mixed
  have GR : FnG P w K mg base CX0 1 T.f__law_roll T.d__law_roll ["_law_dice_here", "_law_total"] spRoll := T.q_roll
  refine ps_weak (ps_set (i := 14) scOne.nd rfl (Or.inr rfl) (pe_callTy cr_tupF (by rfl) T.n_tuple (by decide +kernel) (pa_cons (pe_slice (sl_listK (K := K) rfl)
      (pe_callG (E := fun _ _ _ _ => False) hG GM (hr.mono (by decide)) (by rfl) T.m__law_mixed T.F__law_mixed.kp T.b__law_mixed .nil (fun _ => passAt0) (pa_cons (pv 0) (pa_cons (pv 3) pa_nil))) po_none
      (po_some (pe_callG (E := fun _ _ _ _ => False) hG GR (hr.mono (by decide)) (by rfl) T.m__law_roll T.F__law_roll.kp T.b__law_roll .nil (fun _ => passAt0) (pa_cons (pv 0) (pa_cons (pe_op op_add (pe_callB call_len_seq (by rfl) T.n_len PySem.boot_len (pa_cons (pv 3) pa_nil)) pe_int) pa_nil))))) pa_nil))) ?_
  rintro D σ H ⟨p, d, x, t, a, l1, l2, tt, ns, ks, u, v, y0, u9, u10, u11, u12, u13, u14, rfl, o, q⟩
  have dr := o.oi.dr
  have ln := dr.few
  refine ⟨_, rfl, _, rfl, p, l1, _, rfl, o.oi.dice, SqL.of o.oi.at1, by rw [List.length_map]; omega, fun ys g H2 py b2 d2 ng hg => ?_⟩
  obtain ⟨mx, pm, em⟩ := perm_lift V.str py ns rfl
  subst em
  have o2 := o.but (.of b2) d2 (tabs_but o.oi.tabs o.oi.dice b2)
  have el : ((ns.map V.str).length : Int) + 1 = ((ns.length + 1 : Nat) : Int) := by rw [List.length_map]; omega
  refine ⟨_, rfl, _, rfl, l1, _, rfl, .inl (SqL.of o2.oi.at1), _, _, rfl, rfl, p, _, rfl, d2, ?_, ?_, fun r H3 r0 r1 b3 d3 => ⟨r, rfl, ?_⟩⟩
  · rw [el]; omega
  · rw [el]; omega
  have ngp := dice_ne o.oi.dice ng
  have o3 := o2.but (.of b3) d3 (tabs_but o2.oi.tabs o2.oi.dice b3)
  have hg3 := b3 _ _ ngp hg
  have B3 := b2.trans b3
  obtain ⟨j, ej⟩ : ∃ j : Nat, r = (j : Int) := ⟨r.toNat, by omega⟩
  refine ⟨g, _, rfl, SqL.of hg3, fun c nc => ?_⟩
  have s4 := same_upd (o := .lst (cutV (mx.map V.str) none (some r))) nc
  have hc : (upd H3 c (.lst (cutV (mx.map V.str) none (some r)))) c = some (.lst ((mx.take j).map V.str)) := by rw [upd_same, ej, cutTo, List.map_take]
  generalize upd H3 c (.lst (cutV (mx.map V.str) none (some r))) = H4 at s4 hc ⊢
  refine ⟨c, _, rfl, .inl ⟨SqL.of hc, fun g' o' ng' od => ?_⟩⟩
  have s5 := same_upd (o := .frz o' (.tup ((mx.take j).map V.str))) ng'
  exact q _ g' (mx.take j) ((o3.same s4).same s5) ((ButT.of B3).trans ((ButT.same s4).trans (.same s5))) (TupK.new od).rd fun z m => pm.mem_iff.mp (List.mem_of_mem_take m)
def t13 (Ts : List (Addr × Str)) (C : Addr) : TS := fun D σ H => ∃ (p d x t a l1 l2 tt g : Addr) (ns gs : List Str) (ks : List (Addr × List Str)) (u v : Str) (y0 u9 u10 u11 u12 u13 : Option V),
  σ = slS p d x l1 l2 u v tt y0 u9 u10 u11 u12 u13 (some (.ref g)) ∧ OS Ts C p d x t a l1 l2 tt ns ks u v H ∧ Rd H g (.tup (gs.map V.str)) ∧ (∀ z ∈ gs, z ∈ ns) ∧ ∀ H', ExtN H H' → Tabs Ts H' → D.nx σ H'
theorem one13 {Ts : List (Addr × Str)} {Pt : Addr} (T : TX K mg) (L : LamT base mg c Pt qOne Ts) (hG : A.guards = some []) (hr : hO A s f c) : PS (XO P w K mg base f c A fr s H0 E) (stmtAt (defBody (top 56)) 13) (t13 Ts T.C_Web) := by
  have hu := hr.units
  have GW : FnOk P w K mg base (L2.CX P w) 10 T.f_Web_without_places T.d_Web_without_places ["self", "places"] (spWoP T.C_Web T.C_InvalidWeb) := (T.q_wop (gg := false)).ok
  have GK : FnG P w K mg base CX0 4 T.f__law_kept T.d__law_kept ["_law_plain_here", "_law_gone"] spKept := T.q_kept
  refine ps_weak (ifNe (by exact hu) (askOne T L hr (lamS_by (by show lamSB (defScope (top 56)) _ = true; decide +kernel)) (by rfl) (by intros; rfl)
    (fun A' outer s' H E' f' c' hr2 => pe_meth (E := E') (pv 2) T.cl_Web T.M_Web_without_places GW (hr2.mono (by decide)) T.b_Web_without_places .nil (passes_call (takes_of rfl rfl rfl rfl) fun _ _ _ _ h => h) (pa_cons (pv 14) pa_nil)))
    (pe_callG (E := fun _ _ _ _ => False) hG GK (hr.mono (by decide)) (by rfl) T.m__law_kept T.F__law_kept.kp T.b__law_kept .nil (fun _ => passAt0) (pa_cons (pv 1) (pa_cons (pv 14) pa_nil))) (pss_one (ps_ret pe_bl))) ?_
  rintro D σ H ⟨p, d, x, t, a, l1, l2, tt, g, ns, gs, ks, u, v, y0, u9, u10, u11, u12, u13, rfl, o, hg, sub, q⟩
  refine ⟨⟨RKe ns (ks.map (·.2)) gs, fun _ _ => rke_un, o.oi.tabs, fun H1 eN Q hQ => ?_, fun H2 e2 Q hQ => ?_⟩, q⟩
  · have W1 := o.oi.webE eN
    obtain ⟨dx, D1, e1, _, _⟩ := W1.ins
    exact ⟨_, rfl, x, dx, _, rfl, e1, rfl, _, rfl, wop_gives o.oi.dr W1 (rd_stays o.oi.dice (.ext eN) hg) sub hQ⟩
  · exact ⟨_, rfl, _, rfl, kept_due (E' := fun _ _ _ => False) o.oi.dr (plain_ext e2 o.oi.plain) (rd_stays o.oi.dice (.ext e2) hg) hQ⟩
def t14 (Ts : List (Addr × Str)) (C : Addr) : TS := fun D σ H => ∃ (p d x t a l1 l2 tt g : Addr) (ns gs : List Str) (ks : List (Addr × List Str)) (u v : Str) (y0 u9 u10 u11 u12 u13 : Option V),
  σ = slS p d x l1 l2 u v tt y0 u9 u10 u11 u12 u13 (some (.ref g)) ∧ OS Ts C p d x t a l1 l2 tt ns ks u v H ∧ Rd H g (.tup (gs.map V.str)) ∧ (∀ z ∈ gs, z ∈ ns) ∧ ∀ H', ExtN H H' → Tabs Ts H' → D.rt (.bl true) H'
theorem one14 {Ts : List (Addr × Str)} {Pt : Addr} (T : TX K mg) (L : LamT base mg c Pt qOne Ts) (hG : A.guards = some []) (hr : hO A s f c) : PS (XO P w K mg base f c A fr s H0 E) (stmtAt (defBody (top 56)) 14) (t14 Ts T.C_Web) := by
  have hu := hr.units
  have GW : FnV false P w K mg base (L2.CX P w) 11 T.f_Web___sub__ T.d_Web___sub__ ["self", "other"] (spWoP T.C_Web T.C_InvalidWeb) := T.q_sub
  have GK : FnG P w K mg base CX0 4 T.f__law_kept T.d__law_kept ["_law_plain_here", "_law_gone"] spKept := T.q_kept
  refine ps_weak (retEq (by exact hu) (askOne T L hr (lamS_by (by show lamSB (defScope (top 56)) _ = true; decide +kernel)) (by rfl) (by intros; rfl)
    (fun A' outer s' H E' f' c' hr2 => pe_ownTk (X := lamCx (XO P w K mg base f c A fr s H0 E) A' outer s' H E' _ f' c') (K := K) (gg := false) (E := WE fun cls d _ H => E' cls d H) rfl T.O_Web___sub__ T.OT_Web___sub__ (fun z => nomatch z) GW hr2 T.b_Web___sub__ (fun σ => passAt (takes_of rfl rfl rfl rfl) σ) (pv 2) (pv 14)))
    (pe_callG (E := fun _ _ _ _ => False) hG GK (hr.mono (by decide)) (by rfl) T.m__law_kept T.F__law_kept.kp T.b__law_kept .nil (fun _ => passAt0) (pa_cons (pv 1) (pa_cons (pv 14) pa_nil)))) ?_
  rintro D σ H ⟨p, d, x, t, a, l1, l2, tt, g, ns, gs, ks, u, v, y0, u9, u10, u11, u12, u13, rfl, o, hg, sub, q⟩
  refine ⟨⟨RKe ns (ks.map (·.2)) gs, fun _ _ => rke_un, o.oi.tabs, fun H1 eN Q hQ => ?_, fun H2 e2 Q hQ => ?_⟩, q⟩
  · have W1 := o.oi.webE eN
    obtain ⟨dx, D1, e1, _, _⟩ := W1.ins
    have hg1 := rd_stays o.oi.dice (.ext eN) hg
    exact ⟨_, rfl, _, rfl, x, g, dx, _, _, rfl, rfl, e1, .inl hg1, wop_gives o.oi.dr W1 hg1 sub hQ⟩
  · exact ⟨_, rfl, _, rfl, kept_due (E' := fun _ _ _ => False) o.oi.dr (plain_ext e2 o.oi.plain) (rd_stays o.oi.dice (.ext e2) hg) hQ⟩
end
end Lx

/-! The law: one web, whole. -/
namespace Lx
open PySem PySem.Spec PyProof.Rows L2 Fw LamX
theorem pss_body {X : Cx} {l l' : List Stmt} {t : TS} (e : l = l') (h : PSs X l' t) : PSs X l t := e ▸ h
def spOneR (Ts : List (Addr × Str)) (C : Addr) : Sp := fun vs H Q _ => ∃ (p d x t a l1 l2 : Addr) (ns : List Str) (ks : List (Addr × List Str)), vs = [.ref p, .ref d, .ref x] ∧ OI Ts C p d x t a l1 l2 ns ks H ∧ ∀ H', ButT p H H' → DiceAt H' p → Tabs Ts H' → Q (.bl true) H'
section
variable {P : Program} {w : World} {K : PySem.W.Frag} {mg : Str → Option Value} {base : Heap}
theorem TX.q_one {Ts : List (Addr × Str)} {Pt : Addr} (T : TX K mg) (L : LamT base mg T.c__law_one_right Pt qOne Ts) : FnG P w K mg base CX0 16 T.f__law_one_right T.d__law_one_right ["_law_dice_here", "_law_plain_here", "_law_web"] (spOneR Ts T.C_Web) := by
  refine fnC T.FC__law_one_right scOne (fun vs H Q E h => ?_) (fun A fr s H vs Q E hGt hr h => ?_)
  · obtain ⟨p, d, x, t, a, l1, l2, ns, ks, rfl, _⟩ := h
    rfl
  · have hG := hGt rfl
    obtain ⟨p, d, x, t, a, l1, l2, ns, ks, rfl, o, q⟩ := h
    have ge := o.dr.ge
    have few := o.dr.few
    have eb : defBody (top 56) = [stmtAt (defBody (top 56)) 0, stmtAt (defBody (top 56)) 1, stmtAt (defBody (top 56)) 2, stmtAt (defBody (top 56)) 3, stmtAt (defBody (top 56)) 4, stmtAt (defBody (top 56)) 5, stmtAt (defBody (top 56)) 6, stmtAt (defBody (top 56)) 7,
      stmtAt (defBody (top 56)) 8, stmtAt (defBody (top 56)) 9, stmtAt (defBody (top 56)) 10, stmtAt (defBody (top 56)) 11, stmtAt (defBody (top 56)) 12, stmtAt (defBody (top 56)) 13, stmtAt (defBody (top 56)) 14] := rfl
    refine ⟨_, pss_body eb (pss_cons (one0 hr) (pss_cons (one1 T hG hr) (pss_cons (one2 T hG hr) (pss_cons (one3 (Ts := Ts) T hG hr) (pss_cons (one4 T L hr) (pss_cons (one5 (Ts := Ts) (C := T.C_Web) hr) (pss_cons (one6 T L hr) (pss_cons (one7 (Ts := Ts) (C := T.C_Web) T hG hr)
      (pss_cons (one8 (Ts := Ts) (C := T.C_Web) hr) (pss_cons (one9 (Ts := Ts) (C := T.C_Web) T hG hr) (pss_cons (one10 T L hr) (pss_cons (one11 T L hr) (pss_cons (one12 (Ts := Ts) (C := T.C_Web) T hG hr) (pss_cons (one13 T L hG hr) (pss_one (one14 T L hG hr)))))))))))))))), ?_⟩
    refine ⟨p, d, x, l1, l2, rfl, o.at_d, p, d, x, l1, l2, ns, rfl, o.dice, o.at1, ge, by omega, fun H1 u v mu mv b1 d1 => ?_⟩
    have o1 := o.but (.of b1) d1 (tabs_but o.tabs o.dice b1)
    refine ⟨p, d, x, u, v, _, _, rfl, fun H2 tt s2 rt => ?_⟩
    have o2 := o1.same s2
    have B2 := (ButT.of b1).trans (.same s2)
    refine ⟨p, d, x, t, a, l1, l2, tt, ns, ks, u, v, rfl, o2, rt, mu, mv, fun H3 y r s3 told rw => ?_⟩
    have os3 : OS Ts T.C_Web p d x t a l1 l2 tt ns ks u v H3 := ⟨o2.same s3, rd_same rt s3, mu, mv⟩
    have B3 := B2.trans (.same s3)
    refine ⟨p, d, x, t, a, l1, l2, tt, ns, ks, u, v, y, r, _, _, _, _, _, _, rfl, os3, told, rw, fun H4 e4 tb4 => ?_⟩
    have os4 := os3.ext e4 tb4
    have B4 := B3.trans (.ext e4)
    refine ⟨p, d, x, t, a, l1, l2, tt, ns, ks, u, v, _, _, _, _, _, _, _, rfl, os4, fun H5 y5 r5 s5 told5 rw5 => ?_⟩
    have os5 := os4.same s5
    have B5 := B4.trans (.same s5)
    refine ⟨p, d, x, t, a, l1, l2, tt, ns, ks, u, v, y5, r5, _, _, _, _, _, _, rfl, os5, told5, rw5, fun H6 e6 tb6 => ?_⟩
    have os6 := os5.ext e6 tb6
    have B6 := B5.trans (.ext e6)
    refine ⟨p, d, x, t, a, l1, l2, tt, ns, ks, u, v, _, _, _, _, _, _, _, rfl, os6, fun H7 L1 ms s7 h7 mm lm => ?_⟩
    have os7 := os6.same s7
    have B7 := B6.trans (.same s7)
    refine ⟨p, d, x, t, a, l1, l2, tt, ns, ks, u, v, _, _, _, _, _, _, _, rfl, os7, fun H8 L2 ls s8 h8 em => ?_⟩
    have os8 := os7.same s8
    have B8 := B7.trans (.same s8)
    refine ⟨p, d, x, t, a, l1, l2, tt, L1, L2, ns, ks, ms, ls, u, v, _, _, _, _, _, rfl, os8, h7.same s8, h8, mm, lm, em, fun H9 y9 s9 told9 => ?_⟩
    have os9 := os8.same s9
    have B9 := B8.trans (.same s9)
    refine ⟨p, d, x, t, a, l1, l2, tt, ns, ks, u, v, y9, _, _, _, _, _, _, rfl, os9, told9, fun H10 e10 tb10 => ?_⟩
    have os10 := os9.ext e10 tb10
    have B10 := B9.trans (.ext e10)
    refine ⟨p, d, x, t, a, l1, l2, tt, ns, ks, u, v, _, _, _, _, _, _, _, rfl, os10, fun H11 e11 tb11 => ?_⟩
    have os11 := os10.ext e11 tb11
    have B11 := B10.trans (.ext e11)
    refine ⟨p, d, x, t, a, l1, l2, tt, ns, ks, u, v, _, _, _, _, _, _, _, rfl, os11, fun H12 g gs os12 b12 hg sub => ?_⟩
    have B12 := B11.trans b12
    refine ⟨p, d, x, t, a, l1, l2, tt, g, ns, gs, ks, u, v, _, _, _, _, _, _, rfl, os12, hg, sub, fun H13 e13 tb13 => ?_⟩
    have os13 := os12.ext e13 tb13
    have B13 := B12.trans (.ext e13)
    refine ⟨p, d, x, t, a, l1, l2, tt, g, ns, gs, ks, u, v, _, _, _, _, _, _, rfl, os13, rd_stays os12.oi.dice (.ext e13) hg, sub, fun H14 e14 tb14 => ?_⟩
    exact q H14 (B13.trans (.ext e14)) (dice_ext os13.oi.dice e14) tb14
end
end Lx

/-! The law: two webs: images, in lists alone. -/
namespace Lx
open PySem PySem.Spec PyProof.Rows L2 Fw LamX
theorem passNoM {X : Cx} {P : Program} {w : World} : Passes (L2.CX P w) X (fun _ _ _ => False) := fun _ _ _ _ _ _ _ ⟨_, _, _, _, _, _, _, _, _, _, _, _, h⟩ => h.elim
theorem passNo {X : Cx} {P : Program} {w : World} {σ : L2.St} : PassesAt (L2.CX P w) X σ (fun _ _ _ => False) := fun _ _ _ _ _ _ ⟨_, _, _, _, _, _, _, _, _, _, _, _, h⟩ => h.elim
def imgF (ps : List (Str × Str)) (n : Str) : Str := ((ps.find? fun p => decide (p.1 = n)).map (·.2)).getD Str.empty
def psw (ps : List (Str × Str)) : List (Str × Str) := ps.map fun p => (p.2, p.1)
theorem img_val : ∀ {ps : List (Str × Str)} {n : Str}, n ∈ ps.map (·.1) → valV (imgK ps) (Sum.inr n) = some (.str (imgF ps n)) ∧ (n, imgF ps n) ∈ ps
  | [], n, m => absurd m (by simp)
  | p :: ps, n, m => by
    unfold imgF valV imgK
    rw [List.map_cons, List.find?_cons, List.find?_cons]
    by_cases c : p.1 = n
    · rw [decide_eq_true (show (Sum.inr p.1 : L2.Key) = Sum.inr n by rw [c]), decide_eq_true c]
      refine ⟨rfl, ?_⟩
      show (n, p.2) ∈ p :: ps
      rw [← c]
      exact List.mem_cons_self
    · rw [decide_eq_false (show ¬ (Sum.inr p.1 : L2.Key) = Sum.inr n from fun e => c (by injection e)), decide_eq_false c]
      have m' : n ∈ ps.map (·.1) := by
        rcases List.mem_cons.mp (show n ∈ p.1 :: ps.map (·.1) from m) with e | e
        · exact absurd e.symm c
        · exact e
      obtain ⟨a, b⟩ := img_val m'
      exact ⟨a, List.mem_cons_of_mem _ b⟩
theorem fst_inj : ∀ {ps : List (Str × Str)}, (ps.map (·.1)).Nodup → ∀ {a b c : Str}, (a, b) ∈ ps → (a, c) ∈ ps → b = c
  | [], _, _, _, _, m, _ => absurd m (by simp)
  | p :: ps, nd, a, b, c, m1, m2 => by
    obtain ⟨h1, h2⟩ := List.nodup_cons.mp (show (p.1 :: ps.map (·.1)).Nodup from nd)
    rcases List.mem_cons.mp m1 with e1 | e1 <;> rcases List.mem_cons.mp m2 with e2 | e2
    · rw [← e1] at e2
      injection e2 with _ e2
      exact e2.symm
    · exact absurd (List.mem_map_of_mem (f := (·.1)) e2) (by rw [← e1] at h1; exact h1)
    · exact absurd (List.mem_map_of_mem (f := (·.1)) e1) (by rw [← e2] at h1; exact h1)
    · exact fst_inj h2 e1 e2
theorem psw_fst (ps : List (Str × Str)) : (psw ps).map (·.1) = ps.map (·.2) := by
  unfold psw
  rw [List.map_map]
  rfl
theorem psw_snd (ps : List (Str × Str)) : (psw ps).map (·.2) = ps.map (·.1) := by
  unfold psw
  rw [List.map_map]
  rfl
theorem mem_psw {ps : List (Str × Str)} {a b : Str} : (a, b) ∈ psw ps ↔ (b, a) ∈ ps := by
  unfold psw
  rw [List.mem_map]
  constructor
  · rintro ⟨⟨x, y⟩, m, e⟩
    injection e with e1 e2
    rw [← e1, ← e2]
    exact m
  · intro m
    exact ⟨_, m, rfl⟩
/-- an image of its own name is it again -/
theorem img_back {ps : List (Str × Str)} (n2 : (ps.map (·.2)).Nodup) {n : Str} (m : n ∈ ps.map (·.1)) : imgF (psw ps) (imgF ps n) = n := by
  have a := (img_val m).2
  have b : (imgF ps n, n) ∈ psw ps := mem_psw.mpr a
  have c := (img_val (ps := psw ps) (n := imgF ps n) (by rw [psw_fst]; exact List.mem_map_of_mem (f := (·.2)) a)).2
  exact fst_inj (by rw [psw_fst]; exact n2) c b
theorem img_inj {ps : List (Str × Str)} (n2 : (ps.map (·.2)).Nodup) {a b : Str} (ma : a ∈ ps.map (·.1)) (mb : b ∈ ps.map (·.1)) (e : imgF ps a = imgF ps b) : a = b := by
  rw [← img_back n2 ma, e, img_back n2 mb]
theorem img_snd {ps : List (Str × Str)} {n : Str} (m : n ∈ ps.map (·.1)) : imgF ps n ∈ ps.map (·.2) := List.mem_map_of_mem (f := (·.2)) (img_val m).2
theorem merge_img : ∀ (qs ps : List (Str × Str)), ((ps ++ qs).map (·.1)).Nodup → mergeK (imgK ps) (imgK qs) = imgK (ps ++ qs)
  | [], ps, _ => by
    rw [List.append_nil]
    rfl
  | q :: qs, ps, nd => by
    have nd' : (((ps ++ [q]) ++ qs).map (·.1)).Nodup := by
      rw [List.append_assoc]
      exact nd
    have off : q.1 ∉ ps.map (·.1) := by
      rw [List.map_append] at nd
      exact fun m => (List.nodup_append.mp nd).2.2 _ m _ List.mem_cons_self rfl
    have e : mergeK (imgK ps) (imgK (q :: qs)) = mergeK (putK (imgK ps) (Sum.inr q.1) (.str q.2)) (imgK qs) := rfl
    rw [e, putK_new _ (img_off off), show imgK ps ++ [(Sum.inr q.1, V.str q.2)] = imgK (ps ++ [q]) by unfold imgK; rw [List.map_append]; rfl, merge_img qs (ps ++ [q]) nd', List.append_assoc]
    rfl
theorem img_keys {ps : List (Str × Str)} {ns : List Str} (h : ∀ z, z ∈ ns ↔ z ∈ ps.map (·.1)) : keysV (imgK ps) ns = true := by
  unfold keysV
  rw [Bool.and_eq_true, List.all_eq_true, List.all_eq_true]
  refine ⟨fun b m => ?_, fun b m => ?_⟩
  · obtain ⟨kv, m1, rfl⟩ := List.mem_map.mp m
    unfold imgK at m1
    obtain ⟨p, m2, rfl⟩ := List.mem_map.mp m1
    exact inV_iff.mpr ((h p.1).mpr (List.mem_map_of_mem m2))
  · obtain ⟨n, m1, rfl⟩ := List.mem_map.mp m
    rw [(img_val ((h n).mp m1)).1]
    rfl
theorem img_vals (ps : List (Str × Str)) : (imgK ps).map (·.2) = (ps.map (·.2)).map V.str := by
  unfold imgK
  rw [List.map_map, List.map_map]
  rfl
theorem diff_of {ms : List Str} (nm : ∀ z ∈ ms, nameS z = true) (nd : ms.Nodup) {n : Int} (ge : n ≤ (ms.length : Int)) : diffV (ms.map V.str) n = true := by
  unfold diffV
  rw [names_all, List.all_eq_true.mpr nm, List.length_map, decide_eq_true ge, List.map_map]
  have e : ms.map (strV ∘ V.str) = ms := by
    have : (strV ∘ V.str) = (id : Str → Str) := rfl
    rw [this, List.map_id]
  rw [e, decide_eq_true nd]
  rfl
theorem pairT_symm (u v : Str) : pairT u v = pairT v u := by
  by_cases c : u = v
  · rw [c]
  · unfold pairT
    cases h : ltS u v with
    | true => rw [if_pos rfl, if_neg (by rw [ltS_not h]; decide)]
    | false => rw [if_neg (by decide), if_pos (ltS_or c h)]
theorem pairT_image (g : Str → Str) (a b : Str) : pairT (g ((pairT a b).getD 0 Str.empty)) (g ((pairT a b).getD 1 Str.empty)) = pairT (g a) (g b) := by
  by_cases c : ltS a b = true
  · rw [show pairT a b = [a, b] by unfold pairT; rw [if_pos c]]
    rfl
  · rw [show pairT a b = [b, a] by unfold pairT; rw [if_neg c]]
    exact pairT_symm (g b) (g a)
theorem pairT_lt2 {x y : Str} (h : ltS x y = true) : pairT x y = [x, y] := by
  unfold pairT
  rw [if_pos h]
theorem mem_tiesAs {f : Str → Str} {ts : List (List Str)} {z : List Str} : z ∈ tiesAs f ts ↔ ∃ k ∈ ts, z = pairT (f (k.getD 0 Str.empty)) (f (k.getD 1 Str.empty)) := by
  unfold tiesAs
  rw [List.mem_map]
  exact ⟨fun ⟨k, m, e⟩ => ⟨k, m, e.symm⟩, fun ⟨k, m, e⟩ => ⟨k, m, e.symm⟩⟩
theorem asT_pair {u v : Str} (n : u ≠ v) : ∃ x y, pairT u v = [x, y] ∧ ((x = u ∧ y = v) ∨ (x = v ∧ y = u)) ∧ ltS x y = true := by
  unfold pairT
  cases c : ltS u v with
  | true =>
    rw [if_pos rfl]
    exact ⟨u, v, rfl, .inl ⟨rfl, rfl⟩, c⟩
  | false =>
    rw [if_neg (by decide)]
    exact ⟨v, u, rfl, .inr ⟨rfl, rfl⟩, ltS_or n c⟩
/-- ties with other names are ties -/
theorem tiesAs_two {f : Str → Str} {ns : List Str} {ts : List (List Str)} (two : ∀ k ∈ ts, ∃ x y, k = [x, y] ∧ x ∈ ns ∧ y ∈ ns ∧ ltS x y = true) (inj : ∀ a ∈ ns, ∀ b ∈ ns, f a = f b → a = b) :
    ∀ k ∈ tiesAs f ts, ∃ x y, k = [x, y] ∧ x ∈ ns.map f ∧ y ∈ ns.map f ∧ ltS x y = true := fun k m => by
  obtain ⟨j, mj, rfl⟩ := mem_tiesAs.mp m
  obtain ⟨x, y, rfl, mx, my, l⟩ := two j mj
  have n : f x ≠ f y := fun e => by
    rw [inj x mx y my e, ltS_irr] at l
    cases l
  obtain ⟨a, b, e, h, l'⟩ := asT_pair n
  refine ⟨a, b, e, ?_, ?_, l'⟩ <;> rcases h with ⟨h1, h2⟩ | ⟨h1, h2⟩ <;> simp only [h1, h2] <;> first | exact List.mem_map_of_mem mx | exact List.mem_map_of_mem my
/-- there and back -/
theorem tiesAs_back {f g : Str → Str} {ns : List Str} {ts ts' : List (List Str)} (two : ∀ k ∈ ts, ∃ x y, k = [x, y] ∧ x ∈ ns ∧ y ∈ ns ∧ ltS x y = true) (bk : ∀ n ∈ ns, g (f n) = n) (m' : ∀ z, z ∈ ts' ↔ z ∈ tiesAs f ts) (z : List Str) : z ∈ tiesAs g ts' ↔ z ∈ ts := by
  have one : ∀ k ∈ ts, pairT (g ((pairT (f (k.getD 0 Str.empty)) (f (k.getD 1 Str.empty))).getD 0 Str.empty)) (g ((pairT (f (k.getD 0 Str.empty)) (f (k.getD 1 Str.empty))).getD 1 Str.empty)) = k := fun k m => by
    obtain ⟨x, y, rfl, mx, my, l⟩ := two k m
    rw [pairT_image]
    show pairT (g (f x)) (g (f y)) = [x, y]
    rw [bk x mx, bk y my, pairT_lt2 l]
  rw [mem_tiesAs]
  constructor
  · rintro ⟨k, mk, rfl⟩
    obtain ⟨j, mj, rfl⟩ := mem_tiesAs.mp ((m' k).mp mk)
    rw [one j mj]
    exact mj
  · intro m
    exact ⟨_, (m' _).mpr (mem_tiesAs.mpr ⟨z, m, rfl⟩), (one z m).symm⟩
end Lx

/-! The law: two webs, step by step. -/
namespace Lx
open PySem PySem.Spec PyProof.Rows L2 Fw LamX
abbrev nPR : List Str := ["_law_dice_here", "_law_plain_here", "_law_other", "_law_web", "_law_second", "_law_names_here", "_law_fresh", "_law_back", "_law_place", "_law_due", "_law_free", "_law_tie_here"]
theorem scPR : FnScope nPR ["_law_dice_here", "_law_plain_here", "_law_other"] (defScope (top 57)) := ⟨rfl, rfl, rfl, by decide +kernel, rfl, by decide +kernel, by decide +kernel⟩
abbrev slP (p d e : Addr) (u3 u4 u5 u6 u7 u8 u9 u10 u11 : Option V) : L2.St := [some (.ref p), some (.ref d), some (.ref e), u3, u4, u5, u6, u7, u8, u9, u10, u11]
theorem call_dictPk {X : Cx} {K : PySem.W.Frag} (h : X.K = K) (hcalm : X.calm = true) : CallR X (.type "dict") (fun xs H Q => ∃ (a : Addr) (ps : List Addr) (kvs : List (L2.Key × V)), xs = [.ref a] ∧ SqL K H a (ps.map V.ref) ∧ Paired (fun p kv => SqT K H p [kV kv.1, kv.2]) ps kvs ∧
    ∀ p, H p = none → Q (.ref p) (upd H p (.dK (mergeK [] kvs)))) := h ▸ call_dictP hcalm
theorem op_neMk {X : Cx} {K : PySem.W.Frag} (h : X.K = K) (hu : X.A.units + 64 < cLine) : OpR X (compareOp .NotEq) (rNeM K) := h ▸ op_neM hu
theorem op_eqMk {X : Cx} {K : PySem.W.Frag} (h : X.K = K) (hu : X.A.units + 64 < cLine) : OpR X (compareOp .Eq) (rEqM K) := h ▸ op_eqM hu
theorem op_neIk {X : Cx} {K : PySem.W.Frag} {k : Nat} {C f : Addr} {fd : FuncData} {ps : List Str} {sp : Sp} (h : X.K = K) (O : OwnNe K C f) (F : FnV false X.prog X.w K X.mg X.base CX0 k f fd ps sp) (hb : Binds K fd ps []) (hr : Room (k + 1) X.A) : OpR X (compareOp .NotEq) (rCmpI C sp true) := by
  subst h
  exact op_neI O F hb hr
theorem op_eqIk {X : Cx} {K : PySem.W.Frag} {k : Nat} {C f : Addr} {fd : FuncData} {ps : List Str} {sp : Sp} (h : X.K = K) (O : OwnNe K C f) (F : FnV false X.prog X.w K X.mg X.base CX0 k f fd ps sp) (hb : Binds K fd ps []) (hr : Room (k + 1) X.A) : OpR X (compareOp .Eq) (rCmpI C sp false) := by
  subst h
  exact op_eqI O F hb hr
theorem paired_img {K : PySem.W.Frag} {H : Hp} : ∀ (zs : List (Addr × List Str)) (ps : List (Str × Str)), (∀ k ∈ zs, Rd H k.1 (.tup (k.2.map V.str))) → zs.map (·.2) = ps.map (fun p => [p.2, p.1]) → Paired (fun p (kv : L2.Key × V) => SqT K H p [kV kv.1, kv.2]) (zs.map (·.1)) (imgK (psw ps))
  | [], [], _, _ => .nil
  | [], _ :: _, _, e => by cases e
  | _ :: _, [], _, e => by cases e
  | z :: zs, p :: ps, h, e => by
    obtain ⟨e1, e2⟩ := List.cons.inj (show z.2 :: zs.map (·.2) = [p.2, p.1] :: ps.map (fun p => [p.2, p.1]) from e)
    have a := h z List.mem_cons_self
    rw [e1] at a
    exact .cons (.inl a) (paired_img zs ps (fun k m => h k (List.mem_cons_of_mem _ m)) e2)
/-- what stands throughout -/
structure PI (Ts : List (Addr × Str)) (C p d e x y t a t2 a2 l1 l2 m1 m2 : Addr) (ns : List Str) (ks : List (Addr × List Str)) (ns2 : List Str) (ks2 : List (Addr × List Str)) (H : Hp) : Prop where
  one : OI Ts C p d x t a l1 l2 ns ks H
  two : OI Ts C p e y t2 a2 m1 m2 ns2 ks2 H
section
variable {Ts : List (Addr × Str)} {C p d e x y t a t2 a2 l1 l2 m1 m2 : Addr} {ns : List Str} {ks : List (Addr × List Str)} {ns2 : List Str} {ks2 : List (Addr × List Str)} {H H' : Hp}
theorem PI.but (o : PI Ts C p d e x y t a t2 a2 l1 l2 m1 m2 ns ks ns2 ks2 H) (B : ButT p H H') (dd : DiceAt H' p) (tt : Tabs Ts H') : PI Ts C p d e x y t a t2 a2 l1 l2 m1 m2 ns ks ns2 ks2 H' := ⟨o.one.but B dd tt, o.two.but B dd tt⟩
theorem PI.same (o : PI Ts C p d e x y t a t2 a2 l1 l2 m1 m2 ns ks ns2 ks2 H) (S : Same H H') : PI Ts C p d e x y t a t2 a2 l1 l2 m1 m2 ns ks ns2 ks2 H' := ⟨o.one.same S, o.two.same S⟩
theorem PI.ext (o : PI Ts C p d e x y t a t2 a2 l1 l2 m1 m2 ns ks ns2 ks2 H) (S : ExtN H H') (tb : Tabs Ts H') : PI Ts C p d e x y t a t2 a2 l1 l2 m1 m2 ns ks ns2 ks2 H' := o.but (.ext S) (dice_ext o.one.dice S) tb
end
section
variable {P : Program} {w : World} {K : PySem.W.Frag} {mg : Str → Option Value} {base : Heap} {f c : Addr} {A : Around} {fr : List Env} {s : Shared} {H0 : Hp} {E : XK}
abbrev XPr (P : Program) (w : World) (K : PySem.W.Frag) (mg : Str → Option Value) (base : Heap) (f c : Addr) (A : Around) (fr : List Env) (s : Shared) (H0 : Hp) (E : XK) : Cx := cxOf CX0 P w K mg base nPR "_law_pair_right" (defScope (top 57)) f (.ref c) A fr s H0 E
abbrev hP (A : Around) (s : Shared) (f c : Addr) : Prop := Room 15 (A.deeper (envOfC "_law_pair_right" (defScope (top 57)) s.heap.objs.size f (.ref c)))
def p0 (Ts : List (Addr × Str)) (C : Addr) : TS := fun D σ H => ∃ (p d e l1 l2 m1 m2 : Addr) (ns : List Str) (ks : List (Addr × List Str)) (ns2 : List Str) (ks2 : List (Addr × List Str)), σ = slP p d e none none none none none none none none none ∧ DiceAt H p ∧ Tabs Ts H ∧ Drawn ns (ks.map (·.2)) ∧ Drawn ns2 (ks2.map (·.2)) ∧
  H d = some (.dK [(Sum.inr "places", .ref l1), (Sum.inr "ties", .ref l2)]) ∧ H l1 = some (.lst (ns.map V.str)) ∧ H l2 = some (.lst (ks.map fun k => V.ref k.1)) ∧ Each H ks ∧ H e = some (.dK [(Sum.inr "places", .ref m1), (Sum.inr "ties", .ref m2)]) ∧ H m1 = some (.lst (ns2.map V.str)) ∧ H m2 = some (.lst (ks2.map fun k => V.ref k.1)) ∧ Each H ks2 ∧
  ∀ H' x y t a t2 a2, Same H H' → PI Ts C p d e x y t a t2 a2 l1 l2 m1 m2 ns ks ns2 ks2 H' → D.nx (slP p d e (some (.ref x)) (some (.ref y)) none none none none none none none) H'
theorem pair0 {Ts : List (Addr × Str)} (T : TX K mg) (hr : hP A s f c) : PS (XPr P w K mg base f c A fr s H0 E) (stmtAt (defBody (top 57)) 0) (p0 Ts T.C_Web) := by
  have GK : FnV false P w K mg base (L2.CX P w) 9 T.f__law_made T.d__law_made ["_law_plain_here"] (spMade T.C_Web) := T.q_made
  refine ps_weak (ps_asg (g := gTup K 2 (gCons (gName 3) (gCons (gName 4) gNil))) (pe_tup (pa_cons (pe_callV (gg := false) (E := fun _ _ _ _ => False) (fun z => nomatch z) GK (hr.mono (by decide)) (by rfl) T.m__law_made T.F__law_made.kp T.b__law_made .nil (fun _ => passNo) (pa_cons (pv 1) pa_nil))
    (pa_cons (pe_callV (gg := false) (E := fun _ _ _ _ => False) (fun z => nomatch z) GK (hr.mono (by decide)) (by rfl) T.m__law_made T.F__law_made.kp T.b__law_made .nil (fun _ => passNo) (pa_cons (pv 2) pa_nil)) pa_nil))) (pg_tup rfl (pgs_cons (pg_name (i := 3) scPR.nd rfl (Or.inr rfl)) (pgs_cons (pg_name (i := 4) scPR.nd rfl (Or.inr rfl)) pgs_nil))) (by rfl) (by rfl)) ?_
  rintro D σ H ⟨p, d, e, l1, l2, m1, m2, ns, ks, ns2, ks2, rfl, hd, tb, dr, dr2, a1, a2, a3, each, b1, b2, b3, each2, q⟩
  refine ⟨_, rfl, d, ns, ks, rfl, ⟨⟨l1, l2, a1, a2, a3⟩, each⟩, dr.web, fun H1 x t a s1 nx W ap => ?_⟩
  obtain ⟨i1, i2, i3, ed⟩ := id hd
  have ax := ap p _ ed
  refine ⟨_, rfl, e, ns2, ks2, rfl, ⟨⟨m1, m2, s1 _ _ b1, s1 _ _ b2, s1 _ _ b3⟩, each2.same s1⟩, dr2.web, fun H2 y t2 a2' s2 ny W2 ap2 => ?_⟩
  have ay := ap2 p _ (s1 _ _ ed)
  refine ⟨by show 2 ≤ sizeLine; decide, fun T' nT => ?_⟩
  have s3 := same_upd (o := .tup [V.ref x, V.ref y]) nT
  have S := same_trans s1 (same_trans s2 s3)
  have d3 := hd.same S
  have t3 : Tabs Ts (upd H2 T' (.tup [V.ref x, V.ref y])) := tb.ext fun b o e => S b o e
  obtain ⟨w1, w2⟩ := web_stays (hd.same s1) (.same (same_trans s2 s3)) ax W
  obtain ⟨w3, w4⟩ := web_stays (hd.same (same_trans s1 s2)) (.same s3) ay W2
  refine ⟨T', _, rfl, SqT.of upd_same, rfl, _, _, rfl, _, _, rfl, rfl, q _ x y t a t2 a2' S ⟨⟨d3, t3, dr, S _ _ a1, S _ _ a2, S _ _ a3, each.same S, w1, w2⟩, ⟨d3, t3, dr2, S _ _ b1, S _ _ b2, S _ _ b3, each2.same S, w3, w4⟩⟩⟩
/-- images stand at n -/
structure ImgAt (H : Hp) (n : Addr) (ns : List Str) (ps : List (Str × Str)) : Prop where
  at_ : H n = some (.dK (imgK ps))
  keys : ps.map (·.1) = ns
  nd : (ps.map (·.2)).Nodup
  pool : ∀ x ∈ ps, x.2 ∈ poolN
theorem ImgAt.same {H H' : Hp} {n : Addr} {ns : List Str} {ps : List (Str × Str)} (h : ImgAt H n ns ps) (S : Same H H') : ImgAt H' n ns ps := ⟨S _ _ h.at_, h.keys, h.nd, h.pool⟩
def p1 (Ts : List (Addr × Str)) (C : Addr) : TS := fun D σ H => ∃ (p d e x y t a t2 a2 l1 l2 m1 m2 : Addr) (ns : List Str) (ks : List (Addr × List Str)) (ns2 : List Str) (ks2 : List (Addr × List Str)) (u5 u6 u7 u8 u9 u10 u11 : Option V), σ = slP p d e (some (.ref x)) (some (.ref y)) u5 u6 u7 u8 u9 u10 u11 ∧ PI Ts C p d e x y t a t2 a2 l1 l2 m1 m2 ns ks ns2 ks2 H ∧
  ∀ H' n ps, But p H H' → PI Ts C p d e x y t a t2 a2 l1 l2 m1 m2 ns ks ns2 ks2 H' → ImgAt H' n ns ps → D.nx (slP p d e (some (.ref x)) (some (.ref y)) (some (.ref n)) u6 u7 u8 u9 u10 u11) H'
theorem pair1 {Ts : List (Addr × Str)} {C : Addr} (T : TX K mg) (hG : A.guards = some []) (hr : hP A s f c) : PS (XPr P w K mg base f c A fr s H0 E) (stmtAt (defBody (top 57)) 1) (p1 Ts C) := by
  have hu := hr.units
  have hu1 := Nat.lt_of_le_of_lt (Nat.add_le_add_left (show 1 ≤ 64 by decide) _) hu
  have GI : FnG P w K mg base CX0 3 T.f__law_images T.d__law_images ["_law_dice_here", "_law_places"] (spImages K) := T.q_images
  refine ps_weak (ps_set (i := 5) scPR.nd rfl (Or.inr rfl) (pe_callG (E := fun _ _ _ _ => False) hG GI (hr.mono (by decide)) (by rfl) T.m__law_images T.F__law_images.kp T.b__law_images .nil (fun _ => passAt0) (pa_cons (pv 0) (pa_cons (pe_dget (by exact hu1) (pv 1) pe_str (fun _ _ => rfl)) pa_nil)))) ?_
  rintro D σ H ⟨p, d, e, x, y, t, a, t2, a2, l1, l2, m1, m2, ns, ks, ns2, ks2, u5, u6, u7, u8, u9, u10, u11, rfl, o, q⟩
  have nl : l1 ≠ p := fun z => by
    obtain ⟨i1, i2, i3, e⟩ := o.one.dice
    have h1 := o.one.at1
    rw [z, e] at h1
    exact strs_ne ns _ _ _ (Option.some.inj h1).symm
  refine ⟨_, rfl, _, rfl, d, _, rfl, DGet.k (k := Sum.inr "places") o.one.at_d, p, l1, ns, rfl, o.one.dice, SqL.of o.one.at1, nl, by have := o.one.dr.few; omega, ascN_nodup o.one.dr.asc, fun H' n ps b d' nn at' keys nd pool => ?_⟩
  exact q H' n ps b (o.but (.of b) d' (tabs_but o.one.tabs o.one.dice b)) ⟨at', keys, nd, pool⟩
/-- the renamed web -/
structure FrAt (C : Addr) (H : Hp) (z : Addr) (ns : List Str) (ts : List (List Str)) (ps : List (Str × Str)) (tz az : Addr) (nz : List Str) (kz : List (Addr × List Str)) : Prop where
  web : WebAt C H z tz az nz kz
  asc : AscN nz
  mn : ∀ v, v ∈ nz ↔ v ∈ ns.map (imgF ps)
  ascT : AscT (kz.map (·.2))
  mt : ∀ v, v ∈ kz.map (·.2) ↔ v ∈ tiesAs (imgF ps) ts
theorem FrAt.same {C : Addr} {H H' : Hp} {z : Addr} {ns : List Str} {ts : List (List Str)} {ps : List (Str × Str)} {tz az : Addr} {nz : List Str} {kz : List (Addr × List Str)} (h : FrAt C H z ns ts ps tz az nz kz) (S : Same H H') : FrAt C H' z ns ts ps tz az nz kz := ⟨h.web.same S, h.asc, h.mn, h.ascT, h.mt⟩
theorem img_few {ns : List Str} {ps : List (Str × Str)} (k : ps.map (·.1) = ns) : ps.length = ns.length := by rw [← k, List.length_map]
theorem imgK_len (ps : List (Str × Str)) : (imgK ps).length = ps.length := by unfold imgK; rw [List.length_map]
def p2 (Ts : List (Addr × Str)) (C : Addr) : TS := fun D σ H => ∃ (p d e x y t a t2 a2 l1 l2 m1 m2 n : Addr) (ns : List Str) (ks : List (Addr × List Str)) (ns2 : List Str) (ks2 : List (Addr × List Str)) (ps : List (Str × Str)) (u6 u7 u8 u9 u10 u11 : Option V), σ = slP p d e (some (.ref x)) (some (.ref y)) (some (.ref n)) u6 u7 u8 u9 u10 u11 ∧ PI Ts C p d e x y t a t2 a2 l1 l2 m1 m2 ns ks ns2 ks2 H ∧ ImgAt H n ns ps ∧
  ∀ H' z tz az nz kz, Same H H' → FrAt C H' z ns (ks.map (·.2)) ps tz az nz kz → D.nx (slP p d e (some (.ref x)) (some (.ref y)) (some (.ref n)) (some (.ref z)) u7 u8 u9 u10 u11) H'
theorem pair2 {Ts : List (Addr × Str)} (T : TX K mg) (hr : hP A s f c) : PS (XPr P w K mg base f c A fr s H0 E) (stmtAt (defBody (top 57)) 2) (p2 Ts T.C_Web) := by
  have GR : FnOk P w K mg base (L2.CX P w) 10 T.f_Web_renamed T.d_Web_renamed ["self", "names"] (spRen T.C_Web T.C_InvalidWeb) := (T.q_ren (gg := false)).ok
  refine ps_weak (ps_set (i := 6) scPR.nd rfl (Or.inl rfl) (pe_meth (E := fun _ _ _ => False) (pv 3) T.cl_Web T.M_Web_renamed GR (hr.mono (by decide)) T.b_Web_renamed .nil passNoM (pa_cons (pv 5) pa_nil))) ?_
  rintro D σ H ⟨p, d, e, x, y, t, a, t2, a2, l1, l2, m1, m2, n, ns, ks, ns2, ks2, ps, u6, u7, u8, u9, u10, u11, rfl, o, im, q⟩
  have dr := o.one.dr
  have W := o.one.web
  obtain ⟨dx, D1, e1, _, _⟩ := W.ins
  have few := dr.few
  have lk := dr.len
  rw [List.length_map] at lk
  have lp := img_few im.keys
  have keys : ∀ z, z ∈ ns ↔ z ∈ ps.map (·.1) := fun z => by rw [im.keys]
  have vn : ∀ v ∈ ps.map (·.2), nameS v = true := fun v m => by
    obtain ⟨b, mb, rfl⟩ := List.mem_map.mp m
    exact pool_ok _ (im.pool b mb)
  have fp : ∀ z ∈ ns, imgF ps z ∈ ps.map (·.2) := fun z m => img_snd ((keys z).mp m)
  have inj : ∀ a ∈ ns, ∀ b ∈ ns, imgF ps a = imgF ps b → a = b := fun a ma b mb e => img_inj im.nd ((keys a).mp ma) ((keys b).mp mb) e
  refine ⟨_, rfl, x, dx, _, rfl, e1, rfl, _, rfl, x, t, a, n, ns, ks, imgK ps, imgF ps, rfl, W, im.at_, by rw [imgK_len]; omega, ?_, img_keys keys, ?_, fun z m => ⟨(img_val ((keys z).mp m)).1, name_short (vn _ (fp z m))⟩, by omega, by omega, ?_⟩
  · rw [img_vals]
    exact vok_strs fun v m => name_short (vn v m)
  · rw [img_vals]
    exact diff_of vn im.nd (by omega)
  · refine gath_ok2 (fun v m => ?_) ?_ ⟨ns.map (imgF ps), by rw [List.length_map]; omega, fun z m => m⟩ (tiesAs_two dr.two inj) fun H' z tz az nz kz an mn at' mt s' n' W' => q H' z tz az nz kz s' ⟨W', an, mn, at', mt⟩
    · obtain ⟨u, mu, rfl⟩ := List.mem_map.mp m
      exact vn _ (fp u mu)
    · intro z
      have := List.map_eq_nil_iff.mp z
      have ge := dr.ge
      rw [this] at ge
      exact absurd ge (by simp)
def p3 (Ts : List (Addr × Str)) (C : Addr) : TS := fun D σ H => ∃ (p d e x y n z : Addr) (ns : List Str) (ps : List (Str × Str)) (u7 u8 u9 u10 u11 : Option V), σ = slP p d e (some (.ref x)) (some (.ref y)) (some (.ref n)) (some (.ref z)) u7 u8 u9 u10 u11 ∧ ImgAt H n ns ps ∧ (∀ z ∈ ns, z ∈ poolN) ∧ ns.Nodup ∧ ns.length ≤ 8 ∧
  ∀ H' b, Same H H' → H' b = some (.dK (imgK (psw ps))) → D.nx (slP p d e (some (.ref x)) (some (.ref y)) (some (.ref n)) (some (.ref z)) (some (.ref b)) u8 u9 u10 u11) H'
theorem pair3 {Ts : List (Addr × Str)} {C : Addr} (T : TX K mg) (hG : A.guards = some []) (hr : hP A s f c) : PS (XPr P w K mg base f c A fr s H0 E) (stmtAt (defBody (top 57)) 3) (p3 Ts C) := by
  have hu := hr.units
  have hu1 := Nat.lt_of_le_of_lt (Nat.add_le_add_left (show 1 ≤ 64 by decide) _) hu
  refine ps_weak (ps_set (i := 7) scPR.nd rfl (Or.inl rfl) (pe_callTy (call_dictPk (K := K) rfl (by rfl)) (by rfl) T.n_dict (by decide +kernel) (pa_cons (pe_lock
      (pe_lc (own := [("_law_place", 8)]) (g := gName 8) (by rfl) scPR.nd (pi_keys (pv 5)) (blkOk_by (N := nPR) (sc := defScope (top 57)) (own := [("_law_place", 8)]) (by decide +kernel)) (fun _ _ _ _ _ => pg_name (i := 8) scPR.nd rfl (Or.inl rfl)) (fun _ _ _ _ _ => pts_nil)
        (fun _ _ _ _ _ => pe_tup (pa_cons (pe_dget (by exact hu1) (pv 5) (pv 8) (fun _ _ => rfl)) (pa_cons (pv 8) pa_nil))))) pa_nil))) ?_
  rintro D σ H ⟨p, d, e, x, y, n, z, ns, ps, u7, u8, u9, u10, u11, rfl, im, pool, nd, few, q⟩
  have hn := im.at_
  have lp := img_few im.keys
  have nd1 : (ps.map (·.1)).Nodup := by rw [im.keys]; exact nd
  refine ⟨n, _, hn, trivial, fun od => ?_⟩
  refine ⟨_, rfl, n, od, rfl, .inl ⟨imgK ps, upd_same, fun L nL => ?_⟩⟩
  have nLn : L ≠ n := fun z => by
    rw [z, upd_same] at nL
    cases nL
  have nLH : H L = none := by
    rw [upd_ne nLn] at nL
    exact nL
  refine lc_walk repT walk_keys (fun i => (ps[i]?).bind fun p => some [p.2, p.1]) nL (fun Hc sc => sc _ _ upd_same) (by rw [imgK_len]; omega) (fun i v Hc Hc' C' N lt sc hy yes no => ?_) (fun H3 ys s3 h3 rs => ?_)
  · obtain ⟨rfl, k, v', ek, rfl⟩ := hy
    unfold imgK at ek
    rw [List.getElem?_map] at ek
    cases ep : ps[i]? with
    | none => rw [ep] at ek; cases ek
    | some pr =>
      rw [ep] at ek
      obtain ⟨rfl, rfl⟩ := Prod.mk.inj (Option.some.inj ek)
      have mp := List.mem_of_getElem? ep
      have mk : pr.1 ∈ ps.map (·.1) := List.mem_map_of_mem mp
      obtain ⟨v1, v2⟩ := img_val mk
      have ei : imgF ps pr.1 = pr.2 := fst_inj nd1 v2 (show (pr.1, pr.2) ∈ ps from mp)
      rw [ei] at v1
      have dg : DGet Hc' n (kV (Sum.inr pr.1)) (some (.str pr.2)) := by
        rw [← v1]
        exact .inl ⟨imgK ps, Sum.inr pr.1, .inr ⟨od, sc _ _ upd_same⟩, rfl, rfl⟩
      refine ⟨rfl, _, rfl, _, rfl, n, _, rfl, dg, _, rfl, by show 2 ≤ sizeLine; decide, fun b nb => ?_⟩
      refine yes _ _ [pr.2, pr.1] (by rw [ep]; rfl) (upd_keeps nb) ⟨b, rfl, .inl upd_same, fun w m => ?_, by simp, by simp⟩
      rcases (show w = pr.2 ∨ w = pr.1 by simpa using m) with e | e
      · rw [e]; exact pool_short (im.pool pr mp)
      · rw [e]; exact pool_short (pool _ (by rw [← im.keys]; exact mk))
  · rw [imgK_len, range_bind] at rs
    have et : ps.filterMap (fun p => some [p.2, p.1]) = ps.map (fun p => [p.2, p.1]) := by
      rw [← List.filterMap_eq_map]
      rfl
    rw [et] at rs
    obtain ⟨zs, ev, em, each, _⟩ := reps_tups_of rs
    subst ev
    have hn3 := s3 _ _ (upd_same (H := H) (a := n) (o := .frz od (.dK (imgK ps))))
    have S : Same H (upd H3 n (.dK (imgK ps))) := fun b o eb => by
      by_cases c : b = n
      · rw [c] at eb ⊢
        rw [upd_same, ← eb, hn]
      · rw [upd_ne c]
        exact s3 b o (by rw [upd_ne c]; exact eb)
    have hL : (upd H3 n (.dK (imgK ps))) L = some (.lst (zs.map fun k => V.ref k.1)) := by
      rw [upd_ne nLn]
      exact h3
    have each' : ∀ k ∈ zs, Rd (upd H3 n (.dK (imgK ps))) k.1 (.tup (k.2.map V.str)) := fun k m => by
      rcases (each k m).1 with h | ⟨o, h⟩
      · exact .inl (by rw [upd_ne (fun z => by rw [z, hn3] at h; cases h)]; exact h)
      · exact .inr ⟨o, by rw [upd_ne (fun z => by rw [z, hn3] at h; cases h)]; exact h⟩
    refine ⟨hn3, L, zs.map (·.1), imgK (psw ps), rfl, SqL.of (by rw [List.map_map]; exact hL), paired_img zs ps each' em, fun b nb => ?_⟩
    have mg0 : mergeK [] (imgK (psw ps)) = imgK (psw ps) := merge_img (psw ps) [] (by rw [List.nil_append, psw_fst]; exact im.nd)
    rw [mg0]
    exact q _ b (same_trans S (same_upd nb)) upd_same
end
end Lx

/-! The law: two webs, names and sums. -/
namespace Lx
open PySem PySem.Spec PyProof.Rows L2 Fw LamX
/-- the drawn web of a told one -/
theorem web_eq {C : Addr} {H : Hp} {x t a y t2 a2 : Addr} {ns ms : List Str} {ks ls : List (Addr × List Str)} {Q : VK} {E : XK} (W : WebAt C H x t a ns ks) (W2 : WebAt C H y t2 a2 ms ls) (e1 : ns = ms) (e2 : ks.map (·.2) = ls.map (·.2)) (q : Q (.bl true) H) :
    spEq C [.ref x, .ref y] H Q E := by
  refine ⟨x, t, a, y, t2, a2, ns, ms, ks, ls, rfl, W, W2, ?_⟩
  rw [decide_eq_true e1, decide_eq_true e2]
  exact q
section
variable {P : Program} {w : World} {K : PySem.W.Frag} {mg : Str → Option Value} {base : Heap} {f c : Addr} {A : Around} {fr : List Env} {s : Shared} {H0 : Hp} {E : XK}
def p4 (Ts : List (Addr × Str)) (C : Addr) : TS := fun D σ H => ∃ (p d e x y t a t2 a2 l1 l2 m1 m2 n z b tz az : Addr) (ns : List Str) (ks : List (Addr × List Str)) (ns2 : List Str) (ks2 : List (Addr × List Str)) (ps : List (Str × Str)) (nz : List Str) (kz : List (Addr × List Str)) (u8 u9 u10 u11 : Option V),
  σ = slP p d e (some (.ref x)) (some (.ref y)) (some (.ref n)) (some (.ref z)) (some (.ref b)) u8 u9 u10 u11 ∧ PI Ts C p d e x y t a t2 a2 l1 l2 m1 m2 ns ks ns2 ks2 H ∧ ImgAt H n ns ps ∧ FrAt C H z ns (ks.map (·.2)) ps tz az nz kz ∧ H b = some (.dK (imgK (psw ps))) ∧
  ∀ H', Same H H' → D.nx σ H'
theorem pair4 {Ts : List (Addr × Str)} (T : TX K mg) (hG : A.guards = some []) (hr : hP A s f c) : PS (XPr P w K mg base f c A fr s H0 E) (stmtAt (defBody (top 57)) 4) (p4 Ts T.C_Web) := by
  have hu := hr.units
  have GTo : FnG P w K mg base CX0 3 T.f__law_told_web T.d__law_told_web ["_law_web"] (spToldW T.C_Web) := T.q_toldW
  have GLr : FnG P w K mg base CX0 3 T.f__law_renamed T.d__law_renamed ["_law_plain_here", "_law_names_here"] spLRen := T.q_lren
  have GR : FnOk P w K mg base (L2.CX P w) 10 T.f_Web_renamed T.d_Web_renamed ["self", "names"] (spRen T.C_Web T.C_InvalidWeb) := (T.q_ren (gg := false)).ok
  have GE : FnV false P w K mg base CX0 1 T.f_Web___eq__ T.d_Web___eq__ ["self", "other"] (spEq T.C_Web) := T.q_eq
  refine ps_weak (ps_if (PW.pt (pw_or (pt_cmpR (op_neMk (K := K) rfl (by exact hu)) (pe_callG (E := fun _ _ _ _ => False) hG GTo (hr.mono (by decide)) (by rfl) T.m__law_told_web T.F__law_told_web.kp T.b__law_told_web .nil (fun _ => passAt0) (pa_cons (pv 6) pa_nil))
      (pe_callG (E := fun _ _ _ _ => False) hG GLr (hr.mono (by decide)) (by rfl) T.m__law_renamed T.F__law_renamed.kp T.b__law_renamed .nil (fun _ => passAt0) (pa_cons (pv 1) (pa_cons (pv 5) pa_nil))) (nomark _))
    (pw_or1 (pt_cmpR (op_neIk (K := K) rfl T.OE_Web___eq__ GE T.b_Web___eq__ (hr.mono (by decide))) (pe_meth (E := fun _ _ _ => False) (pv 6) T.cl_Web T.M_Web_renamed GR (hr.mono (by decide)) T.b_Web_renamed .nil passNoM (pa_cons (pv 7) pa_nil)) (pv 3) (nomark _))))) (pss_one (ps_ret pe_bl)) pss_nil) ?_
  rintro D σ H ⟨p, d, e, x, y, t, a, t2, a2, l1, l2, m1, m2, n, z, b, tz, az, ns, ks, ns2, ks2, ps, nz, kz, u8, u9, u10, u11, rfl, o, im, fz, hb, q⟩
  have dr := o.one.dr
  have few := dr.few
  have lk := dr.len
  rw [List.length_map] at lk
  have lp := img_few im.keys
  have keys : ∀ z, z ∈ ns ↔ z ∈ ps.map (·.1) := fun z => by rw [im.keys]
  have vn : ∀ v ∈ ps.map (·.2), nameS v = true := fun v m => by
    obtain ⟨b, mb, rfl⟩ := List.mem_map.mp m
    exact pool_ok _ (im.pool b mb)
  have fp : ∀ z ∈ ns, imgF ps z ∈ ps.map (·.2) := fun z m => img_snd ((keys z).mp m)
  have bk : ∀ m ∈ ns, imgF (psw ps) (imgF ps m) = m := fun m mm => img_back im.nd ((keys m).mp mm)
  refine ⟨_, rfl, z, tz, az, nz, kz, rfl, fz.web, fun H1 d1 s1 n1 pl1 => ?_⟩
  refine ⟨_, rfl, _, rfl, d, n, ns, ks, imgK ps, imgF ps, rfl, (o.one.same s1).plain, s1 _ _ im.at_, fun k m => ?_, fun z m => ⟨(img_val ((keys z).mp m)).1, name_short (vn _ (fp z m))⟩, by omega, by omega, fun H2 d2 ns' ks' s2 n2 an mn at' mt ne pl2 => ?_⟩
  · obtain ⟨u, v, e, mu, mv, _⟩ := dr.two k.2 (List.mem_map_of_mem m)
    exact ⟨u, v, e, mu, mv⟩
  have e1 : ns' = nz := an.same fz.asc fun v => (mn v).trans (fz.mn v).symm
  have e2 : ks'.map (·.2) = kz.map (·.2) := at'.same fz.ascT fun v => (mt v).trans (fz.mt v).symm
  have td1 : ToldR H2 (.ref d1) (.inr (nz, kz.map (·.2))) := .web (plain_same s2 pl1)
  have td2 : ToldR H2 (.ref d2) (.inr (nz, kz.map (·.2))) := by
    rw [← e1, ← e2]
    exact .web pl2
  have S2 := same_trans s1 s2
  have fz2 := fz.same S2
  have Wz := fz2.web
  obtain ⟨dz, Dz, ez, _, _⟩ := Wz.ins
  obtain ⟨nmz, gez, fewz, _, fewk, tinz, _⟩ := webB_iff.mp Wz.ok
  rw [List.length_map] at fewk
  have kz_two : ∀ k ∈ kz.map (·.2), ∃ x y, k = [x, y] ∧ x ∈ nz ∧ y ∈ nz ∧ ltS x y = true := fun k m => by
    obtain ⟨u, v, e, _, _, l, mu, mv⟩ := tieIn_inv (tinz k m)
    exact ⟨u, v, e, mu, mv, l⟩
  have nzk : ∀ v, v ∈ nz ↔ v ∈ (psw ps).map (·.1) := fun v => by
    rw [fz.mn v, psw_fst, List.mem_map]
    constructor
    · rintro ⟨u, mu, rfl⟩
      exact fp u mu
    · intro m
      obtain ⟨pr, mp, rfl⟩ := List.mem_map.mp m
      have mk : pr.1 ∈ ps.map (·.1) := List.mem_map_of_mem mp
      exact ⟨pr.1, (keys _).mpr mk, fst_inj (by rw [im.keys]; exact ascN_nodup dr.asc) (img_val mk).2 mp⟩
  have gz : ∀ v ∈ nz, imgF (psw ps) v ∈ ns := fun v m => by
    have z := img_snd ((nzk v).mp m)
    rw [psw_snd] at z
    exact (keys _).mpr z
  have gn : ∀ v ∈ (psw ps).map (·.2), nameS v = true := fun v m => by
    rw [psw_snd] at m
    exact pool_ok v (dr.pool v ((keys v).mpr m))
  have ginj : ∀ a ∈ nz, ∀ b ∈ nz, imgF (psw ps) a = imgF (psw ps) b → a = b := fun a ma b mb e => by
    obtain ⟨a', ma', rfl⟩ := List.mem_map.mp ((fz.mn a).mp ma)
    obtain ⟨b', mb', rfl⟩ := List.mem_map.mp ((fz.mn b).mp mb)
    rw [bk a' ma', bk b' mb'] at e
    rw [e]
  have lps : (psw ps).length = ps.length := by unfold psw; rw [List.length_map]
  refine ⟨told_same td1 td2, false, rfl, ?_⟩
  dsimp only
  rw [if_neg (by decide)]
  refine ⟨_, rfl, z, dz, _, rfl, ez, rfl, _, rfl, z, tz, az, b, nz, kz, imgK (psw ps), imgF (psw ps), rfl, Wz, S2 _ _ hb, by rw [imgK_len]; omega, ?_, img_keys nzk, ?_, fun v m => ⟨(img_val ((nzk v).mp m)).1, name_short (gn _ (img_snd ((nzk v).mp m)))⟩, by omega, by omega, ?_⟩
  · rw [img_vals]
    exact vok_strs fun v m => name_short (gn v m)
  · rw [img_vals]
    exact diff_of gn (by rw [psw_snd, im.keys]; exact ascN_nodup dr.asc) (by omega)
  · refine gath_ok2 (fun v m => ?_) ?_ ⟨ns, by omega, fun v m => ?_⟩ (tiesAs_two kz_two ginj) fun H3 w' tw aw nw kw an' mn' at3 mt' s3 n3 W3 => ?_
    · obtain ⟨u, mu, rfl⟩ := List.mem_map.mp m
      exact gn _ (img_snd ((nzk u).mp mu))
    · intro h
      rw [List.map_eq_nil_iff.mp h] at gez
      exact absurd gez (by simp)
    · obtain ⟨u, mu, rfl⟩ := List.mem_map.mp m
      exact gz u mu
    · have S3 := same_trans S2 s3
      have Wx := (o.one.same S3).web
      obtain ⟨dx, D1, ex, _, _⟩ := Wx.ins
      obtain ⟨dw, D2, ew, _, _⟩ := W3.ins
      refine ⟨_, rfl, w', x, dw, _, dx, _, rfl, rfl, ew, ex, ?_⟩
      refine web_eq W3 Wx ?_ ?_ ?_
      · refine an'.same dr.asc fun v => (mn' v).trans ?_
        rw [List.mem_map]
        constructor
        · rintro ⟨u, mu, rfl⟩
          exact gz u mu
        · intro m
          exact ⟨imgF ps v, (fz.mn _).mpr (List.mem_map_of_mem m), bk v m⟩
      · exact at3.same dr.ascT fun v => (mt' v).trans (tiesAs_back dr.two bk fz.mt v)
      · exact ⟨true, rfl, false, rfl, q H3 S3⟩
/-! ### sums -/
def RAdd (ns : List Str) (ts : List (List Str)) (ns2 : List Str) (ts2 : List (List Str)) (r : Str ⊕ (List Str × List (List Str))) : Prop :=
  ∃ n' t', AscN n' ∧ (∀ z, z ∈ n' ↔ z ∈ ns ++ ns2) ∧ AscT t' ∧ (∀ z, z ∈ t' ↔ z ∈ ts ++ ts2) ∧ ((webB n' t' = true ∧ r = .inr (n', t')) ∨ (webB n' t' = false ∧ r = .inl ("web" : Str)))
theorem radd_un {ns : List Str} {ts : List (List Str)} {ns2 : List Str} {ts2 : List (List Str)} {r r' : Str ⊕ (List Str × List (List Str))} (h : RAdd ns ts ns2 ts2 r) (h' : RAdd ns ts ns2 ts2 r') : r = r' := by
  obtain ⟨n1, t1, a1, m1, b1, k1, h⟩ := h
  obtain ⟨n2, t2, a2, m2, b2, k2, h'⟩ := h'
  obtain rfl := a1.same a2 fun z => (m1 z).trans (m2 z).symm
  obtain rfl := b1.same b2 fun z => (k1 z).trans (k2 z).symm
  rcases h with ⟨c, e⟩ | ⟨c, e⟩ <;> rcases h' with ⟨c', e'⟩ | ⟨c', e'⟩
  · rw [e, e']
  · rw [c] at c'; cases c'
  · rw [c] at c'; cases c'
  · rw [e, e']
theorem fits_web {ns : List Str} {ks : List (Addr × List Str)} (nm : ∀ z ∈ ns, nameS z = true) (asc : AscN ns) (ascT : AscT (ks.map (·.2))) (two : ∀ k ∈ ks.map (·.2), ∃ x y, k = [x, y] ∧ x ∈ ns ∧ y ∈ ns ∧ ltS x y = true) : fits ns ks = webB ns (ks.map (·.2)) := by
  rw [Bool.eq_iff_iff]
  constructor
  · intro h
    unfold fits at h
    obtain ⟨h1, h3⟩ := Bool.and_eq_true_iff.mp h
    obtain ⟨h1, h2⟩ := Bool.and_eq_true_iff.mp h1
    refine webB_iff.mpr ⟨nm, of_decide_eq_true h1, of_decide_eq_true h2, asc, by rw [List.length_map]; exact of_decide_eq_true h3, fun k m => ?_, ascT⟩
    obtain ⟨x, y, rfl, mx, my, l⟩ := two k m
    exact tieIn_mk (nm x mx) (nm y my) l mx my
  · intro h
    obtain ⟨_, h1, h2, _, h3, _, _⟩ := webB_iff.mp h
    rw [List.length_map] at h3
    unfold fits
    rw [decide_eq_true h1, decide_eq_true h2, decide_eq_true h3]
    rfl
def p5 (Ts : List (Addr × Str)) (C : Addr) : TS := fun D σ H => ∃ (p d e x y t a t2 a2 l1 l2 m1 m2 : Addr) (ns : List Str) (ks : List (Addr × List Str)) (ns2 : List Str) (ks2 : List (Addr × List Str)) (u5 u6 u7 u8 u9 u10 u11 : Option V),
  σ = slP p d e (some (.ref x)) (some (.ref y)) u5 u6 u7 u8 u9 u10 u11 ∧ PI Ts C p d e x y t a t2 a2 l1 l2 m1 m2 ns ks ns2 ks2 H ∧
  ∀ H' v r, Same H H' → ToldR H' v r → RAdd ns (ks.map (·.2)) ns2 (ks2.map (·.2)) r → D.nx (slP p d e (some (.ref x)) (some (.ref y)) u5 u6 u7 u8 (some v) u10 u11) H'
theorem pair5 {Ts : List (Addr × Str)} {C : Addr} (T : TX K mg) (hG : A.guards = some []) (hr : hP A s f c) : PS (XPr P w K mg base f c A fr s H0 E) (stmtAt (defBody (top 57)) 5) (p5 Ts C) := by
  have hu := hr.units
  have hu1 := Nat.lt_of_le_of_lt (Nat.add_le_add_left (show 1 ≤ 64 by decide) _) hu
  have GC : FnG P w K mg base CX0 3 T.f__law_checked T.d__law_checked ["_law_places", "_law_ties"] (spChecked K) := T.q_checked
  refine ps_weak (ps_set (i := 9) scPR.nd rfl (Or.inl rfl) (pe_callG (E := fun _ _ _ _ => False) hG GC (hr.mono (by decide)) (by rfl) T.m__law_checked T.F__law_checked.kp T.b__law_checked .nil (fun _ => passAt0)
    (pa_cons (pe_op op_cat (pe_dget (by exact hu1) (pv 1) pe_str (fun _ _ => rfl)) (pe_dget (by exact hu1) (pv 2) pe_str (fun _ _ => rfl))) (pa_cons (pe_op op_cat (pe_dget (by exact hu1) (pv 1) pe_str (fun _ _ => rfl)) (pe_dget (by exact hu1) (pv 2) pe_str (fun _ _ => rfl))) pa_nil)))) ?_
  rintro D σ H ⟨p, d, e, x, y, t, a, t2, a2, l1, l2, m1, m2, ns, ks, ns2, ks2, u5, u6, u7, u8, u9, u10, u11, rfl, o, q⟩
  have dr := o.one.dr
  have dr2 := o.two.dr
  have few := dr.few
  have few2 := dr2.few
  have lk := dr.len
  have lk2 := dr2.len
  rw [List.length_map] at lk lk2
  refine ⟨_, rfl, d, _, rfl, DGet.k (k := Sum.inr "places") o.one.at_d, _, rfl, e, _, rfl, DGet.k (k := Sum.inr "places") o.two.at_d, l1, m1, _, _, rfl, rfl, o.one.at1, o.two.at1, by rw [List.length_map, List.length_map, sizeLine_eq]; omega, fun g ng => ?_⟩
  have s1 := same_upd (o := .lst (ns.map V.str ++ ns2.map V.str)) ng
  have hg : (upd H g (.lst (ns.map V.str ++ ns2.map V.str))) g = some (.lst ((ns ++ ns2).map V.str)) := by rw [upd_same, List.map_append]
  generalize upd H g (.lst (ns.map V.str ++ ns2.map V.str)) = H1 at s1 hg ⊢
  have o1 := o.same s1
  refine ⟨_, rfl, d, _, rfl, DGet.k (k := Sum.inr "ties") o1.one.at_d, _, rfl, e, _, rfl, DGet.k (k := Sum.inr "ties") o1.two.at_d, l2, m2, _, _, rfl, rfl, o1.one.at2, o1.two.at2, by rw [List.length_map, List.length_map, sizeLine_eq]; omega, fun j nj => ?_⟩
  have s2 := same_upd (o := .lst ((ks.map fun k => V.ref k.1) ++ ks2.map fun k => V.ref k.1)) nj
  have hj : (upd H1 j (.lst ((ks.map fun k => V.ref k.1) ++ ks2.map fun k => V.ref k.1))) j = some (.lst ((ks ++ ks2).map fun k => V.ref k.1)) := by rw [upd_same, List.map_append]
  generalize upd H1 j (.lst ((ks.map fun k => V.ref k.1) ++ ks2.map fun k => V.ref k.1)) = H2 at s2 hj ⊢
  have o2 := o1.same s2
  have S2 := same_trans s1 s2
  have em : (ks ++ ks2).map (·.2) = ks.map (·.2) ++ ks2.map (·.2) := List.map_append
  have pool : ∀ z ∈ ns ++ ns2, z ∈ poolN := fun z m => by
    rcases List.mem_append.mp m with m | m
    · exact dr.pool z m
    · exact dr2.pool z m
  have two : ∀ k ∈ (ks ++ ks2).map (·.2), ∃ x y, k = [x, y] ∧ x ∈ ns ++ ns2 ∧ y ∈ ns ++ ns2 ∧ ltS x y = true := fun k m => by
    rw [em] at m
    rcases List.mem_append.mp m with m | m
    · obtain ⟨u, v, e, mu, mv, l⟩ := dr.two k m
      exact ⟨u, v, e, List.mem_append_left _ mu, List.mem_append_left _ mv, l⟩
    · obtain ⟨u, v, e, mu, mv, l⟩ := dr2.two k m
      exact ⟨u, v, e, List.mem_append_right _ mu, List.mem_append_right _ mv, l⟩
  dsimp only [tNil, List.cons_append, List.nil_append]
  refine checked_of (pool := ns ++ ns2) (ks := ks ++ ks2) (SqL.of (s2 _ _ hg)) (SqL.of hj) (fun k m => ?_) (fun k m => ?_) (by rw [List.length_append]; omega) (fun z m => m) (fun k m z mz => ?_) (fun z m => pool_short (pool z m)) (by rw [List.length_append]; omega) (by rw [List.length_append]; omega) ?_
  · rcases List.mem_append.mp m with m | m
    · exact o2.one.each k m
    · exact o2.two.each k m
  · obtain ⟨u, v, e, _⟩ := two k.2 (List.mem_map_of_mem m)
    exact ⟨u, v, e⟩
  · obtain ⟨u, v, e, mu, mv, _⟩ := two k.2 (List.mem_map_of_mem m)
    rw [e] at mz
    rcases (show z = u ∨ z = v by simpa using mz) with q1 | q1 <;> rw [q1] <;> assumption
  · intro H' d' ns' ks' s' nd an mn at' mt ne pl
    have mn' : ∀ z, z ∈ ns' ↔ z ∈ ns ++ ns2 := fun z => by
      rw [mn z]
      refine ⟨fun h => ?_, .inl⟩
      rcases h with h | ⟨k, mk, mz⟩
      · exact h
      · obtain ⟨u, v, rfl, mu, mv, _⟩ := two k mk
        rcases (show z = u ∨ z = v by simpa using mz) with q1 | q1 <;> rw [q1] <;> assumption
    have mt' : ∀ z, z ∈ ks'.map (·.2) ↔ z ∈ ks.map (·.2) ++ ks2.map (·.2) := fun z => by
      rw [mt z, ← em]
      constructor
      · rintro ⟨k, mk, rfl⟩
        obtain ⟨u, v, rfl, mu, mv, l⟩ := two k mk
        rw [asTie_lt l]
        exact mk
      · intro m
        obtain ⟨u, v, rfl, mu, mv, l⟩ := two z m
        exact ⟨_, m, (asTie_lt l).symm⟩
    have fw : fits ns' ks' = webB ns' (ks'.map (·.2)) := fits_web (fun z m => pool_ok z (pool z ((mn' z).mp m))) an at' fun k m => by
      obtain ⟨u, v, e, mu, mv, l⟩ := two k (by rw [em]; exact (mt' k).mp m)
      exact ⟨u, v, e, (mn' u).mpr mu, (mn' v).mpr mv, l⟩
    refine ⟨fun h => q H' _ _ (same_trans S2 s') (.web pl) ⟨ns', ks'.map (·.2), an, mn', at', mt', .inl ⟨by rw [← fw]; exact h, rfl⟩⟩, fun h => q H' _ _ (same_trans S2 s') (.word _) ⟨ns', ks'.map (·.2), an, mn', at', mt', .inr ⟨by rw [← fw]; exact h, rfl⟩⟩⟩
end
end Lx

/-! The law: two webs, asked sums and complements. -/
namespace Lx
open PySem PySem.Spec PyProof.Rows L2 Fw LamX
def qPair : Str := (("_law_pair_right" : Str) ++ (".<locals>." : Str)) ++ ("<lambda>" : Str)
theorem pe_ownIk {X : Cx} {K : PySem.W.Frag} {CX : CXT} {gg : Bool} {k : Nat} {C f : Addr} {fd : FuncData} {ps : List Str} {sp : Sp} {E : L2.St → XK} {op : Operator} {a b : Expr} {ta tb : TE} {pos : Pos} (h : X.K = K) (O : OwnOp K C f op) (G : gg = true → X.A.guards = some []) (F : FnV gg X.prog X.w K X.mg X.base CX k f fd ps sp) (hr : Room k X.A) (hb : Binds K fd ps [])
    (hx : ∀ σ, PassesAt CX X σ (E σ)) (ha : PE X a ta) (hbb : PE X b tb) : PE X (.BinOp a op b pos) (tOwn2 (rOwnI C sp) E ta tb) := by
  subst h
  exact pe_ownI O G F hr hb hx ha hbb
theorem pe_ownInvk {X : Cx} {K : PySem.W.Frag} {CX : CXT} {gg : Bool} {k : Nat} {C f : Addr} {fd : FuncData} {ps : List Str} {sp : Sp} {E : L2.St → XK} {a : Expr} {ta : TE} {pos : Pos} (h : X.K = K) (M : Meth K C "__invert__" f) (G : gg = true → X.A.guards = some []) (F : FnV gg X.prog X.w K X.mg X.base CX k f fd ps sp) (hr : Room k X.A) (hb : Binds K fd ps [])
    (hx : ∀ σ, PassesAt CX X σ (E σ)) (ha : PE X a ta) : PE X (.UnaryOp .Invert a pos) (tOwnU C sp E ta) := by
  subst h
  exact pe_ownInv M G F hr hb hx ha
/-- if asked(lambda: ..) != due or ..: return False -/
def tIfNeOr (Ts : List (Addr × Str)) (C CT CW : Addr) (t : XK → TE) (td : TE) (t2 : TT) (tb : TS) : TS := fun D σ H => AskR Ts C CT CW t td σ H ∧ ∀ H', ExtN H H' → Tabs Ts H' → t2 σ H' fun k H'' => if k = true then tb D σ H'' else tNext D σ H''
theorem ifNeOr {X : Cx} {e due c2 : Expr} {Ts : List (Addr × Str)} {C CT CW : Addr} {t : XK → TE} {td : TE} {t2 : TT} {body : List Stmt} {tb : TS} {pos pos' pos2 : Pos} (hu : X.A.units + 64 < cLine) (he : PE X e (tLam Ts (TAsked C CT CW) t)) (hd : PE X due td) (h2 : PT X c2 t2) (hb : PSs X body tb) :
    PS X (.If (.BoolOp .Or [.Compare e [.NotEq] [due] pos, c2] pos2) body [] pos') (tIfNeOr Ts C CT CW t td t2 tb) := by
  refine ps_weak (ps_if (PW.pt (pw_or (pt_cmpR (op_neM hu) he hd (nomark _)) (pw_or1 h2))) hb pss_nil) ?_
  rintro D σ H ⟨a, q⟩
  refine a.go (K := X.K) (Q := fun x y H2 => rNeM X.K x y H2 fun x H' => ∃ k, x = .bl k ∧ (if k = true then (if true = true then tb D σ H' else tNext D σ H') else t2 σ H' fun k H'' => if k = true then tb D σ H'' else tNext D σ H'')) fun x y H' eN tb' same => ?_
  refine ⟨same, false, rfl, ?_⟩
  rw [if_neg (by decide)]
  exact q H' eN tb'
section
variable {P : Program} {w : World} {K : PySem.W.Frag} {mg : Str → Option Value} {base : Heap} {f c : Addr} {A : Around} {fr : List Env} {s : Shared} {H0 : Hp} {E : XK}
/-- asked(lambda: ..) in this def -/
theorem askPair {Ts : List (Addr × Str)} {Pt : Addr} {params : Arguments} {body : Expr} {scope : Scope} {t : XK → TE} {p lpos pos : Pos} (T : TX K mg) (L : LamT base mg c Pt qPair Ts) (hr : hP A s f c) (hl : LamS (defScope (top 57)) scope) (hdef : defaultsOf params (XPr P w K mg base f c A fr s H0 E).env = ([], []))
    (hbind : ∀ (q : Str) (cl : List (Str × Addr)) (pm cv ctv : Value), bindArgs (PySem.W.kla_fn "<lambda>" q params body scope cl pm cv ctv) ⟨[], []⟩ = pure [])
    (hbody : ∀ (A' : Around) (outer : List Env) (s' : Shared) (H : Hp) (E' : XK) (f' c' : Addr), Room 11 (A'.deeper (lamEnv (XPr P w K mg base f c A fr s H0 E) scope s'.heap.objs.size f' c')) → PE (lamCx (XPr P w K mg base f c A fr s H0 E) A' outer s' H E' scope f' c') body (t E')) :
    PE (XPr P w K mg base f c A fr s H0 E) (.Call (.Name "_law_asked" p) [.Lambda params body scope lpos] [] pos) (tLam Ts (TAsked T.C_Web T.C_InvalidTie T.C_InvalidWeb) t) := by
  obtain ⟨oc, od, kV, doc, pm, an, cdv, ct, osl, efd, lk, hcd⟩ := T.F__law_asked.ex
  have bA := T.b__law_asked
  rw [efd] at lk bA
  exact pe_lamcall (by rfl) T.m__law_asked T.F__law_asked.kp lk hcd bA scAsked rfl (Or.inl rfl) (asked_gives (X := XPr P w K mg base f c A fr s H0 E) (k := 11) T hr) L.tb rfl L.me L.un (k := 11) (hr.mono (by decide)) hl hdef hbind hbody
def p6 (Ts : List (Addr × Str)) (C : Addr) : TS := fun D σ H => ∃ (p d e x y t a t2 a2 l1 l2 m1 m2 : Addr) (ns : List Str) (ks : List (Addr × List Str)) (ns2 : List Str) (ks2 : List (Addr × List Str)) (v : V) (r : Str ⊕ (List Str × List (List Str))) (u5 u6 u7 u8 u10 u11 : Option V),
  σ = slP p d e (some (.ref x)) (some (.ref y)) u5 u6 u7 u8 (some v) u10 u11 ∧ PI Ts C p d e x y t a t2 a2 l1 l2 m1 m2 ns ks ns2 ks2 H ∧ ToldR H v r ∧ RAdd ns (ks.map (·.2)) ns2 (ks2.map (·.2)) r ∧ ∀ H', ExtN H H' → Tabs Ts H' → D.nx σ H'
/-- a web drawn by the law, and one of its places and of more ties -/
theorem gath_same {C CW : Addr} {H : Hp} {Q : VK} {E : XK} {ns : List Str} {ts ts0 : List (List Str)} (dr : Drawn ns ts) (sub : ∀ k ∈ ts0, k ∈ pairsT ns) (q : ∀ H' x t a ks', AscT (ks'.map (·.2)) → (∀ z, z ∈ ks'.map (·.2) ↔ z ∈ ts0) → Same H H' → H x = none → WebAt C H' x t a ns ks' → Q (.ref x) H') : Gath C CW H Q E (ns ++ ns) ts0 :=
  gath_ok dr.asc (fun z => by simp) (fun n m => pool_ok n (dr.pool n m)) dr.ge (by have := dr.few; omega) sub q
theorem pair6 {Ts : List (Addr × Str)} {Pt : Addr} (T : TX K mg) (L : LamT base mg c Pt qPair Ts) (hG : A.guards = some []) (hr : hP A s f c) : PS (XPr P w K mg base f c A fr s H0 E) (stmtAt (defBody (top 57)) 6) (p6 Ts T.C_Web) := by
  have hu := hr.units
  have GA : FnV false P w K mg base (L2.CX P w) 10 T.f_Web___add__ T.d_Web___add__ ["self", "other"] (spAdd T.C_Web T.C_InvalidWeb) := T.q_add
  have GE : FnV false P w K mg base CX0 1 T.f_Web___eq__ T.d_Web___eq__ ["self", "other"] (spEq T.C_Web) := T.q_eq
  refine ps_weak (ifNeOr (by exact hu) (askPair T L hr (lamS_by (by show lamSB (defScope (top 57)) _ = true; decide +kernel)) (by rfl) (by intros; rfl)
    (fun A' outer s' H E' f' c' hr2 => pe_ownIk (X := lamCx (XPr P w K mg base f c A fr s H0 E) A' outer s' H E' _ f' c') (K := K) (gg := false) (E := WE fun cls d _ H => E' cls d H) rfl T.O_Web___add__ (fun z => nomatch z) GA (hr2.mono (by decide)) T.b_Web___add__ (fun σ => passAt (takes_of rfl rfl rfl rfl) σ) (pv 3) (pv 4)))
    (pv 9) (pt_cmpR (op_neIk (K := K) rfl T.OE_Web___eq__ GE T.b_Web___eq__ (hr.mono (by decide))) (pe_ownIk (X := XPr P w K mg base f c A fr s H0 E) (K := K) (gg := false) (E := fun _ _ _ _ => False) rfl T.O_Web___add__ (fun z => nomatch z) GA (hr.mono (by decide)) T.b_Web___add__ (fun _ => passNo) (pv 3) (pv 3)) (pv 3) (nomark _)) (pss_one (ps_ret pe_bl))) ?_
  rintro D σ H ⟨p, d, e, x, y, t, a, t2, a2, l1, l2, m1, m2, ns, ks, ns2, ks2, v, r, u5, u6, u7, u8, u10, u11, rfl, o, told, rr, q⟩
  have dr := o.one.dr
  have dr2 := o.two.dr
  have few := dr.few
  have few2 := dr2.few
  have lk := dr.len
  have lk2 := dr2.len
  rw [List.length_map] at lk lk2
  refine ⟨⟨RAdd ns (ks.map (·.2)) ns2 (ks2.map (·.2)), fun _ _ => radd_un, o.one.tabs, fun H1 eN Q hQ => ?_, fun H2 e2 Q hQ => ⟨v, rfl, hQ H2 v r keep_refl (told.ext e2) rr⟩⟩, fun H1 eN tb1 => ?_⟩
  · have W1 := o.one.webE eN
    have W2 := o.two.webE eN
    obtain ⟨dx, D1, e1, _, _⟩ := W1.ins
    obtain ⟨dy, D2, e2, _, _⟩ := W2.ins
    refine ⟨_, rfl, _, rfl, x, y, dx, _, dy, _, rfl, rfl, e1, e2, x, t, a, y, t2, a2, ns, ns2, ks, ks2, rfl, W1, W2, by omega, by omega, fun n' t' an mn at' mt => ?_⟩
    exact ⟨fun cc H' s' => .inr ⟨rfl, hQ H' _ _ s' (.word _) ⟨n', t', an, mn, at', mt, .inr ⟨cc, rfl⟩⟩⟩, fun cc H' x' tx ax ks' ek s' n1 W' => told_web W' rfl fun H'' v' s'' told' => hQ H'' v' _ (same_trans s' s'') told' ⟨n', t', an, mn, at', mt, .inl ⟨cc, by rw [ek]⟩⟩⟩
  · have o1 := o.ext eN tb1
    have W1 := o1.one.web
    obtain ⟨dx, D1, e1, _, _⟩ := W1.ins
    refine ⟨_, rfl, _, rfl, x, x, dx, _, dx, _, rfl, rfl, e1, e1, x, t, a, x, t, a, ns, ns, ks, ks, rfl, W1, W1, by omega, by omega, ?_⟩
    refine gath_same dr (fun k m => ?_) fun H' x' tx ax ks' as' ms' s' n' W' => ?_
    · rcases List.mem_append.mp m with m | m <;> exact dr.sub k m
    · obtain ⟨dw, D2, ew, _, _⟩ := W'.ins
      have Wx := (o1.one.same s').web
      refine ⟨_, rfl, x', x, dw, _, dx, _, rfl, rfl, ew, s' _ _ e1, ?_⟩
      refine web_eq W' Wx rfl (as'.same dr.ascT fun z => (ms' z).trans (by simp)) ?_
      exact ⟨true, rfl, false, rfl, q H' (eN.trans (extN_of s')) (tb1.ext fun b o e => s' b o e)⟩
def p7 (Ts : List (Addr × Str)) (C : Addr) : TS := fun D σ H => ∃ (p d e x y t a t2 a2 l1 l2 m1 m2 : Addr) (ns : List Str) (ks : List (Addr × List Str)) (ns2 : List Str) (ks2 : List (Addr × List Str)) (u5 u6 u7 u8 u9 u10 u11 : Option V),
  σ = slP p d e (some (.ref x)) (some (.ref y)) u5 u6 u7 u8 u9 u10 u11 ∧ PI Ts C p d e x y t a t2 a2 l1 l2 m1 m2 ns ks ns2 ks2 H ∧
  ∀ H' L ls, Same H H' → ListT H' L ls → ls.map (·.2) = otherT ns (ks.map (·.2)) → D.nx (slP p d e (some (.ref x)) (some (.ref y)) u5 u6 u7 u8 u9 (some (.ref L)) u11) H'
theorem pair7 {Ts : List (Addr × Str)} {C : Addr} (T : TX K mg) (hG : A.guards = some []) (hr : hP A s f c) : PS (XPr P w K mg base f c A fr s H0 E) (stmtAt (defBody (top 57)) 7) (p7 Ts C) := by
  have hu := hr.units
  have hu1 := Nat.lt_of_le_of_lt (Nat.add_le_add_left (show 1 ≤ 64 by decide) _) hu
  have GP : FnG P w K mg base CX0 2 T.f__law_pairs T.d__law_pairs ["_law_places"] (spLPairs K) := T.q_lpairs
  refine ps_weak (ps_setLc (i := 10) (own := [("_law_tie_here", 11)]) (g := gName 11) (by rfl) scPR.nd rfl rfl (sw_true rfl rfl rfl (by decide +kernel)) (pi_listK (K := K) rfl (pe_callG (E := fun _ _ _ _ => False) hG GP (hr.mono (by decide)) (by rfl) T.m__law_pairs T.F__law_pairs.kp T.b__law_pairs .nil (fun _ => passAt0) (pa_cons (pe_dget (by exact hu1) (pv 1) pe_str (fun _ _ => rfl)) pa_nil)))
    (blkOk_by (N := nPR) (sc := defScope (top 57)) (own := [("_law_tie_here", 11)]) (by decide +kernel)) (fun _ _ _ _ _ => pg_name (i := 11) scPR.nd rfl (Or.inl rfl))
    (fun _ _ _ _ _ => pts_one (pt_cmpR (op_notInXLk (K := K) rfl (by exact hu)) (pv 11) (pe_dget (by exact hu1) (pv 1) pe_str (fun _ _ => rfl)) (by rfl))) (fun _ _ _ _ _ => pv 11)) ?_
  rintro D σ H ⟨p, d, e, x, y, t, a, t2, a2, l1, l2, m1, m2, ns, ks, ns2, ks2, u5, u6, u7, u8, u9, u10, u11, rfl, o, q⟩
  have dr := o.one.dr
  have few := dr.few
  refine ⟨_, rfl, d, _, rfl, DGet.k (k := Sum.inr "places") o.one.at_d, l1, ns, rfl, SqL.of o.one.at1, fun z m => pool_short (dr.pool z m), dr.asc, by omega, fun H1 L1 zs s1 nL1 hL1 mp each ne => ⟨L1, rfl, ⟨_, SqL.of hL1⟩, fun L nL => ?_⟩⟩
  have fw := pairs_few (ns := ns) (by omega)
  have lz : (zs.map (·.2)).length ≤ 36 := by rw [mp]; exact fw
  refine lc_listR (K := K) repT repT (as := zs.map (·.2)) (SqL.of hL1) (reps_tups each ne) (fun k => if (!decide (k ∈ ks.map (·.2))) = true then some k else none) nL (by omega) ?_ ?_
  · rintro i v u Hc C' N eu sc ⟨b, rfl, hb, hs, hl, hn⟩ yes no
    have oc := (o.same s1).same sc
    refine ⟨rfl, _, rfl, _, rfl, d, _, rfl, DGet.k (k := Sum.inr "ties") oc.one.at_d, b, l2, u, ks, rfl, rfl, hb, SqL.of oc.one.at2, fun k m => (oc.one.each k m).1, _, rfl, ?_⟩
    dsimp only
    by_cases c : u ∈ ks.map (·.2)
    · rw [if_neg (by simp [c])]
      exact no (by simp [c]) Hc keep_refl
    · rw [if_pos (by simp [c])]
      exact ⟨_, rfl, yes _ _ u (by simp [c]) keep_refl ⟨b, rfl, hb, hs, hl, hn⟩⟩
  · intro H3 ys s3 h3 rs
    obtain ⟨ls, ev, em, each3, ne3⟩ := reps_tups_of rs
    refine q H3 L ls (same_trans s1 s3) ⟨by rw [h3, ev], each3⟩ ?_
    rw [em, mp]
    exact fm_guard (fun k => !decide (k ∈ ks.map (·.2))) _
theorem other_other {ns : List Str} {ts : List (List Str)} (dr : Drawn ns ts) : otherT ns (otherT ns ts) = ts := by
  refine AscT.same (AscT.filter (pairs_asc dr.asc) _) dr.ascT fun z => ?_
  unfold otherT
  rw [List.mem_filter]
  constructor
  · rintro ⟨h1, h2⟩
    by_cases c : z ∈ ts
    · exact c
    · have h3 : z ∈ (pairsT ns).filter fun k => !decide (k ∈ ts) := List.mem_filter.mpr ⟨h1, by rw [decide_eq_false c]; rfl⟩
      rw [decide_eq_true h3] at h2
      cases h2
  · intro m
    refine ⟨dr.sub z m, ?_⟩
    rw [Bool.not_eq_true', decide_eq_false_iff_not, List.mem_filter]
    rintro ⟨_, h⟩
    rw [decide_eq_true m] at h
    cases h
theorem other_drawn {ns : List Str} {ts : List (List Str)} (dr : Drawn ns ts) : Drawn ns (otherT ns ts) := ⟨dr.pool, dr.asc, dr.ge, dr.few, AscT.filter (pairs_asc dr.asc) _, fun k m => (List.mem_filter.mp m).1⟩
def p8 (Ts : List (Addr × Str)) (C : Addr) : TS := fun D σ H => ∃ (p d e x y t a t2 a2 l1 l2 m1 m2 L : Addr) (ns : List Str) (ks : List (Addr × List Str)) (ns2 : List Str) (ks2 : List (Addr × List Str)) (ls : List (Addr × List Str)) (u5 u6 u7 u8 u9 u11 : Option V),
  σ = slP p d e (some (.ref x)) (some (.ref y)) u5 u6 u7 u8 u9 (some (.ref L)) u11 ∧ PI Ts C p d e x y t a t2 a2 l1 l2 m1 m2 ns ks ns2 ks2 H ∧ ListT H L ls ∧ ls.map (·.2) = otherT ns (ks.map (·.2)) ∧ ∀ H', ExtN H H' → Tabs Ts H' → D.nx σ H'
theorem ListT.ext {H H' : Hp} {l : Addr} {ks : List (Addr × List Str)} (h : ListT H l ks) (s : ExtN H H') : ListT H' l ks := by
  refine ⟨s _ _ h.at_ (fun _ z => by cases z), fun k m => ⟨?_, (h.each k m).2⟩⟩
  rcases (h.each k m).1 with z | ⟨o, z⟩
  · exact .inl (s _ _ z fun _ z => by cases z)
  · exact .inr ⟨o, s _ _ z fun _ z => by cases z⟩
theorem pair8 {Ts : List (Addr × Str)} {Pt : Addr} (T : TX K mg) (L0 : LamT base mg c Pt qPair Ts) (hG : A.guards = some []) (hr : hP A s f c) : PS (XPr P w K mg base f c A fr s H0 E) (stmtAt (defBody (top 57)) 8) (p8 Ts T.C_Web) := by
  have hu := hr.units
  have hu1 := Nat.lt_of_le_of_lt (Nat.add_le_add_left (show 1 ≤ 64 by decide) _) hu
  have GI : FnV false P w K mg base (L2.CX P w) 9 T.f_Web___invert__ T.d_Web___invert__ ["self"] (spInv T.C_Web) := T.q_inv
  have GE : FnV false P w K mg base CX0 1 T.f_Web___eq__ T.d_Web___eq__ ["self", "other"] (spEq T.C_Web) := T.q_eq
  refine ps_weak (ifNeOr (by exact hu) (askPair T L0 hr (lamS_by (by show lamSB (defScope (top 57)) _ = true; decide +kernel)) (by rfl) (by intros; rfl)
    (fun A' outer s' H E' f' c' hr2 => pe_ownInvk (X := lamCx (XPr P w K mg base f c A fr s H0 E) A' outer s' H E' _ f' c') (K := K) (gg := false) (E := WE fun cls d _ H => E' cls d H) rfl T.M_Web___invert__ (fun z => nomatch z) GI (hr2.mono (by decide)) T.b_Web___invert__ (fun σ => passAt (takes_of rfl rfl rfl rfl) σ) (pv 3)))
    (pe_disp (pps_cons pe_str (pe_dget (by exact hu1) (pv 1) pe_str (fun _ _ => rfl)) (pps_cons pe_str (pv 10) pps_nil)) (by rfl) (by rfl) (fun z => by cases z) (by decide))
    (pt_cmpR (op_neIk (K := K) rfl T.OE_Web___eq__ GE T.b_Web___eq__ (hr.mono (by decide))) (pe_ownInvk (X := XPr P w K mg base f c A fr s H0 E) (K := K) (gg := false) (E := fun _ _ _ _ => False) rfl T.M_Web___invert__ (fun z => nomatch z) GI (hr.mono (by decide)) T.b_Web___invert__ (fun _ => passNo)
      (pe_ownInvk (X := XPr P w K mg base f c A fr s H0 E) (K := K) (gg := false) (E := fun _ _ _ _ => False) rfl T.M_Web___invert__ (fun z => nomatch z) GI (hr.mono (by decide)) T.b_Web___invert__ (fun _ => passNo) (pv 3))) (pv 3) (nomark _)) (pss_one (ps_ret pe_bl))) ?_
  rintro D σ H ⟨p, d, e, x, y, t, a, t2, a2, l1, l2, m1, m2, L, ns, ks, ns2, ks2, ls, u5, u6, u7, u8, u9, u11, rfl, o, hL, el, q⟩
  have dr := o.one.dr
  have few := dr.few
  refine ⟨⟨fun r => r = .inr (ns, otherT ns (ks.map (·.2))), fun _ _ h h' => h.trans h'.symm, o.one.tabs, fun H1 eN Q hQ => ?_, fun H2 e2 Q hQ => ?_⟩, fun H1 eN tb1 => ?_⟩
  · have W1 := o.one.webE eN
    obtain ⟨dx, D1, e1, _, _⟩ := W1.ins
    exact ⟨_, rfl, x, dx, _, rfl, e1, x, t, a, ns, ks, rfl, W1, by omega, fun H' z az zs ez s' n' W' => told_web W' rfl fun H'' v' s'' told' => hQ H'' v' _ (same_trans s' s'') told' (by rw [ez])⟩
  · have a0 := stays o.one.dice (.ext e2) o.one.at_d
    have a1 := stays o.one.dice (.ext e2) o.one.at1 (strs_ne ns)
    have hL2 := hL.ext e2
    refine fun g ng => ?_
    have s1 := same_upd (o := .dK []) ng
    generalize hH1 : upd H2 g (.dK []) = H3 at s1 ⊢
    subst hH1
    obtain ⟨hd8, S8, pl⟩ := plain_disp (ns := ns) (ks := ls) ng keep_refl (s1 _ _ a1) (hL2.same s1).at_ (hL2.same s1).each
    refine ⟨_, rfl, d, _, rfl, DGet.k (k := Sum.inr "places") (s1 _ _ a0), _, rfl, hd8, [(Sum.inr "places", .ref l1), (Sum.inr "ties", .ref L)], rfl, by show 2 ≤ 15; decide, ?_⟩
    exact hQ _ _ _ S8 (.web pl) (by rw [el])
  · have o1 := o.ext eN tb1
    have W1 := o1.one.web
    obtain ⟨dx, D1, e1, _, _⟩ := W1.ins
    refine ⟨_, rfl, x, dx, _, rfl, e1, x, t, a, ns, ks, rfl, W1, by omega, fun H2 z az zs ez s2 n2 W2 => ?_⟩
    obtain ⟨dz, D2, e2, _, _⟩ := W2.ins
    refine ⟨z, dz, _, rfl, e2, z, t, az, ns, zs, rfl, W2, by omega, fun H3 z' az' zs' ez' s3 n3 W3 => ?_⟩
    obtain ⟨dz', D3, e3, _, _⟩ := W3.ins
    have S := same_trans s2 s3
    have Wx := (o1.one.same S).web
    refine ⟨_, rfl, z', x, dz', _, dx, _, rfl, rfl, e3, S _ _ e1, ?_⟩
    refine web_eq W3 Wx rfl (by rw [ez', ez, other_other dr]) ?_
    exact ⟨true, rfl, false, rfl, q H3 (eN.trans (extN_of S)) (tb1.ext fun b o e => S b o e)⟩
end
end Lx

/-! The law: two webs, whole. -/
namespace Lx
open PySem PySem.Spec PyProof.Rows L2 Fw LamX
section
variable {P : Program} {w : World} {K : PySem.W.Frag} {mg : Str → Option Value} {base : Heap}
section
variable {f c : Addr} {A : Around} {fr : List Env} {s : Shared} {H0 : Hp} {E : XK}
def p9 (Ts : List (Addr × Str)) (C : Addr) : TS := fun D σ H => ∃ (p d e x y t a t2 a2 l1 l2 m1 m2 : Addr) (ns : List Str) (ks : List (Addr × List Str)) (ns2 : List Str) (ks2 : List (Addr × List Str)) (u5 u6 u7 u8 u9 u10 u11 : Option V),
  σ = slP p d e (some (.ref x)) (some (.ref y)) u5 u6 u7 u8 u9 u10 u11 ∧ PI Ts C p d e x y t a t2 a2 l1 l2 m1 m2 ns ks ns2 ks2 H ∧ ∀ H', Same H H' → D.rt (.bl true) H'
theorem pairs_all {ns : List Str} {ts : List (List Str)} (dr : Drawn ns ts) (z : List Str) : z ∈ ts ++ otherT ns ts ↔ z ∈ pairsT ns := by
  unfold otherT
  rw [List.mem_append, List.mem_filter]
  constructor
  · rintro (m | ⟨m, _⟩)
    · exact dr.sub z m
    · exact m
  · intro m
    by_cases c : z ∈ ts
    · exact .inl c
    · exact .inr ⟨m, by rw [decide_eq_false c]; rfl⟩
theorem pair9 {Ts : List (Addr × Str)} (T : TX K mg) (hG : A.guards = some []) (hr : hP A s f c) : PS (XPr P w K mg base f c A fr s H0 E) (stmtAt (defBody (top 57)) 9) (p9 Ts T.C_Web) := by
  have hu := hr.units
  have GI : FnV false P w K mg base (L2.CX P w) 9 T.f_Web___invert__ T.d_Web___invert__ ["self"] (spInv T.C_Web) := T.q_inv
  have GA : FnV false P w K mg base (L2.CX P w) 10 T.f_Web___add__ T.d_Web___add__ ["self", "other"] (spAdd T.C_Web T.C_InvalidWeb) := T.q_add
  have GE : FnV false P w K mg base CX0 1 T.f_Web___eq__ T.d_Web___eq__ ["self", "other"] (spEq T.C_Web) := T.q_eq
  have GF : FnV false P w K mg base (L2.CX P w) 9 T.f_full_web T.d_full_web ["places"] (spFull T.C_Web) := T.q_full
  have GMd : FnV false P w K mg base (L2.CX P w) 9 T.f__law_made T.d__law_made ["_law_plain_here"] (spMade T.C_Web) := T.q_made
  have GTo : FnG P w K mg base CX0 3 T.f__law_told_web T.d__law_told_web ["_law_web"] (spToldW T.C_Web) := T.q_toldW
  have GgP : FnOk P w K mg base CX0 1 T.f_Web_places T.d_Web_places ["self"] (spP T.C_Web) := (T.q_getP (gg := false)).ok
  refine ps_weak (ps_ret (pe_and (pe_cmpR (op_eqMk (K := K) rfl (by exact hu))
      (pe_callG (E := fun _ _ _ _ => False) hG GTo (hr.mono (by decide)) (by rfl) T.m__law_told_web T.F__law_told_web.kp T.b__law_told_web .nil (fun _ => passAt0) (pa_cons
        (pe_ownIk (X := XPr P w K mg base f c A fr s H0 E) (K := K) (gg := false) (E := fun _ _ _ _ => False) rfl T.O_Web___add__ (fun z => nomatch z) GA (hr.mono (by decide)) T.b_Web___add__ (fun _ => passNo) (pv 3)
          (pe_ownInvk (X := XPr P w K mg base f c A fr s H0 E) (K := K) (gg := false) (E := fun _ _ _ _ => False) rfl T.M_Web___invert__ (fun z => nomatch z) GI (hr.mono (by decide)) T.b_Web___invert__ (fun _ => passNo) (pv 3))) pa_nil))
      (pe_callG (E := fun _ _ _ _ => False) hG GTo (hr.mono (by decide)) (by rfl) T.m__law_told_web T.F__law_told_web.kp T.b__law_told_web .nil (fun _ => passAt0) (pa_cons
        (pe_callV (gg := false) (E := fun _ _ _ _ => False) (fun z => nomatch z) GF (hr.mono (by decide)) (by rfl) T.m_full_web T.F_full_web.kp T.b_full_web .nil (fun _ => passNo) (pa_cons (pe_prop (pv 3) T.cl_Web T.P_Web_places GgP (hr.mono (by decide)) T.b_Web_places .nil pass0 rfl) pa_nil)) pa_nil)) (nomark _))
    (pe_one (pe_cmpR (op_eqIk (K := K) rfl T.OE_Web___eq__ GE T.b_Web___eq__ (hr.mono (by decide))) (pv 3)
      (pe_callV (gg := false) (E := fun _ _ _ _ => False) (fun z => nomatch z) GMd (hr.mono (by decide)) (by rfl) T.m__law_made T.F__law_made.kp T.b__law_made .nil (fun _ => passNo) (pa_cons (pv 1) pa_nil)) (nomark _))))) ?_
  rintro D σ H ⟨p, d, e, x, y, t, a, t2, a2, l1, l2, m1, m2, ns, ks, ns2, ks2, u5, u6, u7, u8, u9, u10, u11, rfl, o, q⟩
  have dr := o.one.dr
  have few := dr.few
  have lk := dr.len
  rw [List.length_map] at lk
  have W := o.one.web
  obtain ⟨dx, D1, e1, _, _⟩ := W.ins
  have dro := other_drawn dr
  have lo := dro.len
  refine ⟨_, rfl, _, rfl, x, dx, _, rfl, e1, x, t, a, ns, ks, rfl, W, by omega, fun H1 z az zs ez s1 n1 W1 => ?_⟩
  obtain ⟨dz, D2, e2, _, _⟩ := W1.ins
  have Wx1 := W.same s1
  have lz : zs.length ≤ 28 := by
    have z := congrArg List.length ez
    rw [List.length_map] at z
    omega
  refine ⟨x, z, dx, _, dz, _, rfl, rfl, s1 _ _ e1, e2, x, t, a, z, t, az, ns, ns, ks, zs, rfl, Wx1, W1, by omega, by omega, ?_⟩
  refine gath_same dr (fun k m => ?_) fun H2 z' tz' az' zs' as' ms' s2 n2 W2 => ?_
  · rw [ez] at m
    exact (pairs_all dr k).mp m
  have ez' : zs'.map (·.2) = pairsT ns := as'.same (pairs_asc dr.asc) fun k => (ms' k).trans (by rw [ez]; exact pairs_all dr k)
  refine ⟨z', tz', az', ns, zs', rfl, W2, fun H3 d3 s3 n3 pl3 => ?_⟩
  have S3 := same_trans s1 (same_trans s2 s3)
  have Wx3 := W.same S3
  refine ⟨_, rfl, x, dx, _, rfl, S3 _ _ e1, x, t, a, ns, ks, rfl, Wx3, ?_⟩
  refine ⟨t, ns, rfl, Wx3.tup, fun n m => pool_ok n (dr.pool n m), dr.asc, dr.ge, by omega, fun H4 y4 a4 ks4 ek4 s4 n4 W4 => ?_⟩
  refine ⟨y4, t, a4, ns, ks4, rfl, W4, fun H5 d5 s5 n5 pl5 => ?_⟩
  have td1 : ToldR H5 (.ref d3) (.inr (ns, pairsT ns)) := by
    rw [← ez']
    exact .web (plain_same (same_trans s4 s5) pl3)
  have td2 : ToldR H5 (.ref d5) (.inr (ns, pairsT ns)) := by
    rw [← ek4]
    exact .web pl5
  refine ⟨told_same td1 td2, true, rfl, ?_⟩
  rw [if_pos rfl]
  have S5 := same_trans S3 (same_trans s4 s5)
  have o5 := o.same S5
  refine ⟨_, rfl, _, rfl, d, ns, ks, rfl, o5.one.plain, dr.web, fun H6 w' tw aw s6 n6 W6 _ => ?_⟩
  obtain ⟨dw, D6, e6, _, _⟩ := W6.ins
  have Wx6 := o5.one.web.same s6
  refine ⟨x, w', dx, _, dw, _, rfl, rfl, s6 _ _ (S5 _ _ e1), e6, ?_⟩
  refine web_eq Wx6 W6 rfl rfl ?_
  exact ⟨true, rfl, q H6 (same_trans S5 s6)⟩
end
def spPairR (Ts : List (Addr × Str)) : Sp := fun vs H Q _ => ∃ (p d e : Addr) (ns : List Str) (ks : List (Addr × List Str)) (ns2 : List Str) (ks2 : List (Addr × List Str)), vs = [.ref p, .ref d, .ref e] ∧ DiceAt H p ∧ Tabs Ts H ∧ Drawn ns (ks.map (·.2)) ∧ Drawn ns2 (ks2.map (·.2)) ∧ PlainAt H d ns ks ∧ PlainAt H e ns2 ks2 ∧
  ∀ H', ButT p H H' → DiceAt H' p → Tabs Ts H' → Q (.bl true) H'
theorem TX.q_pairR {Ts : List (Addr × Str)} {Pt : Addr} (T : TX K mg) (L : LamT base mg T.c__law_pair_right Pt qPair Ts) : FnG P w K mg base CX0 16 T.f__law_pair_right T.d__law_pair_right ["_law_dice_here", "_law_plain_here", "_law_other"] (spPairR Ts) := by
  refine fnC T.FC__law_pair_right scPR (fun vs H Q E h => ?_) (fun A fr s H vs Q E hGt hr h => ?_)
  · obtain ⟨p, d, e, ns, ks, ns2, ks2, rfl, _⟩ := h
    rfl
  · have hG := hGt rfl
    obtain ⟨p, d, e, ns, ks, ns2, ks2, rfl, hd, tb, dr, dr2, ⟨⟨l1, l2, a1, a2, a3⟩, each⟩, ⟨⟨m1, m2, b1, b2, b3⟩, each2⟩, q⟩ := h
    have eb : defBody (top 57) = [stmtAt (defBody (top 57)) 0, stmtAt (defBody (top 57)) 1, stmtAt (defBody (top 57)) 2, stmtAt (defBody (top 57)) 3, stmtAt (defBody (top 57)) 4, stmtAt (defBody (top 57)) 5, stmtAt (defBody (top 57)) 6, stmtAt (defBody (top 57)) 7,
      stmtAt (defBody (top 57)) 8, stmtAt (defBody (top 57)) 9] := rfl
    refine ⟨_, pss_body eb (pss_cons (pair0 (Ts := Ts) T hr) (pss_cons (pair1 (Ts := Ts) (C := T.C_Web) T hG hr) (pss_cons (pair2 (Ts := Ts) T hr) (pss_cons (pair3 (Ts := Ts) (C := T.C_Web) T hG hr) (pss_cons (pair4 (Ts := Ts) T hG hr) (pss_cons (pair5 (Ts := Ts) (C := T.C_Web) T hG hr) (pss_cons (pair6 T L hG hr) (pss_cons (pair7 (Ts := Ts) (C := T.C_Web) T hG hr)
      (pss_cons (pair8 T L hG hr) (pss_one (pair9 (Ts := Ts) T hG hr))))))))))), ?_⟩
    refine ⟨p, d, e, l1, l2, m1, m2, ns, ks, ns2, ks2, rfl, hd, tb, dr, dr2, a1, a2, a3, each, b1, b2, b3, each2, fun H0' x y t a t2 a2' s0 o0 => ?_⟩
    refine ⟨p, d, e, x, y, t, a, t2, a2', l1, l2, m1, m2, ns, ks, ns2, ks2, _, _, _, _, _, _, _, rfl, o0, fun H1 n ps b1' o1 im => ?_⟩
    have B1 := (ButT.same s0 (p := p)).trans (.of b1')
    refine ⟨p, d, e, x, y, t, a, t2, a2', l1, l2, m1, m2, n, ns, ks, ns2, ks2, ps, _, _, _, _, _, _, rfl, o1, im, fun H2 z tz az nz kz s2 fz => ?_⟩
    have o2 := o1.same s2
    have im2 := im.same s2
    refine ⟨p, d, e, x, y, n, z, ns, ps, _, _, _, _, _, rfl, im2, dr.pool, ascN_nodup dr.asc, dr.few, fun H3 b s3 hb => ?_⟩
    have o3 := o2.same s3
    refine ⟨p, d, e, x, y, t, a, t2, a2', l1, l2, m1, m2, n, z, b, tz, az, ns, ks, ns2, ks2, ps, nz, kz, _, _, _, _, rfl, o3, im2.same s3, fz.same s3, hb, fun H4 s4 => ?_⟩
    have o4 := o3.same s4
    refine ⟨p, d, e, x, y, t, a, t2, a2', l1, l2, m1, m2, ns, ks, ns2, ks2, _, _, _, _, _, _, _, rfl, o4, fun H5 v r s5 told rr => ?_⟩
    have o5 := o4.same s5
    refine ⟨p, d, e, x, y, t, a, t2, a2', l1, l2, m1, m2, ns, ks, ns2, ks2, v, r, _, _, _, _, _, _, rfl, o5, told, rr, fun H6 e6 tb6 => ?_⟩
    have o6 := o5.ext e6 tb6
    refine ⟨p, d, e, x, y, t, a, t2, a2', l1, l2, m1, m2, ns, ks, ns2, ks2, _, _, _, _, _, _, _, rfl, o6, fun H7 L' ls s7 h7 el => ?_⟩
    have o7 := o6.same s7
    refine ⟨p, d, e, x, y, t, a, t2, a2', l1, l2, m1, m2, L', ns, ks, ns2, ks2, ls, _, _, _, _, _, _, rfl, o7, h7, el, fun H8 e8 tb8 => ?_⟩
    have o8 := o7.ext e8 tb8
    refine ⟨p, d, e, x, y, t, a, t2, a2', l1, l2, m1, m2, ns, ks, ns2, ks2, _, _, _, _, _, _, _, rfl, o8, fun H9 s9 => ?_⟩
    have o9 := o8.same s9
    have B := (((((((B1.trans (.same s2)).trans (.same s3)).trans (.same s4)).trans (.same s5)).trans (.ext e6)).trans (.same s7)).trans (.ext e8)).trans (.same s9)
    exact q H9 B o9.one.dice o9.one.tabs
end
end Lx

/-! The law: rings, in lists alone. -/
namespace Lx
open PySem PySem.Spec PyProof.Rows L2 Fw LamX
def prevI (n i : Nat) : Nat := if i = 0 then n - 1 else i - 1
def nextI (n i : Nat) : Nat := if i + 1 = n then 0 else i + 1
theorem prev_lt {n i : Nat} (h : i < n) : prevI n i < n := by unfold prevI; split <;> omega
theorem next_lt {n i : Nat} (h : i < n) : nextI n i < n := by unfold nextI; split <;> omega
theorem prev_next {n i : Nat} (h : i < n) : prevI n (nextI n i) = i := by unfold nextI prevI; split <;> split <;> omega
theorem next_prev {n i : Nat} (h : i < n) : nextI n (prevI n i) = i := by unfold nextI prevI; split <;> split <;> omega
theorem prev_ne {n i : Nat} (h : i < n) (g : 2 ≤ n) : prevI n i ≠ i := by unfold prevI; split <;> omega
def nth (ms : List Str) (i : Nat) : Str := ms.getD i Str.empty
theorem nth_get {ms : List Str} {i : Nat} (h : i < ms.length) : ms[i]? = some (nth ms i) := by
  unfold nth
  rw [List.getD_eq_getElem?_getD, List.getElem?_eq_getElem h]
  rfl
theorem nth_mem {ms : List Str} {i : Nat} (h : i < ms.length) : nth ms i ∈ ms := List.mem_of_getElem? (nth_get h)
theorem nth_inj {ms : List Str} (nd : ms.Nodup) {i j : Nat} (hi : i < ms.length) (hj : j < ms.length) (e : nth ms i = nth ms j) : i = j := by
  have a := nth_get hi
  have b := nth_get hj
  rw [← e] at b
  exact (List.getElem?_inj hi nd).mp (a.trans b.symm)
def ringT (ms : List Str) : List (List Str) := (List.range ms.length).map fun i => [nth ms i, nth ms (prevI ms.length i)]
theorem mem_ring {ms : List Str} {k : List Str} : k ∈ ringT ms ↔ ∃ i, i < ms.length ∧ k = [nth ms i, nth ms (prevI ms.length i)] := by
  unfold ringT
  rw [List.mem_map]
  exact ⟨fun ⟨i, m, e⟩ => ⟨i, List.mem_range.mp m, e.symm⟩, fun ⟨i, m, e⟩ => ⟨i, List.mem_range.mpr m, e.symm⟩⟩
theorem ring_len (ms : List Str) : (ringT ms).length = ms.length := by
  unfold ringT
  rw [List.length_map, List.length_range]
theorem mem_alongT : ∀ {row : List Str} {z : List Str}, z ∈ alongT row ↔ ∃ i x y, row[i]? = some x ∧ row[i + 1]? = some y ∧ z = pairT x y := by
  intro row z
  constructor
  · intro m
    obtain ⟨i, hi⟩ := List.getElem?_of_mem m
    have lt : i < (alongT row).length := (List.getElem?_eq_some_iff.mp hi).1
    rw [alongT_len] at lt
    have h1 := List.getElem?_eq_getElem (show i < row.length by omega)
    have h2 := List.getElem?_eq_getElem (show i + 1 < row.length by omega)
    have h3 := alongT_at h1 h2
    rw [hi] at h3
    exact ⟨i, _, _, h1, h2, Option.some.inj h3⟩
  · rintro ⟨i, x, y, h1, h2, rfl⟩
    exact List.mem_of_getElem? (alongT_at h1 h2)
theorem mem_round {ms : List Str} (ge : 1 ≤ ms.length) {z : List Str} : z ∈ roundT ms ↔ ∃ i, i < ms.length ∧ z = pairT (nth ms i) (nth ms (nextI ms.length i)) := by
  have row : ∀ i, i < ms.length → (ms ++ ms.take 1)[i]? = some (nth ms i) ∧ (ms ++ ms.take 1)[i + 1]? = some (nth ms (nextI ms.length i)) := fun i h => by
    refine ⟨by rw [List.getElem?_append_left h]; exact nth_get h, ?_⟩
    unfold nextI
    by_cases c : i + 1 = ms.length
    · rw [if_pos c, List.getElem?_append_right (by omega), c, Nat.sub_self, List.getElem?_take_of_lt (by omega)]
      exact nth_get (by omega)
    · rw [if_neg c, List.getElem?_append_left (by omega)]
      exact nth_get (by omega)
  unfold roundT
  rw [mem_alongT]
  constructor
  · rintro ⟨i, x, y, h1, h2, rfl⟩
    have lt := (List.getElem?_eq_some_iff.mp h2).1
    rw [List.length_append, List.length_take] at lt
    have hi : i < ms.length := by omega
    obtain ⟨r1, r2⟩ := row i hi
    rw [r1] at h1
    rw [r2] at h2
    cases h1
    cases h2
    exact ⟨i, hi, rfl⟩
  · rintro ⟨i, hi, rfl⟩
    obtain ⟨r1, r2⟩ := row i hi
    exact ⟨i, _, _, r1, r2, rfl⟩
theorem round_ring {ms : List Str} (ge : 1 ≤ ms.length) (z : List Str) : z ∈ roundT ms ↔ ∃ k ∈ ringT ms, z = asTie k := by
  rw [mem_round ge]
  constructor
  · rintro ⟨i, hi, rfl⟩
    refine ⟨_, mem_ring.mpr ⟨nextI ms.length i, next_lt hi, rfl⟩, ?_⟩
    rw [prev_next hi, asTie_of, pairT_symm]
  · rintro ⟨k, mk, rfl⟩
    obtain ⟨i, hi, rfl⟩ := mem_ring.mp mk
    refine ⟨prevI ms.length i, prev_lt hi, ?_⟩
    rw [next_prev hi, asTie_of, pairT_symm]
theorem pairT_eq {a b c d : Str} (e : pairT a b = pairT c d) : (a = c ∧ b = d) ∨ (a = d ∧ b = c) := by
  unfold pairT at e
  split at e <;> split at e <;> (injection e with e1 e2; injection e2 with e2 _; simp [e1, e2])
theorem ring_two {ms : List Str} (nd : ms.Nodup) (ge : 2 ≤ ms.length) {k : List Str} (m : k ∈ ringT ms) : ∃ x y, asTie k = [x, y] ∧ x ∈ ms ∧ y ∈ ms ∧ ltS x y = true := by
  obtain ⟨i, hi, rfl⟩ := mem_ring.mp m
  have n : nth ms i ≠ nth ms (prevI ms.length i) := fun e => prev_ne hi ge (nth_inj nd hi (prev_lt hi) e).symm
  obtain ⟨x, y, e, h, l⟩ := asT_pair n
  refine ⟨x, y, by rw [asTie_of, e], ?_, ?_, l⟩ <;> rcases h with ⟨h1, h2⟩ | ⟨h1, h2⟩ <;> simp only [h1, h2] <;> first | exact nth_mem hi | exact nth_mem (prev_lt hi)
theorem ring_nodup {ms : List Str} (nd : ms.Nodup) (ge : 3 ≤ ms.length) : ((ringT ms).map asTie).Nodup := by
  unfold ringT
  rw [List.map_map]
  refine List.pairwise_map.mpr (List.Pairwise.imp_of_mem ?_ List.nodup_range)
  intro i j mi mj n e
  have hi := List.mem_range.mp mi
  have hj := List.mem_range.mp mj
  have e' : pairT (nth ms i) (nth ms (prevI ms.length i)) = pairT (nth ms j) (nth ms (prevI ms.length j)) := e
  rcases pairT_eq e' with ⟨a, _⟩ | ⟨a, b⟩
  · exact n (nth_inj nd hi hj a)
  · have a' := nth_inj nd hi (prev_lt hj) a
    have b' := nth_inj nd (prev_lt hi) hj b
    unfold prevI at a' b'
    split at a' <;> split at b' <;> omega
theorem ring_all {ms : List Str} (z : Str) : (∃ k ∈ ringT ms, z ∈ k) ↔ z ∈ ms := by
  constructor
  · rintro ⟨k, mk, mz⟩
    obtain ⟨i, hi, rfl⟩ := mem_ring.mp mk
    rcases (show z = nth ms i ∨ z = nth ms (prevI ms.length i) by simpa using mz) with e | e <;> rw [e]
    · exact nth_mem hi
    · exact nth_mem (prev_lt hi)
  · intro m
    obtain ⟨i, hi⟩ := List.getElem?_of_mem m
    have lt := (List.getElem?_eq_some_iff.mp hi).1
    have e := nth_get lt
    rw [hi] at e
    exact ⟨_, mem_ring.mpr ⟨i, lt, rfl⟩, by rw [← Option.some.inj e]; exact List.mem_cons_self⟩
/-- -1 is the last -/
theorem atI_prev {ms : List Str} {i : Nat} (h : i < ms.length) : atI (ms.map V.str) ((i : Int) - 1) = some (.str (nth ms (prevI ms.length i))) := by
  unfold prevI
  by_cases c : i = 0
  · subst c
    rw [if_pos rfl]
    have e : ixN (ms.map V.str).length (((0 : Nat) : Int) - 1) = some (ms.length - 1) := by
      unfold ixN
      rw [List.length_map, if_neg (by omega), if_pos (by omega)]
      congr 1
      omega
    unfold atI
    rw [e]
    show (ms.map V.str)[ms.length - 1]? = _
    rw [List.getElem?_map, nth_get (by omega)]
    rfl
  · rw [if_neg c, show ((i : Int) - 1) = ((i - 1 : Nat) : Int) by omega]
    exact atI_nat (by rw [List.getElem?_map, nth_get (by omega)]; rfl)
end Lx

/-! The law: made webs. -/
namespace Lx
open PySem PySem.Spec PyProof.Rows L2 Fw LamX
abbrev nMR : List Str := ["_law_dice_here", "_law_names_here", "_law_ties", "_law_at", "_law_due", "_law_some", "_law_a", "_law_b"]
theorem scMR : FnScope nMR ["_law_dice_here"] (defScope (top 58)) := ⟨rfl, rfl, rfl, by decide +kernel, rfl, by decide +kernel, by decide +kernel⟩
abbrev slM (p : Addr) (u1 u2 u3 u4 u5 u6 u7 : Option V) : L2.St := [some (.ref p), u1, u2, u3, u4, u5, u6, u7]
theorem len0 : sizeLine ≥ 3 := by rw [sizeLine_eq]; decide
section
variable {P : Program} {w : World} {K : PySem.W.Frag} {mg : Str → Option Value} {base : Heap} {f : Addr} {cdv : Value} {A : Around} {fr : List Env} {s : Shared} {H0 : Hp} {E : XK}
abbrev XM (P : Program) (w : World) (K : PySem.W.Frag) (mg : Str → Option Value) (base : Heap) (f : Addr) (cdv : Value) (A : Around) (fr : List Env) (s : Shared) (H0 : Hp) (E : XK) : Cx := cxOf CX0 P w K mg base nMR "_law_made_right" (defScope (top 58)) f cdv A fr s H0 E
abbrev hM (A : Around) (s : Shared) (f : Addr) (cdv : Value) : Prop := Room 13 (A.deeper (envOfC "_law_made_right" (defScope (top 58)) s.heap.objs.size f cdv))
/-- drawn names -/
structure Nm (ms : List Str) : Prop where
  nd : ms.Nodup
  pool : ∀ z ∈ ms, z ∈ poolN
  ge : 3 ≤ ms.length
  few : ms.length ≤ 8
def m0 : TS := fun D σ H => ∃ (p : Addr) (u1 u2 u3 u4 u5 u6 u7 : Option V), σ = slM p u1 u2 u3 u4 u5 u6 u7 ∧ DiceAt H p ∧ ∀ H' g ms, But p H H' → DiceAt H' p → Nm ms → H' g = some (.lst (ms.map V.str)) → D.nx (slM p (some (.ref g)) u2 u3 u4 u5 u6 u7) H'
theorem mr0 (T : TX K mg) (hG : A.guards = some []) (hr : hM A s f cdv) : PS (XM P w K mg base f cdv A fr s H0 E) (stmtAt (defBody (top 58)) 0) m0 := by
  have GM : FnG P w K mg base CX0 2 T.f__law_mixed T.d__law_mixed ["_law_dice_here", "_law_items"] (spMixed K) := T.q_mixed
  have GR : FnG P w K mg base CX0 1 T.f__law_roll T.d__law_roll ["_law_dice_here", "_law_total"] spRoll := T.q_roll
  have GN : FnG P w K mg base CX0 1 T.f__law_names T.d__law_names [] spNamesL := T.q_names
  refine ps_weak (ps_set (i := 1) scMR.nd rfl (Or.inr rfl) (pe_slice (sl_listK (K := K) rfl) (pe_callG (E := fun _ _ _ _ => False) hG GM (hr.mono (by decide)) (by rfl) T.m__law_mixed T.F__law_mixed.kp T.b__law_mixed .nil (fun _ => passAt0)
      (pa_cons (pv 0) (pa_cons (pe_callG0 (E := fun _ _ _ _ => False) hG GN (hr.mono (by decide)) (by rfl) T.m__law_names T.F__law_names.kp T.b__law_names .nil (fun _ => passAt0)) pa_nil))) po_none
      (po_some (pe_op op_add pe_int (pe_callG (E := fun _ _ _ _ => False) hG GR (hr.mono (by decide)) (by rfl) T.m__law_roll T.F__law_roll.kp T.b__law_roll .nil (fun _ => passAt0) (pa_cons (pv 0) (pa_cons pe_int pa_nil))))))) ?_
  rintro D σ H ⟨p, u1, u2, u3, u4, u5, u6, u7, rfl, hd, q⟩
  refine ⟨_, rfl, rfl, fun l nl => ?_⟩
  have s1 := same_upd (o := .lst (poolN.map V.str)) nl
  have hl : (upd H l (.lst (poolN.map V.str))) l = some (.lst (poolN.map V.str)) := upd_same
  generalize upd H l (.lst (poolN.map V.str)) = H1 at s1 hl ⊢
  refine ⟨p, l, _, rfl, hd.same s1, SqL.of hl, by rw [List.length_map]; decide, fun ys g H2 py b2 d2 ng hg => ?_⟩
  obtain ⟨mx, pm, em⟩ := perm_lift V.str py poolN rfl
  subst em
  have ngp := dice_ne (hd.same s1) ng
  have B2 := (But.same s1).trans b2
  refine ⟨_, rfl, p, 6, rfl, d2, by decide, by decide, fun r H3 r0 r1 b3 d3 => ⟨_, _, rfl, rfl, 3 + r, rfl, ?_⟩⟩
  have hg3 := b3 _ _ ngp hg
  have B3 := B2.trans b3
  have ej : 3 + r = (((r.toNat + 3 : Nat)) : Int) := by omega
  have jb : 3 ≤ r.toNat + 3 ∧ r.toNat + 3 ≤ 8 := by omega
  generalize r.toNat + 3 = j at ej jb
  refine ⟨g, _, rfl, SqL.of hg3, fun c nc => ?_⟩
  have s4 := same_upd (o := .lst (cutV (mx.map V.str) none (some (3 + r)))) nc
  have hc : (upd H3 c (.lst (cutV (mx.map V.str) none (some (3 + r))))) c = some (.lst ((mx.take j).map V.str)) := by rw [upd_same, ej, cutTo, List.map_take]
  generalize upd H3 c (.lst (cutV (mx.map V.str) none (some (3 + r)))) = H4 at s4 hc ⊢
  have lm : mx.length = 14 := by rw [pm.length_eq]; rfl
  have ltk : (mx.take j).length = j := by rw [List.length_take]; omega
  have ndP : mx.Nodup := pm.nodup_iff.mpr (by decide)
  exact q H4 c (mx.take j) (B3.trans (But.same s4)) (d3.same s4) ⟨ndP.sublist (List.take_sublist _ _), fun z m => pm.mem_iff.mp (List.mem_of_mem_take m), by omega, by omega⟩ hc
def m1 : TS := fun D σ H => ∃ (p g : Addr) (ms : List Str) (u2 u3 u4 u5 u6 u7 : Option V), σ = slM p (some (.ref g)) u2 u3 u4 u5 u6 u7 ∧ Nm ms ∧ H g = some (.lst (ms.map V.str)) ∧ ∀ H' L ks, Same H H' → ListT H' L ks → ks.map (·.2) = ringT ms → D.nx (slM p (some (.ref g)) (some (.ref L)) u3 u4 u5 u6 u7) H'
theorem mr1 (T : TX K mg) (hr : hM A s f cdv) : PS (XM P w K mg base f cdv A fr s H0 E) (stmtAt (defBody (top 58)) 1) m1 := by
  refine ps_weak (ps_setLc (i := 2) (own := [("_law_at", 3)]) (g := gName 3) (by rfl) scMR.nd rfl rfl (sw_true rfl rfl rfl (by decide +kernel)) (pi_range1 (by rfl) T.n_range (pa_cons (pe_callB call_len_seq (by rfl) T.n_len PySem.boot_len (pa_cons (pv 1) pa_nil)) pa_nil))
    (blkOk_by (N := nMR) (sc := defScope (top 58)) (own := [("_law_at", 3)]) (by decide +kernel)) (fun _ _ _ _ _ => pg_name (i := 3) scMR.nd rfl (Or.inl rfl)) (fun _ _ _ _ _ => pts_nil)
    (fun _ _ _ _ _ => pe_tup (pa_cons (pe_ix (ix_listK (K := K) rfl) (pv 1) (pv 3) (fun _ _ => rfl)) (pa_cons (pe_ix (ix_listK (K := K) rfl) (pv 1) (pe_op op_sub (pv 3) pe_int) (fun _ _ => rfl)) pa_nil)))) ?_
  rintro D σ H ⟨p, g, ms, u2, u3, u4, u5, u6, u7, rfl, nm, hg, q⟩
  have few := nm.few
  have sm : ∀ z ∈ ms, z.length ≤ 1000 := fun z m => pool_short (nm.pool z m)
  have ln : ((ms.map V.str).length : Int) = (ms.length : Int) := by rw [List.length_map]
  refine ⟨_, rfl, g, _, rfl, .inl (SqL.of hg), _, rfl, ?_⟩
  rw [ln]
  refine ⟨by omega, by have : (2 : Int) ^ 62 > 30 := by decide
                       omega, fun L nL => ?_⟩
  refine lc_walk repT walk_range (fun i => some [nth ms i, nth ms (prevI ms.length i)]) nL (fun _ _ => trivial) (by omega) (fun i v Hc Hc' C' N lt sc hy yes no => ?_) (fun H3 ys s3 h3 rs => ?_)
  · obtain ⟨rfl, rfl⟩ := hy
    have lt' : i < ms.length := by omega
    have hgc := sc _ _ hg
    refine ⟨rfl, _, rfl, _, rfl, g, _, _, _, rfl, rfl, SqL.of hgc, (by rw [Int.zero_add]; exact atI_nat (by rw [List.getElem?_map, nth_get lt']; rfl)), _, rfl, _, rfl, _, _, rfl, rfl, g, _, _, _, rfl, rfl, SqL.of hgc, (by rw [Int.zero_add]; exact atI_prev lt'), by show 2 ≤ sizeLine; decide, fun b nb => ?_⟩
    refine yes _ _ [nth ms i, nth ms (prevI ms.length i)] rfl (upd_keeps nb) ⟨b, rfl, .inl upd_same, fun z m => ?_, by simp, by simp⟩
    rcases (show z = nth ms i ∨ z = nth ms (prevI ms.length i) by simpa using m) with e | e <;> rw [e]
    · exact sm _ (nth_mem lt')
    · exact sm _ (nth_mem (prev_lt lt'))
  · obtain ⟨zs, ev, em, each, _⟩ := reps_tups_of rs
    refine q H3 L zs s3 ⟨by rw [h3, ev], each⟩ ?_
    rw [em, show (((ms.length : Nat) : Int).toNat) = ms.length by omega]
    unfold ringT
    rw [← List.filterMap_eq_map]
    rfl
def m2 : TS := fun D σ H => ∃ (p g L : Addr) (ms : List Str) (ks : List (Addr × List Str)) (u3 u4 u5 u6 u7 : Option V), σ = slM p (some (.ref g)) (some (.ref L)) u3 u4 u5 u6 u7 ∧ Nm ms ∧ H g = some (.lst (ms.map V.str)) ∧ ListT H L ks ∧ ks.map (·.2) = ringT ms ∧ ∀ H', Same H H' → D.nx σ H'
theorem mr2 (T : TX K mg) (hG : A.guards = some []) (hr : hM A s f cdv) : PS (XM P w K mg base f cdv A fr s H0 E) (stmtAt (defBody (top 58)) 2) m2 := by
  have hu := hr.units
  have GTo : FnG P w K mg base CX0 3 T.f__law_told_web T.d__law_told_web ["_law_web"] (spToldW T.C_Web) := T.q_toldW
  have GRg : FnV false P w K mg base (L2.CX P w) 10 T.f_ring_web T.d_ring_web ["ring"] (spRingW T.C_Web T.C_InvalidWeb) := T.q_ring
  have GL : FnG P w K mg base CX0 2 T.f__law_plain T.d__law_plain ["_law_places", "_law_ties"] (spPlain K) := T.q_plain
  refine ps_weak (ps_if (pt_cmpR (op_neMk (K := K) rfl (by exact hu)) (pe_callG (E := fun _ _ _ _ => False) hG GTo (hr.mono (by decide)) (by rfl) T.m__law_told_web T.F__law_told_web.kp T.b__law_told_web .nil (fun _ => passAt0) (pa_cons
      (pe_callV (gg := false) (E := fun _ _ _ _ => False) (fun z => nomatch z) GRg (hr.mono (by decide)) (by rfl) T.m_ring_web T.F_ring_web.kp T.b_ring_web .nil (fun _ => passNo) (pa_cons (pe_callTy cr_tupF (by rfl) T.n_tuple (by decide +kernel) (pa_cons (pv 1) pa_nil)) pa_nil)) pa_nil))
    (pe_callG (E := fun _ _ _ _ => False) hG GL (hr.mono (by decide)) (by rfl) T.m__law_plain T.F__law_plain.kp T.b__law_plain .nil (fun _ => passAt0) (pa_cons (pe_lst pa_nil) (pa_cons (pv 2) pa_nil))) (nomark _)) (pss_one (ps_ret pe_bl)) pss_nil) ?_
  rintro D σ H ⟨p, g, L, ms, ks, u3, u4, u5, u6, u7, rfl, nm, hg, hL, ek, q⟩
  have few := nm.few
  have ge := nm.ge
  have sm : ∀ z ∈ ms, z.length ≤ 1000 := fun z m => pool_short (nm.pool z m)
  have two : ∀ k ∈ roundT ms, ∃ x y, k = [x, y] ∧ x ∈ ms ∧ y ∈ ms ∧ ltS x y = true := fun k m => by
    obtain ⟨j, mj, rfl⟩ := (round_ring (by omega) k).mp m
    exact ring_two nm.nd (by omega) mj
  refine ⟨_, rfl, g, _, rfl, .inl ⟨SqL.of hg, fun tt o ntt od => ?_⟩⟩
  have s1 := same_upd (o := .frz o (.tup (ms.map V.str))) ntt
  have ht : Rd (upd H tt (.frz o (.tup (ms.map V.str)))) tt (.tup (ms.map V.str)) := (TupK.new od).rd
  generalize upd H tt (.frz o (.tup (ms.map V.str))) = H1 at s1 ht ⊢
  refine ⟨tt, ms, rfl, ht, sm, by omega, diff_of (fun z m => pool_ok z (nm.pool z m)) nm.nd (by omega), ?_⟩
  refine gath_ok2 (fun z m => pool_ok z (nm.pool z m)) (fun z => by rw [z] at ge; exact absurd ge (by simp)) ⟨ms, by omega, fun z m => m⟩ two fun H2 x t a ns' ks' an mn as' mt s2 nx W => ?_
  refine ⟨x, t, a, ns', ks', rfl, W, fun H3 d3 s3 n3 pl3 => ?_⟩
  refine ⟨by show 0 ≤ sizeLine; decide, fun E0 nE => ?_⟩
  have s4 := same_upd (o := .lst []) nE
  have hE : (upd H3 E0 (.lst [])) E0 = some (.lst (([] : List Str).map V.str)) := upd_same
  generalize upd H3 E0 (.lst []) = H4 at s4 hE ⊢
  have S4 := same_trans s1 (same_trans s2 (same_trans s3 s4))
  have lk : ks.length = ms.length := by
    have z := congrArg List.length ek
    rw [List.length_map, ring_len] at z
    exact z
  have kin : ∀ k ∈ ks, k.2 ∈ ringT ms := fun k m => by
    rw [← ek]
    exact List.mem_map_of_mem m
  refine ⟨_, rfl, ?_⟩
  dsimp only [tNil, List.cons_append, List.nil_append]
  refine ⟨E0, L, [], ms, ks, rfl, SqL.of hE, SqL.of (S4 _ _ hL.at_), hL.each.same S4, fun k m => ?_, by omega, fun z m => absurd m (by simp), fun k m z mz => ?_, sm, by simp, by omega, fun H5 d5 ns5 ks5 s5 n5 as5 mn5 at5 mt5 ne5 pl5 => ?_⟩
  · obtain ⟨i, hi, e⟩ := mem_ring.mp (kin k m)
    exact ⟨_, _, e⟩
  · exact (ring_all z).mp ⟨k.2, kin k m, mz⟩
  · have e1 : ns5 = ns' := as5.same an fun z => by
      rw [mn5 z, mn z, List.nil_append, List.mem_flatMap, ← ring_all z]
      constructor
      · rintro ⟨k, mk, mz⟩
        exact ⟨k.2, kin k mk, mz⟩
      · rintro ⟨k, mk, mz⟩
        rw [← ek] at mk
        obtain ⟨j, mj, rfl⟩ := List.mem_map.mp mk
        exact ⟨j, mj, mz⟩
    have e2 : ks5.map (·.2) = ks'.map (·.2) := at5.same as' fun z => by
      rw [mt5 z, mt z, round_ring (by omega), List.mem_map]
      constructor
      · rintro ⟨k, mk, rfl⟩
        exact ⟨k.2, kin k mk, rfl⟩
      · rintro ⟨k, mk, rfl⟩
        rw [← ek] at mk
        obtain ⟨j, mj, rfl⟩ := List.mem_map.mp mk
        exact ⟨j, mj, rfl⟩
    have td1 : ToldR H5 (.ref d3) (.inr (ns', ks'.map (·.2))) := .web (plain_same (same_trans s4 s5) pl3)
    have td2 : ToldR H5 (.ref d5) (.inr (ns', ks'.map (·.2))) := by
      rw [← e1, ← e2]
      exact .web pl5
    exact ⟨told_same td1 td2, false, rfl, q H5 (same_trans S4 s5)⟩
end
end Lx

/-! The law: made webs, whole. -/
namespace Lx
open PySem PySem.Spec PyProof.Rows L2 Fw LamX
theorem fm_asTie (l : List (List Str)) : l.filterMap (fun k => some (asTie k)) = l.map asTie := by
  rw [← List.filterMap_eq_map]
  rfl
section
variable {P : Program} {w : World} {K : PySem.W.Frag} {mg : Str → Option Value} {base : Heap}
section
variable {f : Addr} {cdv : Value} {A : Around} {fr : List Env} {s : Shared} {H0 : Hp} {E : XK}
def m3 : TS := fun D σ H => ∃ (p g L : Addr) (ms : List Str) (u3 u4 u5 u6 u7 : Option V), σ = slM p (some (.ref g)) (some (.ref L)) u3 u4 u5 u6 u7 ∧ Nm ms ∧ H g = some (.lst (ms.map V.str)) ∧
  ∀ H' y srt, Same H H' → AscN srt → (∀ z, z ∈ srt ↔ z ∈ ms) → ToldR H' y (.inr (srt, pairsT srt)) → D.nx (slM p (some (.ref g)) (some (.ref L)) u3 (some y) u5 u6 u7) H'
theorem mr3 (T : TX K mg) (hG : A.guards = some []) (hr : hM A s f cdv) : PS (XM P w K mg base f cdv A fr s H0 E) (stmtAt (defBody (top 58)) 3) m3 := by
  have GL : FnG P w K mg base CX0 2 T.f__law_plain T.d__law_plain ["_law_places", "_law_ties"] (spPlain K) := T.q_plain
  have GP : FnG P w K mg base CX0 2 T.f__law_pairs T.d__law_pairs ["_law_places"] (spLPairs K) := T.q_lpairs
  refine ps_weak (ps_set (i := 4) scMR.nd rfl (Or.inl rfl) (pe_callG (E := fun _ _ _ _ => False) hG GL (hr.mono (by decide)) (by rfl) T.m__law_plain T.F__law_plain.kp T.b__law_plain .nil (fun _ => passAt0) (pa_cons (pv 1) (pa_cons
    (pe_callG (E := fun _ _ _ _ => False) hG GP (hr.mono (by decide)) (by rfl) T.m__law_pairs T.F__law_pairs.kp T.b__law_pairs .nil (fun _ => passAt0) (pa_cons (pe_callB cr_sortedS (by rfl) T.n_sorted (by decide +kernel) (pa_cons (pv 1) pa_nil)) pa_nil)) pa_nil)))) ?_
  rintro D σ H ⟨p, g, L, ms, u3, u4, u5, u6, u7, rfl, nm, hg, q⟩
  have few := nm.few
  have sm : ∀ z ∈ ms, z.length ≤ 1000 := fun z m => pool_short (nm.pool z m)
  refine ⟨_, rfl, _, rfl, g, ms, rfl, SqL.of hg, by omega, fun ns e pn so ne => ?_⟩
  have s1 := same_upd (o := .lst (ns.map V.str)) ne
  have he : (upd H e (.lst (ns.map V.str))) e = some (.lst (ns.map V.str)) := upd_same
  generalize upd H e (.lst (ns.map V.str)) = H1 at s1 he ⊢
  have asc : AscN ns := ascN_of so (pn.nodup_iff.mpr nm.nd)
  have mn0 : ∀ z, z ∈ ns ↔ z ∈ ms := fun z => pn.mem_iff
  have ln : ns.length = ms.length := pn.length_eq
  refine ⟨e, ns, rfl, SqL.of he, fun z m => sm z ((mn0 z).mp m), asc, by omega, fun H2 L2 zs s2 nL2 hL2 mp each nee => ?_⟩
  have fw := pairs_few (ns := ns) (by omega)
  have lz : zs.length ≤ 36 := by
    have z := congrArg List.length mp
    rw [List.length_map] at z
    omega
  have two : ∀ k ∈ zs, ∃ x y, k.2 = [x, y] ∧ x ∈ ns ∧ y ∈ ns ∧ ltS x y = true := fun k m => (mem_pairs asc k.2).mp (by rw [← mp]; exact List.mem_map_of_mem m)
  refine ⟨g, L2, ms, ms, zs, rfl, SqL.of (s2 _ _ (s1 _ _ hg)), SqL.of hL2, each, fun k m => ?_, by omega, fun z m => m, fun k m z mz => ?_, sm, by omega, by omega, fun H' d ns' ks' s' nd' as mn at' mt ne' pl => ?_⟩
  · obtain ⟨x, y, e, _⟩ := two k m
    exact ⟨x, y, e⟩
  · obtain ⟨x, y, e, mx, my, _⟩ := two k m
    rw [e] at mz
    rcases (show z = x ∨ z = y by simpa using mz) with q1 | q1 <;> rw [q1]
    · exact (mn0 x).mp mx
    · exact (mn0 y).mp my
  · have e1 : ns' = ns := as.same asc fun z => by
      rw [mn z, List.mem_append, List.mem_flatMap, mn0 z]
      constructor
      · rintro (m | ⟨k, mk, mz⟩)
        · exact m
        · obtain ⟨x, y, e, mx, my, _⟩ := two k mk
          rw [e] at mz
          rcases (show z = x ∨ z = y by simpa using mz) with q1 | q1 <;> rw [q1]
          · exact (mn0 x).mp mx
          · exact (mn0 y).mp my
      · exact .inl
    have e2 : ks'.map (·.2) = pairsT ns := at'.same (pairs_asc asc) fun z => by
      rw [mt z, List.mem_map, ← mp, List.mem_map]
      constructor
      · rintro ⟨k, mk, rfl⟩
        obtain ⟨x, y, e, _, _, l⟩ := two k mk
        refine ⟨k, mk, ?_⟩
        rw [e, asTie_lt l]
      · rintro ⟨k, mk, rfl⟩
        obtain ⟨x, y, e, _, _, l⟩ := two k mk
        refine ⟨k, mk, ?_⟩
        rw [e, asTie_lt l]
    refine q H' _ ns (same_trans s1 (same_trans s2 s')) asc mn0 ?_
    rw [← e2, ← e1]
    exact .web pl
def m4 : TS := fun D σ H => ∃ (p g : Addr) (ms srt : List Str) (y : V) (u2 u3 u5 u6 u7 : Option V), σ = slM p (some (.ref g)) u2 u3 (some y) u5 u6 u7 ∧ Nm ms ∧ H g = some (.lst (ms.map V.str)) ∧ AscN srt ∧ (∀ z, z ∈ srt ↔ z ∈ ms) ∧ ToldR H y (.inr (srt, pairsT srt)) ∧ ∀ H', Same H H' → D.nx σ H'
theorem mr4 (T : TX K mg) (hG : A.guards = some []) (hr : hM A s f cdv) : PS (XM P w K mg base f cdv A fr s H0 E) (stmtAt (defBody (top 58)) 4) m4 := by
  have hu := hr.units
  have GTo : FnG P w K mg base CX0 3 T.f__law_told_web T.d__law_told_web ["_law_web"] (spToldW T.C_Web) := T.q_toldW
  have GF : FnV false P w K mg base (L2.CX P w) 9 T.f_full_web T.d_full_web ["places"] (spFull T.C_Web) := T.q_full
  refine ps_weak (ps_if (pt_cmpR (op_neMk (K := K) rfl (by exact hu)) (pe_callG (E := fun _ _ _ _ => False) hG GTo (hr.mono (by decide)) (by rfl) T.m__law_told_web T.F__law_told_web.kp T.b__law_told_web .nil (fun _ => passAt0) (pa_cons
      (pe_callV (gg := false) (E := fun _ _ _ _ => False) (fun z => nomatch z) GF (hr.mono (by decide)) (by rfl) T.m_full_web T.F_full_web.kp T.b_full_web .nil (fun _ => passNo) (pa_cons (pe_callTy cr_tupF (by rfl) T.n_tuple (by decide +kernel) (pa_cons (pe_callB cr_sortedS (by rfl) T.n_sorted (by decide +kernel) (pa_cons (pv 1) pa_nil)) pa_nil)) pa_nil)) pa_nil))
    (pv 4) (nomark _)) (pss_one (ps_ret pe_bl)) pss_nil) ?_
  rintro D σ H ⟨p, g, ms, srt, y, u2, u3, u5, u6, u7, rfl, nm, hg, asc, mn0, told, q⟩
  have few := nm.few
  have ge := nm.ge
  refine ⟨_, rfl, g, ms, rfl, SqL.of hg, by omega, fun ns e pn so ne => ?_⟩
  have s1 := same_upd (o := .lst (ns.map V.str)) ne
  have he : (upd H e (.lst (ns.map V.str))) e = some (.lst (ns.map V.str)) := upd_same
  generalize upd H e (.lst (ns.map V.str)) = H1 at s1 he ⊢
  have asc2 : AscN ns := ascN_of so (pn.nodup_iff.mpr nm.nd)
  obtain rfl : ns = srt := asc2.same asc fun z => pn.mem_iff.trans (mn0 z).symm
  have ln : ns.length = ms.length := pn.length_eq
  refine ⟨e, _, rfl, .inl ⟨SqL.of he, fun tt o ntt od => ?_⟩⟩
  have s2 := same_upd (o := .frz o (.tup (ns.map V.str))) ntt
  have ht : TupK (upd H1 tt (.frz o (.tup (ns.map V.str)))) tt (ns.map V.str) := TupK.new od
  generalize upd H1 tt (.frz o (.tup (ns.map V.str))) = H2 at s2 ht ⊢
  refine ⟨tt, ns, rfl, ht, fun z m => pool_ok z (nm.pool z ((mn0 z).mp m)), asc, by omega, by omega, fun H3 x a ks ek s3 nx W => ?_⟩
  refine ⟨x, tt, a, ns, ks, rfl, W, fun H4 d4 s4 n4 pl4 => ?_⟩
  have S4 := same_trans s1 (same_trans s2 (same_trans s3 s4))
  have td1 : ToldR H4 (.ref d4) (.inr (ns, pairsT ns)) := by
    rw [← ek]
    exact .web pl4
  exact ⟨y, rfl, told_same td1 (told.same S4), false, rfl, q H4 S4⟩
def m5 : TS := fun D σ H => ∃ (p L : Addr) (ms : List Str) (ks : List (Addr × List Str)) (u1 u3 u4 u5 u6 u7 : Option V), σ = slM p u1 (some (.ref L)) u3 u4 u5 u6 u7 ∧ DiceAt H p ∧ Nm ms ∧ ListT H L ks ∧ ks.map (·.2) = ringT ms ∧
  ∀ H' L' zs, But p H H' → DiceAt H' p → ListT H' L' zs → (zs.map (·.2)).Perm ((ringT ms).map asTie) → D.nx (slM p u1 (some (.ref L)) u3 u4 (some (.ref L')) u6 u7) H'
theorem mr5 (T : TX K mg) (hG : A.guards = some []) (hr : hM A s f cdv) : PS (XM P w K mg base f cdv A fr s H0 E) (stmtAt (defBody (top 58)) 5) m5 := by
  have GM : FnG P w K mg base CX0 2 T.f__law_mixed T.d__law_mixed ["_law_dice_here", "_law_items"] (spMixed K) := T.q_mixed
  have GT : FnG P w K mg base CX0 1 T.f__law_tie T.d__law_tie ["_law_a", "_law_b"] spPair := T.q_ltie
  refine ps_weak (ps_setLc (i := 5) (own := [("_law_a", 6), ("_law_b", 7)]) (g := gTup K 2 (gCons (gName 6) (gCons (gName 7) gNil))) (by rfl) scMR.nd rfl rfl (sw_true rfl rfl rfl (by decide +kernel))
    (pi_listK (K := K) rfl (pe_callG (E := fun _ _ _ _ => False) hG GM (hr.mono (by decide)) (by rfl) T.m__law_mixed T.F__law_mixed.kp T.b__law_mixed .nil (fun _ => passAt0) (pa_cons (pv 0) (pa_cons (pv 2) pa_nil))))
    (blkOk_by (N := nMR) (sc := defScope (top 58)) (own := [("_law_a", 6), ("_law_b", 7)]) (by decide +kernel)) (fun _ _ _ _ _ => pg_tup rfl (pgs_cons (pg_name (i := 6) scMR.nd rfl (Or.inl rfl)) (pgs_cons (pg_name (i := 7) scMR.nd rfl (Or.inl rfl)) pgs_nil))) (fun _ _ _ _ _ => pts_nil)
    (fun _ _ _ _ _ => pe_callG (E := fun _ _ _ _ => False) hG GT (hr.mono (by decide)) (by rfl) T.m__law_tie T.F__law_tie.kp T.b__law_tie .nil (fun _ => passAt0) (pa_cons (pv 6) (pa_cons (pv 7) pa_nil)))) ?_
  rintro D σ H ⟨p, L, ms, ks, u1, u3, u4, u5, u6, u7, rfl, hd, nm, hL, ek, q⟩
  have few := nm.few
  have ge := nm.ge
  have lk : ks.length = ms.length := by
    have z := congrArg List.length ek
    rw [List.length_map, ring_len] at z
    exact z
  refine ⟨_, rfl, _, rfl, p, L, _, rfl, hd, SqL.of hL.at_, by rw [List.length_map]; omega, fun ys g H2 py b2 d2 ng hg => ?_⟩
  obtain ⟨mx, pm, em⟩ := perm_lift (fun k : Addr × List Str => V.ref k.1) py ks rfl
  subst em
  have kin : ∀ k ∈ mx, k.2 ∈ ringT ms := fun k m => by
    rw [← ek]
    exact List.mem_map_of_mem (pm.mem_iff.mp m)
  have each2 : Each H2 mx := fun k m => (each_stays hd (.of b2) hL.each) k (pm.mem_iff.mp m)
  have ne2 : ∀ k ∈ mx, k.2 ≠ [] := fun k m e => by
    obtain ⟨i, hi, e'⟩ := mem_ring.mp (kin k m)
    rw [e] at e'
    cases e'
  have ngp := dice_ne hd ng
  refine ⟨g, rfl, ⟨_, SqL.of hg⟩, fun L' nL' => ?_⟩
  refine lc_listR (K := K) repT repT (as := mx.map (·.2)) (SqL.of hg) (reps_tups each2 ne2) (fun k => some (asTie k)) nL' (by rw [List.length_map, pm.length_eq]; omega) ?_ ?_
  · rintro i y k Hc C' N ey sc ⟨b, rfl, hb, hs, hl, hn⟩ yes no
    have mk : k ∈ ringT ms := by
      obtain ⟨j, mj, rfl⟩ := List.mem_map.mp (List.mem_of_getElem? ey)
      exact kin j mj
    obtain ⟨i, hi, e⟩ := mem_ring.mp mk
    subst e
    refine ⟨b, _, rfl, .inl hb, rfl, _, _, rfl, _, _, rfl, rfl, ?_⟩
    refine ⟨rfl, _, rfl, _, rfl, _, _, rfl, fun c nc => ?_⟩
    obtain ⟨x, y, exy, mx', my', l⟩ := ring_two nm.nd (by omega) mk
    refine yes _ _ (asTie [nth ms i, nth ms (prevI ms.length i)]) rfl (upd_keeps nc) ⟨c, rfl, .inl ?_, fun z m => ?_, by rw [exy]; simp, by rw [exy]; simp⟩
    · exact upd_same
    · rw [exy] at m
      rcases (show z = x ∨ z = y by simpa using m) with e | e <;> rw [e]
      · exact pool_short (nm.pool _ mx')
      · exact pool_short (nm.pool _ my')
  · intro H3 ys s3 h3 rs
    obtain ⟨zs, ev, em, each3, _⟩ := reps_tups_of rs
    refine q H3 L' zs (b2.trans (.same s3)) (d2.same s3) ⟨by rw [h3, ev], each3⟩ ?_
    rw [em, fm_asTie, ← ek]
    exact (pm.map (·.2)).map asTie
def m6 : TS := fun D σ H => ∃ (p L : Addr) (ms : List Str) (zs : List (Addr × List Str)) (u1 u2 u3 u4 u6 u7 : Option V), σ = slM p u1 u2 u3 u4 (some (.ref L)) u6 u7 ∧ Nm ms ∧ ListT H L zs ∧ (zs.map (·.2)).Perm ((ringT ms).map asTie) ∧ ∀ H', Same H H' → D.rt (.bl true) H'
theorem mr6 (T : TX K mg) (hG : A.guards = some []) (hr : hM A s f cdv) : PS (XM P w K mg base f cdv A fr s H0 E) (stmtAt (defBody (top 58)) 6) m6 := by
  have hu := hr.units
  have GTo : FnG P w K mg base CX0 3 T.f__law_told_web T.d__law_told_web ["_law_web"] (spToldW T.C_Web) := T.q_toldW
  have GL : FnG P w K mg base CX0 2 T.f__law_plain T.d__law_plain ["_law_places", "_law_ties"] (spPlain K) := T.q_plain
  refine ps_weak (ps_ret (pe_cmpR (op_eqMk (K := K) rfl (by exact hu)) (pe_callG (E := fun _ _ _ _ => False) hG GTo (hr.mono (by decide)) (by rfl) T.m__law_told_web T.F__law_told_web.kp T.b__law_told_web .nil (fun _ => passAt0) (pa_cons
      (ClX.pe_cmeth (E := fun _ _ _ => False) (pe_glob (v := .ref T.C_Web) (by rfl) T.g_Web rfl) T.CR_Web T.CM_Web_of_ties T.q_of (hr.mono (by decide)) passNoM
        (pa_cons (pe_ix (ix_listK (K := K) rfl) (pv 5) pe_int (fun _ _ => rfl)) (pa_cons (pe_ix (ix_listK (K := K) rfl) (pv 5) pe_int (fun _ _ => rfl)) (pa_cons (pe_ix (ix_listK (K := K) rfl) (pv 5) pe_int (fun _ _ => rfl)) pa_nil)))) pa_nil))
    (pe_callG (E := fun _ _ _ _ => False) hG GL (hr.mono (by decide)) (by rfl) T.m__law_plain T.F__law_plain.kp T.b__law_plain .nil (fun _ => passAt0) (pa_cons (pe_lst pa_nil) (pa_cons (pe_slice (sl_listK (K := K) rfl) (pv 5) po_none (po_some pe_int)) pa_nil))) (nomark _))) ?_
  rintro D σ H ⟨p, L, ms, zs, u1, u2, u3, u4, u6, u7, rfl, nm, hL, pz, q⟩
  have few := nm.few
  have ge := nm.ge
  have lz : zs.length = ms.length := by
    have z := pz.length_eq
    rw [List.length_map, List.length_map, ring_len] at z
    exact z
  have two : ∀ k ∈ zs, ∃ x y, k.2 = [x, y] ∧ x ∈ ms ∧ y ∈ ms ∧ ltS x y = true := fun k m => by
    obtain ⟨j, mj, e⟩ := List.mem_map.mp (pz.mem_iff.mp (List.mem_map_of_mem m))
    obtain ⟨x, y, e', mx, my, l⟩ := ring_two nm.nd (by omega) mj
    exact ⟨x, y, by rw [← e']; exact e.symm, mx, my, l⟩
  have ndz : (zs.map (·.2)).Nodup := pz.nodup_iff.mpr (ring_nodup nm.nd ge)
  obtain ⟨z0, z1, z2, rest, rfl⟩ : ∃ z0 z1 z2 rest, zs = z0 :: z1 :: z2 :: rest := by
    match zs, lz with
    | [], h => simp at h; omega
    | [_], h => simp at h; omega
    | [_, _], h => simp at h; omega
    | z0 :: z1 :: z2 :: rest, _ => exact ⟨z0, z1, z2, rest, rfl⟩
  have sub : ∀ k ∈ [z0, z1, z2], k ∈ z0 :: z1 :: z2 :: rest := fun k m => by
    simp only [List.mem_cons, List.not_mem_nil, or_false] at m ⊢
    rcases m with h | h | h <;> simp [h]
  have nd3 : ([z0, z1, z2].map (·.2)).Nodup := by
    refine ndz.sublist ?_
    show [z0.2, z1.2, z2.2].Sublist (z0.2 :: z1.2 :: z2.2 :: rest.map (·.2))
    exact ((List.nil_sublist _).cons₂ z2.2).cons₂ z1.2 |>.cons₂ z0.2
  have i0 : atI ((z0 :: z1 :: z2 :: rest).map fun k => V.ref k.1) ((0 : Nat) : Int) = some (V.ref z0.1) := atI_nat rfl
  have i1 : atI ((z0 :: z1 :: z2 :: rest).map fun k => V.ref k.1) ((1 : Nat) : Int) = some (V.ref z1.1) := atI_nat rfl
  have i2 : atI ((z0 :: z1 :: z2 :: rest).map fun k => V.ref k.1) ((2 : Nat) : Int) = some (V.ref z2.1) := atI_nat rfl
  refine ⟨rfl, _, rfl, L, _, _, _, rfl, rfl, SqL.of hL.at_, i0, _, rfl, L, _, _, _, rfl, rfl, SqL.of hL.at_, i1, _, rfl, L, _, _, _, rfl, rfl, SqL.of hL.at_, i2, ?_⟩
  refine ⟨[V.ref T.C_Web], [V.ref z0.1, V.ref z1.1, V.ref z2.1], rfl, rfl, len0, fun tp ntp => ?_⟩
  have s1 := same_upd (o := .tup [V.ref z0.1, V.ref z1.1, V.ref z2.1]) ntp
  have htp : (upd H tp (.tup [V.ref z0.1, V.ref z1.1, V.ref z2.1])) tp = some (.tup ([z0, z1, z2].map fun k => V.ref k.1)) := upd_same
  generalize upd H tp (.tup [V.ref z0.1, V.ref z1.1, V.ref z2.1]) = H1 at s1 htp ⊢
  have hL1 := hL.same s1
  refine ⟨tp, [z0, z1, z2], rfl, htp, fun k m => hL1.each k (sub k m), fun k m => ?_, nd3, by simp, by simp, fun H2 x t a ns' ks' an mn as' mt s2 nx W => ?_⟩
  · obtain ⟨u, v, e, mu, mv, l⟩ := two k (sub k m)
    rw [e]
    show (nameS u && nameS v && ltS u v) = true
    rw [pool_ok u (nm.pool u mu), pool_ok v (nm.pool v mv), l]
    rfl
  refine ⟨x, t, a, ns', ks', rfl, W, fun H3 d3 s3 n3 pl3 => ?_⟩
  refine ⟨by show 0 ≤ sizeLine; decide, fun E0 nE => ?_⟩
  have s4 := same_upd (o := .lst []) nE
  have hE : (upd H3 E0 (.lst [])) E0 = some (.lst (([] : List Str).map V.str)) := upd_same
  generalize upd H3 E0 (.lst []) = H4 at s4 hE ⊢
  have S4 := same_trans s1 (same_trans s2 (same_trans s3 s4))
  have hL4 := hL.same S4
  refine ⟨_, rfl, _, rfl, L, _, rfl, SqL.of hL4.at_, fun c nc => ?_⟩
  have s5 := same_upd (o := .lst (cutV ((z0 :: z1 :: z2 :: rest).map fun k => V.ref k.1) none (some 3))) nc
  have hc : (upd H4 c (.lst (cutV ((z0 :: z1 :: z2 :: rest).map fun k => V.ref k.1) none (some 3)))) c = some (.lst ([z0, z1, z2].map fun k => V.ref k.1)) := by
    rw [upd_same, show (3 : Int) = ((3 : Nat) : Int) from rfl, cutTo]
    rfl
  generalize upd H4 c (.lst (cutV ((z0 :: z1 :: z2 :: rest).map fun k => V.ref k.1) none (some 3))) = H5 at s5 hc ⊢
  have hL5 := hL4.same s5
  dsimp only [tNil, List.cons_append, List.nil_append]
  refine ⟨E0, c, [], ms, [z0, z1, z2], rfl, SqL.of (s5 _ _ hE), SqL.of hc, fun k m => hL5.each k (sub k m), fun k m => ?_, by omega, fun z m => absurd m (by simp), fun k m z mz => ?_, fun z m => pool_short (nm.pool z m), by simp, by simp, fun H6 d6 ns6 ks6 s6 n6 as6 mn6 at6 mt6 ne6 pl6 => ?_⟩
  · obtain ⟨u, v, e, _⟩ := two k (sub k m)
    exact ⟨u, v, e⟩
  · obtain ⟨u, v, e, mu, mv, _⟩ := two k (sub k m)
    rw [e] at mz
    rcases (show z = u ∨ z = v by simpa using mz) with q1 | q1 <;> rw [q1] <;> assumption
  · have e1 : ns6 = ns' := as6.same an fun z => by
      rw [mn6 z, mn z, List.nil_append, List.mem_flatMap]
    have e2 : ks6.map (·.2) = ks'.map (·.2) := at6.same as' fun z => by
      rw [mt6 z, mt z, List.mem_map, List.mem_map]
      constructor
      · rintro ⟨k, mk, rfl⟩
        obtain ⟨u, v, e, _, _, l⟩ := two k (sub k mk)
        exact ⟨k, mk, by rw [e, asTie_lt l]⟩
      · rintro ⟨k, mk, rfl⟩
        obtain ⟨u, v, e, _, _, l⟩ := two k (sub k mk)
        exact ⟨k, mk, by rw [e, asTie_lt l]⟩
    have td1 : ToldR H6 (.ref d3) (.inr (ns', ks'.map (·.2))) := .web (plain_same (same_trans s4 (same_trans s5 s6)) pl3)
    have td2 : ToldR H6 (.ref d6) (.inr (ns', ks'.map (·.2))) := by
      rw [← e1, ← e2]
      exact .web pl6
    exact ⟨told_same td1 td2, q H6 (same_trans S4 (same_trans s5 s6))⟩
end
def spMadeR : Sp := fun vs H Q _ => ∃ (p : Addr), vs = [.ref p] ∧ DiceAt H p ∧ ∀ H', But p H H' → DiceAt H' p → Q (.bl true) H'
theorem but_list {p g : Addr} {ms : List Str} {H H' : Hp} (d : DiceAt H p) (B : But p H H') (e : H g = some (.lst (ms.map V.str))) : H' g = some (.lst (ms.map V.str)) := stays d (.of B) e (strs_ne ms)
theorem TX.q_madeR (T : TX K mg) : FnG P w K mg base CX0 14 T.f__law_made_right T.d__law_made_right ["_law_dice_here"] spMadeR := by
  refine fnG T.F__law_made_right scMR (fun vs H Q E h => ?_) (fun cdv A fr s H vs Q E hG hr h => ?_)
  · obtain ⟨p, rfl, _⟩ := h
    rfl
  · obtain ⟨p, rfl, hd, q⟩ := h
    have eb : defBody (top 58) = [stmtAt (defBody (top 58)) 0, stmtAt (defBody (top 58)) 1, stmtAt (defBody (top 58)) 2, stmtAt (defBody (top 58)) 3, stmtAt (defBody (top 58)) 4, stmtAt (defBody (top 58)) 5, stmtAt (defBody (top 58)) 6] := rfl
    refine ⟨_, pss_body eb (pss_cons (mr0 T hG hr) (pss_cons (mr1 T hr) (pss_cons (mr2 T hG hr) (pss_cons (mr3 T hG hr) (pss_cons (mr4 T hG hr) (pss_cons (mr5 T hG hr) (pss_one (mr6 T hG hr)))))))), ?_⟩
    refine ⟨p, _, _, _, _, _, _, _, rfl, hd, fun H1 g ms b1 d1 nm hg => ?_⟩
    refine ⟨p, g, ms, _, _, _, _, _, _, rfl, nm, hg, fun H2 L ks s2 hL ek => ?_⟩
    refine ⟨p, g, L, ms, ks, _, _, _, _, _, rfl, nm, s2 _ _ hg, hL, ek, fun H3 s3 => ?_⟩
    have S3 := same_trans s2 s3
    refine ⟨p, g, L, ms, _, _, _, _, _, rfl, nm, S3 _ _ hg, fun H4 y srt s4 asc mn told => ?_⟩
    have S4 := same_trans S3 s4
    refine ⟨p, g, ms, srt, y, _, _, _, _, _, rfl, nm, S4 _ _ hg, asc, mn, told, fun H5 s5 => ?_⟩
    have S5 := same_trans S4 s5
    have hL5 := hL.same (same_trans s3 (same_trans s4 s5))
    refine ⟨p, L, ms, ks, _, _, _, _, _, _, rfl, d1.same S5, nm, hL5, ek, fun H6 L' zs b6 d6 hL' pz => ?_⟩
    refine ⟨p, L', ms, zs, _, _, _, _, _, _, rfl, nm, hL', pz, fun H7 s7 => ?_⟩
    exact q H7 (((b1.trans (.same S5)).trans b6).trans (.same s7)) (d6.same s7)
end
end Lx

/-! Webs: lines; the law: a written wheel. -/
namespace Lx
open PySem PySem.Spec PyProof.Rows L2 Fw LamX
def tJoin (ts : List TE) : TE := fun σ H Q => tJs ts Str.empty σ H fun out H1 => Q (.str out) H1
theorem pe_joinedN {X : Cx} {v1 v2 : Expr} {rest : List Expr} {ts : List TE} {pos : Pos} (h : PJ X (v1 :: v2 :: rest) ts) : PE X (.JoinedStr (v1 :: v2 :: rest) pos) (tJoin ts) := pe_joined h
def lineP (z : Str) : Str := (Str.empty ++ ("place " : Str)) ++ z
def lineT (k : List Str) : Str := (((Str.empty ++ ("tie " : Str)) ++ k.getD 0 Str.empty) ++ (" " : Str)) ++ k.getD 1 Str.empty
def linesL (ns : List Str) (ts : List (List Str)) : List Str := (ns.filter fun z => (neighL ns ts z).isEmpty).map lineP ++ ts.map lineT
def spLines (C : Addr) : Sp := fun vs H Q _ => ∃ (x t a : Addr) (ns : List Str) (ks : List (Addr × List Str)), vs = [.ref x] ∧ WebAt C H x t a ns ks ∧ ∀ H' q, Same H H' → Rd H' q (.tup ((linesL ns (ks.map (·.2))).map V.str)) → Q (.ref q) H'
theorem fm_map_guard {α β : Type} (p : α → Bool) (g : α → β) : ∀ l : List α, l.filterMap (fun x => if p x = true then some (g x) else none) = (l.filter p).map g
  | [] => rfl
  | a :: l => by
    rw [List.filterMap_cons, List.filter_cons, fm_map_guard p g l]
    cases p a <;> rfl
theorem app_len (x y : Str) : (x ++ y).length = x.length + y.length := by
  show (x.cps ++ y.cps).size = _
  rw [Array.size_append]
  rfl
abbrev nLI2 : List Str := ["self", "alone", "place", "tied", "a", "b"]
section
variable {P : Program} {w : World} {K : PySem.W.Frag} {mg : Str → Option Value} {base : Heap} {gg : Bool}
theorem scLines : FnScope nLI2 ["self"] (defScope (methOf 23 5)) := ⟨rfl, rfl, rfl, by decide +kernel, rfl, by decide +kernel, by decide +kernel⟩
theorem TX.q_lines (T : TX K mg) : FnV gg P w K mg base CX0 5 T.f_Web_lines T.d_Web_lines ["self"] (spLines T.C_Web) := by
  have GH : FnOk P w K mg base CX0 4 T.f_Web_neighbours T.d_Web_neighbours ["self", "place"] (spNeigh T.C_Web) := (T.q_neigh (gg := false)).ok
  refine fnV T.F_Web_lines scLines (fun vs H Q E h => ?_) (fun cdv Ar fr s H vs Q E hG hr h => ?_)
  · obtain ⟨x, t, a, ns, ks, rfl, _⟩ := h
    rfl
  · obtain ⟨x, t, a, ns, ks, rfl, W, q⟩ := h
    have hu := hr.units
    refine ⟨_, pss_cons (ps_setLc (i := 1) (own := [("place", 2)]) (g := gName 2) (by rfl) scLines.nd rfl rfl (sw_true rfl rfl rfl (by decide +kernel)) (pi_tupK (K := K) rfl (pe_fldK (K := K) rfl (pv 0) rfl))
          (blkOk_by (N := nLI2) (sc := defScope (methOf 23 5)) (own := [("place", 2)]) (by decide +kernel)) (fun _ _ _ _ _ => pg_name (i := 2) scLines.nd rfl (Or.inl rfl))
          (fun _ _ _ _ _ => pts_one (pt_not (pt_truthK (K := K) rfl (pe_meth (E := E0) (pv 0) T.cl_Web T.M_Web_neighbours GH hr T.b_Web_neighbours .nil pass0 (pa_cons (pv 2) pa_nil)) (by intro _; rfl))))
          (fun _ _ _ _ _ => pe_joinedN (.cons pe_str (.cons (pe_fmt (pv 2)) .nil))))
      (pss_cons (ps_setLc (i := 3) (own := [("a", 4), ("b", 5)]) (g := gTup K 2 (gCons (gName 4) (gCons (gName 5) gNil))) (by rfl) scLines.nd rfl rfl (sw_true rfl rfl rfl (by decide +kernel)) (pi_tupK (K := K) rfl (pe_fldK (K := K) rfl (pv 0) rfl))
          (blkOk_by (N := nLI2) (sc := defScope (methOf 23 5)) (own := [("a", 4), ("b", 5)]) (by decide +kernel)) (fun _ _ _ _ _ => pg_tup rfl (pgs_cons (pg_name (i := 4) scLines.nd rfl (Or.inl rfl)) (pgs_cons (pg_name (i := 5) scLines.nd rfl (Or.inl rfl)) pgs_nil))) (fun _ _ _ _ _ => pts_nil)
          (fun _ _ _ _ _ => pe_joinedN (.cons pe_str (.cons (pe_fmt (pv 4)) (.cons pe_str (.cons (pe_fmt (pv 5)) .nil))))))
      (pss_one (ps_ret (pe_callTy cr_tupF (by rfl) T.n_tuple (by decide +kernel) (pa_cons (pe_op op_cat (pv 1) (pv 3)) pa_nil))))), ?_⟩
    obtain ⟨dx, D, e1, e2, e3⟩ := W.ins
    obtain ⟨nm, ge, few, asc, fewT, tin, _⟩ := webB_iff.mp W.ok
    have lk := fewT
    rw [List.length_map] at lk
    have sz := sizeLine_eq
    have sn : ∀ z ∈ ns, z.length ≤ 1000 := fun z m => name_short (nm z m)
    refine ⟨_, rfl, x, T.C_Web, dx, _, _, rfl, e1, T.cl_Web, T.na_Web__places, rfl, t, rfl, ⟨_, .inl W.tup.rd⟩, fun L nL => ?_⟩
    refine lc_tupR (K := K) repS repS (as := ns) (.inl W.tup.rd) (reps_strs _) (fun z => if (neighL ns (ks.map (·.2)) z).isEmpty = true then some (lineP z) else none) nL (by omega) ?_ ?_
    · rintro i y z Hc C' N ez sc rfl yes no
      have mz := List.mem_of_getElem? ez
      have Wc := W.same sc
      refine ⟨rfl, _, rfl, x, dx, _, rfl, sc _ _ e1, rfl, _, rfl, x, t, a, ns, ks, z, rfl, Wc, mz, by omega, fun H2 q' s2 nq tq => ?_⟩
      refine ⟨_, .inr (.inl ⟨_, .inl tq.rd, rfl⟩), ?_⟩
      have l1 := sn z mz
      by_cases c : (neighL ns (ks.map (·.2)) z).isEmpty = true
      · have hb : (!((neighL ns (ks.map (·.2)) z).map V.str).isEmpty) = false := by
          rw [List.isEmpty_map, c]
          rfl
        rw [hb]
        show (if (!false) = true then _ else _)
        rw [if_pos (by rfl)]
        have l2 : (Str.empty ++ ("place " : Str)).length = 6 := by decide +kernel
        refine ⟨_, rfl, by rw [l2, sz]; decide, _, rfl, .inl ⟨z, rfl, by rw [sz]; omega, ?_⟩⟩
        refine ⟨z, rfl, by rw [app_len, l2, sz]; omega, ?_⟩
        exact yes _ H2 (lineP z) (by rw [if_pos c]) s2 rfl
      · have hb : (!((neighL ns (ks.map (·.2)) z).map V.str).isEmpty) = true := by
          rw [List.isEmpty_map, Bool.eq_false_iff.mpr c]
          rfl
        rw [hb]
        show (if (!true) = true then _ else _)
        rw [if_neg (by decide)]
        exact no (by rw [if_neg c]) H2 s2
    · intro H3 vs s3 h3 rs
      rw [fm_map_guard] at rs
      have ev := reps_strs_of rs
      subst ev
      have W3 := W.same s3
      refine ⟨_, rfl, x, T.C_Web, dx, _, _, rfl, s3 _ _ e1, T.cl_Web, T.na_Web__ties, rfl, a, rfl, ⟨_, .inl W3.row.at_⟩, fun L2 nL2 => ?_⟩
      have nek : ∀ k ∈ ks, k.2 ≠ [] := fun k m e => by
        obtain ⟨u, v, e', _⟩ := tieIn_inv (tin k.2 (List.mem_map_of_mem m))
        rw [e] at e'
        cases e'
      refine lc_tupR (K := K) repT repS (as := ks.map (·.2)) (.inl W3.row.at_) (reps_tups W3.row.each nek) (fun k => some (lineT k)) nL2 (by omega) ?_ ?_
      · rintro i y k Hc C' N ek sc ⟨b, rfl, hb, hs, hl, hn⟩ yes no
        obtain ⟨u, v, rfl, nu, nv, _⟩ := tieIn_inv (tin k (List.mem_of_getElem? ek))
        have lu := name_short nu
        have lv := name_short nv
        refine ⟨b, _, rfl, .inl hb, rfl, _, _, rfl, _, _, rfl, rfl, ?_⟩
        have l1 : (Str.empty ++ ("tie " : Str)).length = 4 := by decide +kernel
        have l2 : ((" " : Str)).length = 1 := by decide +kernel
        refine ⟨rfl, _, rfl, by rw [l1, sz]; decide, _, rfl, .inl ⟨u, rfl, by rw [sz]; omega, ?_⟩⟩
        refine ⟨u, rfl, by rw [app_len, l1, sz]; omega, _, rfl, by rw [app_len, app_len, l1, l2, sz]; omega, _, rfl, .inl ⟨v, rfl, by rw [sz]; omega, ?_⟩⟩
        refine ⟨v, rfl, by rw [app_len, app_len, app_len, l1, l2, sz]; omega, ?_⟩
        exact yes _ Hc (lineT [u, v]) rfl keep_refl rfl
      · intro H4 vs4 s4 h4 rs4
        rw [show (ks.map (·.2)).filterMap (fun k => some (lineT k)) = (ks.map (·.2)).map lineT from congrFun (f := List.filterMap (fun k => some (lineT k))) (by funext l; rw [← List.filterMap_eq_map]; rfl) _] at rs4
        have ev4 := reps_strs_of rs4
        subst ev4
        have ll1 : ((ns.filter fun z => (neighL ns (ks.map (·.2)) z).isEmpty).map lineP).length ≤ 12 := by
          rw [List.length_map]
          exact Nat.le_trans (List.length_filter_le _ _) few
        refine ⟨_, rfl, _, rfl, L, L2, _, _, rfl, rfl, s4 _ _ h3, h4, by rw [List.length_map, List.length_map, List.length_map, List.length_map, sz]; rw [List.length_map] at ll1; omega, fun c nc => ?_⟩
        have s5 := same_upd (o := .lst ((((ns.filter fun z => (neighL ns (ks.map (·.2)) z).isEmpty).map lineP).map V.str) ++ ((ks.map (·.2)).map lineT).map V.str)) nc
        have hc : (upd H4 c (.lst ((((ns.filter fun z => (neighL ns (ks.map (·.2)) z).isEmpty).map lineP).map V.str) ++ ((ks.map (·.2)).map lineT).map V.str))) c = some (.lst ((linesL ns (ks.map (·.2))).map V.str)) := by
          rw [upd_same]
          unfold linesL
          rw [List.map_append]
        generalize upd H4 c (.lst ((((ns.filter fun z => (neighL ns (ks.map (·.2)) z).isEmpty).map lineP).map V.str) ++ ((ks.map (·.2)).map lineT).map V.str)) = H5 at s5 hc ⊢
        refine ⟨c, _, rfl, .inl ⟨SqL.of hc, fun r o nr od => ?_⟩⟩
        exact q _ r (same_trans s3 (same_trans s4 (same_trans s5 (same_upd nr)))) (TupK.new od).rd
/-! ### the wheel -/
def whT : List (List Str) := [["a", "b"], ["b", "c"], ["c", "d"], ["a", "d"], ["a", "h"], ["b", "h"], ["c", "h"], ["d", "h"]]
def whN : List Str := ["a", "b", "c", "d", "h"]
def whS : List (List Str) := [["a", "b"], ["a", "d"], ["a", "h"], ["b", "c"], ["b", "h"], ["c", "d"], ["c", "h"], ["d", "h"]]
def spWheel : Sp := fun vs H Q _ => vs = [.int 2] ∧ ∀ H' d ks, Same H H' → ks.map (·.2) = whS → PlainAt H' d whN ks → Q (.ref d) H'
end
end Lx

/-! The law: the written wheel, and what is told of it. -/
namespace Lx
open PySem PySem.Spec PyProof.Rows L2 Fw LamX
theorem ite_no0 {c : Bool} {A B : Prop} (h : c = false) (b : B) : if c = true then A else B := by
  rw [h]
  exact b
theorem ite_yes0 {c : Bool} {A B : Prop} (h : c = true) (b : A) : if c = true then A else B := by
  rw [h]
  exact b
/-! ### written pairs -/
def tPr (a b : Str) : TE := fun σ H Q => ∀ p, H p = none → Q (.ref p) (upd H p (.tup [.str a, .str b]))
theorem two_line : 2 ≤ sizeLine := by rw [sizeLine_eq]; decide
theorem pe_pr {X : Cx} {p1 p2 pos : Pos} {x1} {a b : Str} {k1 k2} : PE X (.Tuple [.Constant (.str a) k1 p1, .Constant (.str b) k2 p2] x1 pos) (tPr a b) := by
  refine ⟨fun pins s σ H Q I h => ?_⟩
  exact (pe_tup (pa_cons pe_str (pa_cons pe_str pa_nil))).run pins s σ H Q I ⟨two_line, fun p np => h p np⟩
def tPrs (js : List (List Str)) : TA := fun σ H Q => ∀ H' ks, Same H H' → ks.map (·.2) = js → Each H' ks → Q (ks.map fun k => V.ref k.1) H'
theorem pa_prs0 {X : Cx} : PA X [] (tPrs []) := ⟨fun pos pins s σ H Q I h => pa_nil.run pos pins s σ H Q I (h H [] keep_refl rfl fun k m => absurd m (by simp))⟩
theorem pa_prs {X : Cx} {e : Expr} {es : List Expr} {a b : Str} {js : List (List Str)} (la : a.length ≤ 1000) (lb : b.length ≤ 1000) (h0 : PE X e (tPr a b)) (r : PA X es (tPrs js))
    (hst : PE X e (tPr a b) → PA X es (tPrs js) → PA X (e :: es) (tCons (tPr a b) (tPrs js))) : PA X (e :: es) (tPrs ([a, b] :: js)) := by
  refine ⟨fun pos pins s σ H Q I h => (hst h0 r).run pos pins s σ H Q I ?_⟩
  intro p np H' ks S ek each
  have s1 := same_upd (o := .tup [V.str a, V.str b]) np
  refine h H' ((p, [a, b]) :: ks) (same_trans s1 S) (by rw [List.map_cons, ek]) fun k m => ?_
  rcases List.mem_cons.mp m with e | m
  · rw [e]
    refine ⟨.inl (S _ _ upd_same), fun z mz => ?_, by show 2 ≤ 1000; decide⟩
    rcases (show z = a ∨ z = b by simpa using mz) with q | q <;> rw [q] <;> assumption
  · exact each k m
section
variable {P : Program} {w : World} {K : PySem.W.Frag} {mg : Str → Option Value} {base : Heap}
theorem scWr : FnScope ["_law_way", "_law_ties"] ["_law_way"] (defScope (top 51)) := ⟨rfl, rfl, rfl, by decide +kernel, rfl, by decide +kernel, by decide +kernel⟩
theorem TX.q_wheel (T : TX K mg) : FnG P w K mg base CX0 3 T.f__law_written T.d__law_written ["_law_way"] spWheel := by
  have GL : FnG P w K mg base CX0 2 T.f__law_plain T.d__law_plain ["_law_places", "_law_ties"] (spPlain K) := T.q_plain
  refine fnG T.F__law_written scWr (fun vs H Q E h => ?_) (fun cdv A fr s H vs Q E hG hr h => ?_)
  · obtain ⟨rfl, _⟩ := h
    rfl
  · obtain ⟨rfl, q⟩ := h
    have hu := hr.units
    refine ⟨_, pss_cons (ps_if (pt_cmpR op_eq (pv 0) pe_int (nomark _)) pss_never pss_nil) (pss_cons (ps_if (pt_cmpR op_eq (pv 0) pe_int (nomark _)) pss_never pss_nil) (pss_cons (ps_if (pt_cmpR op_eq (pv 0) pe_int (nomark _))
      (pss_cons (ps_set (i := 1) scWr.nd rfl (Or.inl rfl) (pe_lst (pa_prs (by decide +kernel) (by decide +kernel) pe_pr (pa_prs (by decide +kernel) (by decide +kernel) pe_pr (pa_prs (by decide +kernel) (by decide +kernel) pe_pr (pa_prs (by decide +kernel) (by decide +kernel) pe_pr (pa_prs0) (fun h r => pa_cons h r)) (fun h r => pa_cons h r)) (fun h r => pa_cons h r)) (fun h r => pa_cons h r))))
        (pss_one (ps_ret (pe_callG (E := fun _ _ _ _ => False) hG GL hr (by rfl) T.m__law_plain T.F__law_plain.kp T.b__law_plain .nil (fun _ => passAt0) (pa_cons (pe_lst pa_nil) (pa_cons (pe_op op_cat (pv 1) (pe_lst (pa_prs (by decide +kernel) (by decide +kernel) pe_pr (pa_prs (by decide +kernel) (by decide +kernel) pe_pr (pa_prs (by decide +kernel) (by decide +kernel) pe_pr (pa_prs (by decide +kernel) (by decide +kernel) pe_pr (pa_prs0) (fun h r => pa_cons h r)) (fun h r => pa_cons h r)) (fun h r => pa_cons h r)) (fun h r => pa_cons h r)))) pa_nil)))))) pss_nil) pss_never)), ?_⟩
    refine ⟨_, rfl, rfl, _, rfl, ?_⟩
    refine ite_no0 (by decide) ?_
    refine ⟨_, rfl, rfl, _, rfl, ?_⟩
    refine ite_no0 (by decide) ?_
    refine ⟨_, rfl, rfl, _, rfl, ?_⟩
    refine ite_yes0 (by decide) ?_
    refine fun H1 k1 s1 e1 each1 => ?_
    have l1 := congrArg List.length e1
    rw [List.length_map] at l1
    refine ⟨by rw [List.length_map, l1, sizeLine_eq]; decide, fun a na => ?_⟩
    have s2 := same_upd (o := .lst (k1.map fun k => V.ref k.1)) na
    have ha : (upd H1 a (.lst (k1.map fun k => V.ref k.1))) a = some (.lst (k1.map fun k => V.ref k.1)) := upd_same
    generalize upd H1 a (.lst (k1.map fun k => V.ref k.1)) = H2 at s2 ha ⊢
    refine ⟨by show 0 ≤ sizeLine; decide, fun E0 nE => ?_⟩
    have s3 := same_upd (o := .lst []) nE
    have hE : (upd H2 E0 (.lst [])) E0 = some (.lst (([] : List Str).map V.str)) := upd_same
    generalize upd H2 E0 (.lst []) = H3 at s3 hE ⊢
    refine ⟨_, rfl, ?_⟩
    refine fun H4 k2 s4 e2 each2 => ?_
    have l2 := congrArg List.length e2
    rw [List.length_map] at l2
    refine ⟨by rw [List.length_map, l2, sizeLine_eq]; decide, fun b nb => ?_⟩
    have s5 := same_upd (o := .lst (k2.map fun k => V.ref k.1)) nb
    have hb : (upd H4 b (.lst (k2.map fun k => V.ref k.1))) b = some (.lst (k2.map fun k => V.ref k.1)) := upd_same
    generalize upd H4 b (.lst (k2.map fun k => V.ref k.1)) = H5 at s5 hb ⊢
    have S35 := same_trans s3 (same_trans s4 s5)
    refine ⟨a, b, _, _, rfl, rfl, S35 _ _ ha, hb, by rw [List.length_map, List.length_map, l1, l2, sizeLine_eq]; decide, fun c nc => ?_⟩
    have s6 := same_upd (o := .lst ((k1.map fun k => V.ref k.1) ++ k2.map fun k => V.ref k.1)) nc
    have hc : (upd H5 c (.lst ((k1.map fun k => V.ref k.1) ++ k2.map fun k => V.ref k.1))) c = some (.lst ((k1 ++ k2).map fun k => V.ref k.1)) := by rw [upd_same, List.map_append]
    generalize upd H5 c (.lst ((k1.map fun k => V.ref k.1) ++ k2.map fun k => V.ref k.1)) = H6 at s6 hc ⊢
    dsimp only [tNil, List.cons_append, List.nil_append]
    have S16 : Same H H6 := same_trans s1 (same_trans s2 (same_trans S35 s6))
    have ek : (k1 ++ k2).map (·.2) = whT := by rw [List.map_append, e1, e2]; rfl
    have each : Each H6 (k1 ++ k2) := fun k m => by
      rcases List.mem_append.mp m with m | m
      · exact (each1.same (same_trans s2 (same_trans S35 s6))) k m
      · exact (each2.same (same_trans s5 s6)) k m
    have kin : ∀ k ∈ k1 ++ k2, k.2 ∈ whT := fun k m => by
      rw [← ek]
      exact List.mem_map_of_mem m
    have w2 : ∀ k ∈ whT, ∃ x y, k = [x, y] := by
      intro k m
      simp only [whT, List.mem_cons, List.not_mem_nil, or_false] at m
      rcases m with rfl | rfl | rfl | rfl | rfl | rfl | rfl | rfl <;> exact ⟨_, _, rfl⟩
    have wi : ∀ k ∈ whT, ∀ z ∈ k, z ∈ whN := by decide +kernel
    have hl : (k1 ++ k2).length ≤ 62 := by rw [List.length_append, l1, l2]; decide
    refine ⟨E0, c, [], whN, k1 ++ k2, rfl, SqL.of (s6 _ _ (s5 _ _ (s4 _ _ hE))), SqL.of hc, each, fun k m => w2 _ (kin k m), by decide, fun z m => absurd m (by simp), fun k m z mz => wi _ (kin k m) z mz, by decide +kernel, by simp, hl, fun H' d ns' ks' s' nd as mn at' mt ne pl => ?_⟩
    have eN : ns' = whN := as.same (by unfold AscN; decide +kernel) fun z => by
      rw [mn z, List.nil_append, List.mem_flatMap]
      constructor
      · rintro ⟨k, mk, mz⟩
        exact wi _ (kin k mk) z mz
      · intro mz
        have cov : ∀ z ∈ whN, ∃ k ∈ whT, z ∈ k := by decide +kernel
        obtain ⟨k, mk, mz⟩ := cov z mz
        rw [← ek] at mk
        obtain ⟨j, mj, rfl⟩ := List.mem_map.mp mk
        exact ⟨j, mj, mz⟩
    have eT : ks'.map (·.2) = whS := at'.same (by unfold AscT; decide +kernel) fun z => by
      rw [mt z]
      have e3 : ((k1 ++ k2).map fun k => asTie k.2) = whT.map asTie := by
        rw [← ek, List.map_map]
        rfl
      rw [e3]
      have e4 : whT.map asTie = whT := by decide +kernel
      rw [e4]
      have a1 : ∀ z ∈ whT, z ∈ whS := by decide +kernel
      have a2 : ∀ z ∈ whS, z ∈ whT := by decide +kernel
      exact ⟨a1 z, a2 z⟩
    rw [eN] at pl
    exact q H' d ks' (same_trans S16 s') eT pl
end
end Lx

/-! The law's own def. -/
namespace Lx
open PySem PySem.Spec PyProof.Rows L2 Fw LamX
abbrev nLW : List Str := ["_law_script", "_law_spot", "_law_dice_here", "_law_turn", "_law_plain_here", "_law_other", "_law_wheel", "_law_told"]
theorem scLaw : FnScope nLW ["_law_script"] (defScope (top 59)) := ⟨rfl, rfl, rfl, by decide +kernel, rfl, by decide +kernel, by decide +kernel⟩
def spLaw (K : PySem.W.Frag) (Ts : List (Addr × Str)) : Sp := fun vs H Q _ => ∃ (a : Addr) (ns : List Int), vs = [.ref a] ∧ SqL K H a (ns.map V.int) ∧ ns.length ≤ 63 ∧ Tabs Ts H ∧ ∀ H', Q (.bl true) H'
theorem butT_seq {K : PySem.W.Frag} {p a : Addr} {H H' : Hp} {xs : List V} (b : ButT p H H') (n : a ≠ p) (h : SqL K H a xs) : SqL K H' a xs := by
  rcases h with (h | ⟨o, h⟩) | h
  · exact .inl (.inl (b _ _ n (fun ps z => by cases z) h))
  · exact .inl (.inr ⟨o, b _ _ n (fun ps z => by cases z) h⟩)
  · exact .inr h
abbrev slL (a : Addr) (u1 u2 u3 u4 u5 u6 u7 : Option V) : L2.St := [some (.ref a), u1, u2, u3, u4, u5, u6, u7]
section
variable {P : Program} {w : World} {K : PySem.W.Frag} {mg : Str → Option Value} {base : Heap}
section
variable {f : Addr} {cdv : Value} {A : Around} {fr : List Env} {s : Shared} {H0 : Hp} {E : XK}
abbrev XL (P : Program) (w : World) (K : PySem.W.Frag) (mg : Str → Option Value) (base : Heap) (f : Addr) (cdv : Value) (A : Around) (fr : List Env) (s : Shared) (H0 : Hp) (E : XK) : Cx := cxOf CX0 P w K mg base nLW "law" (defScope (top 59)) f cdv A fr s H0 E
abbrev hL (A : Around) (s : Shared) (f : Addr) (cdv : Value) : Prop := Room 17 (A.deeper (envOfC "law" (defScope (top 59)) s.heap.objs.size f cdv))
/-- the loop -/
def l0 (K : PySem.W.Frag) (Ts : List (Addr × Str)) : TS := fun D σ H => ∃ (a : Addr) (ns : List Int), σ = slL a none none none none none none none ∧ SqL K H a (ns.map V.int) ∧ ns.length ≤ 63 ∧ Tabs Ts H ∧ ∀ H' u1 u2 u3 u4 u5, D.nx (slL a u1 u2 u3 u4 u5 none none) H'
theorem lw0 {Ts : List (Addr × Str)} {P1 P2 : Addr} (T : TX K mg) (L1 : LamT base mg T.c__law_one_right P1 qOne Ts) (L2' : LamT base mg T.c__law_pair_right P2 qPair Ts) (hG : A.guards = some []) (hr : hL A s f cdv) : PS (XL P w K mg base f cdv A fr s H0 E) (stmtAt (defBody (top 59)) 0) (l0 K Ts) := by
  have GD : FnG P w K mg base CX0 1 T.f__law_dice T.d__law_dice ["_law_script", "_law_spot"] (spDice K) := T.q_dice
  have GR : FnG P w K mg base CX0 3 T.f__law_random T.d__law_random ["_law_dice_here", "_law_most"] spRandom := T.q_random
  have GMd : FnV false P w K mg base (L2.CX P w) 9 T.f__law_made T.d__law_made ["_law_plain_here"] (spMade T.C_Web) := T.q_made
  have GO : FnG P w K mg base CX0 16 T.f__law_one_right T.d__law_one_right ["_law_dice_here", "_law_plain_here", "_law_web"] (spOneR Ts T.C_Web) := T.q_one L1
  have GP : FnG P w K mg base CX0 16 T.f__law_pair_right T.d__law_pair_right ["_law_dice_here", "_law_plain_here", "_law_other"] (spPairR Ts) := T.q_pairR L2'
  have GM : FnG P w K mg base CX0 14 T.f__law_made_right T.d__law_made_right ["_law_dice_here"] spMadeR := T.q_madeR
  refine ps_weak (ps_for (passes_of rfl) rfl (pi_range1 (by rfl) T.n_range (pa_cons (pe_callB (call_max2 rfl) (by rfl) T.n_max (by decide +kernel) (pa_cons pe_int (pa_cons (pe_callB (call_min2 rfl) (by rfl) T.n_min (by decide +kernel) (pa_cons pe_int (pa_cons (pe_callB call_len_seq (by rfl) T.n_len PySem.boot_len (pa_cons (pv 0) pa_nil)) pa_nil))) pa_nil))) pa_nil)) (pg_name (i := 1) scLaw.nd rfl (Or.inl rfl))
    (pss_cons (ps_set (i := 2) scLaw.nd rfl (Or.inl rfl) (pe_callG (E := fun _ _ _ _ => False) hG GD (hr.mono (by decide)) (by rfl) T.m__law_dice T.F__law_dice.kp T.b__law_dice .nil (fun _ => passAt0) (pa_cons (pv 0) (pa_cons (pv 1) pa_nil))))
      (pss_one (ps_for (passes_of rfl) rfl (pi_range1 (by rfl) T.n_range (pa_cons pe_int pa_nil)) (pg_name (i := 3) scLaw.nd rfl (Or.inl rfl))
        (pss_cons (ps_par (i := 4) (j := 5) (by rfl) scLaw.nd rfl rfl (by decide) rfl rfl (pa_cons (pe_callG (E := fun _ _ _ _ => False) hG GR (hr.mono (by decide)) (by rfl) T.m__law_random T.F__law_random.kp T.b__law_random .nil (fun _ => passAt0) (pa_cons (pv 2) (pa_cons pe_int pa_nil)))
            (pa_cons (pe_callG (E := fun _ _ _ _ => False) hG GR (hr.mono (by decide)) (by rfl) T.m__law_random T.F__law_random.kp T.b__law_random .nil (fun _ => passAt0) (pa_cons (pv 2) (pa_cons pe_int pa_nil))) pa_nil)) (by rfl))
          (pss_cons (ps_if (PW.pt (pw_or (pt_not (pt_val (pe_callG (E := fun _ _ _ _ => False) hG GO (hr.mono (by decide)) (by rfl) T.m__law_one_right T.F__law_one_right.kp T.b__law_one_right .nil (fun _ => passAt0) (pa_cons (pv 2) (pa_cons (pv 4) (pa_cons
              (pe_callV (gg := false) (E := fun _ _ _ _ => False) (fun z => nomatch z) GMd (hr.mono (by decide)) (by rfl) T.m__law_made T.F__law_made.kp T.b__law_made .nil (fun _ => passNo) (pa_cons (pv 4) pa_nil)) pa_nil))))))
            (pw_or1 (pt_not (pt_val (pe_callG (E := fun _ _ _ _ => False) hG GP (hr.mono (by decide)) (by rfl) T.m__law_pair_right T.F__law_pair_right.kp T.b__law_pair_right .nil (fun _ => passAt0) (pa_cons (pv 2) (pa_cons (pv 4) (pa_cons (pv 5) pa_nil))))))))) (pss_one (ps_ret pe_bl)) pss_nil)
          (pss_one (ps_if (pt_not (pt_val (pe_callG (E := fun _ _ _ _ => False) hG GM (hr.mono (by decide)) (by rfl) T.m__law_made_right T.F__law_made_right.kp T.b__law_made_right .nil (fun _ => passAt0) (pa_cons (pv 2) pa_nil)))) (pss_one (ps_ret pe_bl)) pss_nil)))))))) ?_
  rintro D σ H ⟨a, ns, rfl, hS, hl, tabs, q⟩
  have lenE : ((ns.map V.int).length : Int) = (ns.length : Int) := by rw [List.length_map]
  refine ⟨_, rfl, a, _, rfl, .inl hS, _, _, rfl, _, _, rfl, _, rfl, ?_⟩
  generalize hj : (if (if ((ns.map V.int).length : Int) < 2 then ((ns.map V.int).length : Int) else 2) > 1 then (if ((ns.map V.int).length : Int) < 2 then ((ns.map V.int).length : Int) else 2) else 1) = j
  have j1 : 1 ≤ j := by
    rw [← hj]
    split <;> omega
  have j2 : j ≤ 2 := by
    rw [← hj]
    split
    · split <;> omega
    · omega
  refine ⟨by omega, by omega, ?_⟩
  refine for_range (lo := 0) (n := j.toNat) (fun i σ Hc => (∃ u1 u2 u3 u4 u5 : Option V, σ = slL a u1 u2 u3 u4 u5 none none) ∧ SqL K Hc a (ns.map V.int) ∧ Tabs Ts Hc) ⟨⟨none, none, none, none, none, rfl⟩, hS, tabs⟩ ?_ ?_
  · rintro i σ Hc hi ⟨⟨u1, u2, u3, u4, u5, rfl⟩, sc, tc⟩
    refine ⟨_, rfl, _, rfl, a, ns, _, rfl, sc, hl, by omega, by omega, fun p H1 s1 np d1 => ?_⟩
    have apx : ∀ Hx, ButT p Hc Hx → SqL K Hx a (ns.map V.int) := fun Hx b => by
      rcases sc with (e | ⟨o, e⟩) | e
      · exact butT_seq b (ne_of_none e np) (.inl (.inl e))
      · exact butT_seq b (ne_of_none e np) (.inl (.inr ⟨o, e⟩))
      · exact .inr e
    have t1 : Tabs Ts H1 := tc.ext fun b o e => s1 b o e
    refine ⟨_, rfl, by decide, by decide, ?_⟩
    refine for_range (lo := 0) (n := Int.toNat 2) (fun k σ Hd => (∃ u3 u4 u5 : Option V, σ = slL a (some (.int (0 + (i : Nat)))) (some (.ref p)) u3 u4 u5 none none) ∧ ButT p Hc Hd ∧ DiceAt Hd p ∧ Tabs Ts Hd) ⟨⟨u3, u4, u5, rfl⟩, .same s1, d1, t1⟩ ?_ ?_
    · rintro k σ Hd hk ⟨⟨v3, v4, v5, rfl⟩, bd, dd, td⟩
      refine ⟨_, rfl, p, rfl, dd, fun H2 e1 ns1 ks1 b2 d2 _ dr1 pl1 _ => ?_⟩
      have t2 := tabs_but td dd b2
      refine ⟨_, rfl, p, rfl, d2, fun H3 e2 ns2 ks2 b3 d3 _ dr2 pl2 _ => ?_⟩
      have t3 := tabs_but t2 d2 b3
      have pl1' := plain_stays d2 (.of b3) pl1
      refine ⟨_, _, rfl, ?_⟩
      refine ⟨_, rfl, _, rfl, _, rfl, e1, ns1, ks1, rfl, pl1', dr1.web, fun H4 x t a' s4 nx W ap => ?_⟩
      obtain ⟨i1, i2, i3, ed⟩ := id d3
      have ax := ap p _ ed
      obtain ⟨⟨l1, l2, a1, a2, a3⟩, each⟩ := plain_same s4 pl1'
      have d4 := d3.same s4
      have t4 : Tabs Ts H4 := t3.ext fun b o e => s4 b o e
      refine ⟨p, e1, x, t, a', l1, l2, ns1, ks1, rfl, ⟨d4, t4, dr1, a1, a2, a3, each, W, ax⟩, fun H5 b5 d5 t5 => ⟨_, rfl, ?_⟩⟩
      refine ite_no0 (by decide) ?_
      have pl5 := plain_stays d4 b5 (plain_same s4 pl1')
      have pl6 := plain_stays d4 b5 (plain_same s4 pl2)
      refine ⟨_, rfl, _, rfl, _, rfl, p, e1, e2, ns1, ks1, ns2, ks2, rfl, d5, t5, dr1, dr2, pl5, pl6, fun H6 b6 d6 t6 => ⟨_, rfl, ?_⟩⟩
      refine ite_no0 (by decide) ?_
      refine ⟨_, rfl, p, rfl, d6, fun H7 b7 d7 => ⟨_, rfl, ?_⟩⟩
      refine ite_no0 (by decide) ?_
      exact ⟨⟨_, _, _, rfl⟩, (((((bd.trans (.of b2)).trans (.of b3)).trans (.same s4)).trans b5).trans b6).trans (.of b7), d7, tabs_but t6 d6 b7⟩
    · rintro σ Hd ⟨⟨v3, v4, v5, rfl⟩, bd, dd, td⟩
      exact ⟨⟨_, _, _, _, _, rfl⟩, apx Hd bd, td⟩
  · rintro σ Hc ⟨⟨u1, u2, u3, u4, u5, rfl⟩, -, -⟩
    exact q Hc u1 u2 u3 u4 u5
/-- the wheel -/
def l1 (C : Addr) : TS := fun D σ H => ∃ (a : Addr) (u1 u2 u3 u4 u5 : Option V), σ = slL a u1 u2 u3 u4 u5 none none ∧ ∀ H' x t a' ks, ks.map (·.2) = whS → WebAt C H' x t a' whN ks → D.nx (slL a u1 u2 u3 u4 u5 (some (.ref x)) none) H'
theorem lw1 (T : TX K mg) (hG : A.guards = some []) (hr : hL A s f cdv) : PS (XL P w K mg base f cdv A fr s H0 E) (stmtAt (defBody (top 59)) 1) (l1 T.C_Web) := by
  have GMd : FnV false P w K mg base (L2.CX P w) 9 T.f__law_made T.d__law_made ["_law_plain_here"] (spMade T.C_Web) := T.q_made
  have GW : FnG P w K mg base CX0 3 T.f__law_written T.d__law_written ["_law_way"] spWheel := T.q_wheel
  refine ps_weak (ps_set (i := 6) scLaw.nd rfl (Or.inl rfl) (pe_callV (gg := false) (E := fun _ _ _ _ => False) (fun z => nomatch z) GMd (hr.mono (by decide)) (by rfl) T.m__law_made T.F__law_made.kp T.b__law_made .nil (fun _ => passNo) (pa_cons
    (pe_callG (E := fun _ _ _ _ => False) hG GW (hr.mono (by decide)) (by rfl) T.m__law_written T.F__law_written.kp T.b__law_written .nil (fun _ => passAt0) (pa_cons pe_int pa_nil)) pa_nil))) ?_
  rintro D σ H ⟨a, u1, u2, u3, u4, u5, rfl, q⟩
  refine ⟨rfl, fun H1 d ks s1 ek pl => ⟨d, whN, ks, rfl, pl, by rw [ek]; decide +kernel, fun H2 x t a' s2 nx W _ => q H2 x t a' ks ek W⟩⟩
/-- what is told of it -/
def toldD : PyData := .list [.tuple ((["place h", "tie a c", "tie b d"] : List Str).map PyData.str), .tuple ((["a", "b", "c", "d"] : List Str).map PyData.str), .int 10]
def l2 (K : PySem.W.Frag) (C : Addr) : TS := fun D σ H => ∃ (a x t a' : Addr) (ks : List (Addr × List Str)) (u1 u2 u3 u4 u5 : Option V), σ = slL a u1 u2 u3 u4 u5 (some (.ref x)) none ∧ ks.map (·.2) = whS ∧ WebAt C H x t a' whN ks ∧ ∀ H' l, Dp K H' (.ref l) toldD → D.nx (slL a u1 u2 u3 u4 u5 (some (.ref x)) (some (.ref l))) H'
theorem lw2 (T : TX K mg) (hG : A.guards = some []) (hr : hL A s f cdv) : PS (XL P w K mg base f cdv A fr s H0 E) (stmtAt (defBody (top 59)) 2) (l2 K T.C_Web) := by
  have GI : FnV false P w K mg base (L2.CX P w) 9 T.f_Web___invert__ T.d_Web___invert__ ["self"] (spInv T.C_Web) := T.q_inv
  have GgL : FnOk P w K mg base CX0 5 T.f_Web_lines T.d_Web_lines ["self"] (spLines T.C_Web) := (T.q_lines (gg := false)).ok
  have GgP : FnOk P w K mg base CX0 1 T.f_Web_places T.d_Web_places ["self"] (spP T.C_Web) := (T.q_getP (gg := false)).ok
  have GgT : FnOk P w K mg base CX0 1 T.f_Web_ties T.d_Web_ties ["self"] (spT T.C_Web) := (T.q_getT (gg := false)).ok
  have GDT : FnOk P w K mg base (L2.CX P w) 11 T.f_Web_drawn_together T.d_Web_drawn_together ["self", "a", "b"] (spDT T.C_Web T.C_InvalidWeb T.C_InvalidTie) := (T.q_dt (gg := false)).ok
  have GF : FnV false P w K mg base (L2.CX P w) 9 T.f_full_web T.d_full_web ["places"] (spFull T.C_Web) := T.q_full
  refine ps_weak (ps_set (i := 7) scLaw.nd rfl (Or.inl rfl) (pe_lst (pa_cons
      (pe_prop (pe_ownInvk (X := XL P w K mg base f cdv A fr s H0 E) (K := K) (gg := false) (E := fun _ _ _ _ => False) rfl T.M_Web___invert__ (fun z => nomatch z) GI (hr.mono (by decide)) T.b_Web___invert__ (fun _ => passNo) (pv 6)) T.cl_Web T.P_Web_lines GgL (hr.mono (by decide)) T.b_Web_lines .nil pass0 rfl)
    (pa_cons (pe_prop (pe_meth (E := fun _ _ _ => False) (pv 6) T.cl_Web T.M_Web_drawn_together GDT (hr.mono (by decide)) T.b_Web_drawn_together .nil passNoM (pa_cons pe_str (pa_cons pe_str pa_nil))) T.cl_Web T.P_Web_places GgP (hr.mono (by decide)) T.b_Web_places .nil pass0 rfl)
    (pa_cons (pe_callB call_len_seq (by rfl) T.n_len PySem.boot_len (pa_cons (pe_prop (pe_callV (gg := false) (E := fun _ _ _ _ => False) (fun z => nomatch z) GF (hr.mono (by decide)) (by rfl) T.m_full_web T.F_full_web.kp T.b_full_web .nil (fun _ => passNo)
        (pa_cons (pe_tupF (pa_cons pe_str (pa_cons pe_str (pa_cons pe_str (pa_cons pe_str (pa_cons pe_str pa_nil)))))) pa_nil)) T.cl_Web T.P_Web_ties GgT (hr.mono (by decide)) T.b_Web_ties .nil pass0 rfl) pa_nil)) pa_nil))))) ?_
  rintro D σ H ⟨a, x, t, a', ks, u1, u2, u3, u4, u5, rfl, ek, W, q⟩
  obtain ⟨dx, D1, e1, _, _⟩ := W.ins
  refine ⟨_, rfl, x, dx, _, rfl, e1, x, t, a', whN, ks, rfl, W, by decide, fun H1 z az zs ez s1 nz W1 => ?_⟩
  obtain ⟨dz, D2, e2, _, _⟩ := W1.ins
  have ez' : zs.map (·.2) = ([["a", "c"], ["b", "d"]] : List (List Str)) := by
    rw [ez, ek]
    decide +kernel
  refine ⟨z, dz, _, rfl, e2, z, t, az, whN, zs, rfl, W1, fun H2 q1 s2 hq1 => ?_⟩
  rw [ez', show linesL whN [["a", "c"], ["b", "d"]] = (["place h", "tie a c", "tie b d"] : List Str) by decide +kernel] at hq1
  have S2 := same_trans s1 s2
  have W2 := W.same S2
  obtain ⟨dx2, D12, e12, _, _⟩ := W2.ins
  refine ⟨_, rfl, x, dx2, _, rfl, e12, rfl, x, t, a', whN, ks, "a", "h", rfl, W2, by decide, by decide, by decide, ?_, fun cc => ?_, fun _ => ⟨?_, ?_⟩⟩
  · have z := congrArg List.length ek
    rw [List.length_map] at z
    rw [z]
    decide
  · rw [ek] at cc
    exact absurd cc (by decide +kernel)
  · have ef : (ks.filter fun k => bothIn (lessN whN ["h"]) k.2).map (·.2) = (ks.map (·.2)).filter (bothIn (lessN whN ["h"])) := by
      rw [List.filter_map]
      rfl
    rw [ef, ek]
    decide +kernel
  · have ef : (ks.filter fun k => bothIn (lessN whN ["h"]) k.2).map (·.2) = (ks.map (·.2)).filter (bothIn (lessN whN ["h"])) := by
      rw [List.filter_map]
      rfl
    rw [ef, ek]
    refine gath_ok (ns := ["a", "b", "c", "d"]) (by unfold AscN; decide +kernel) (fun z => by rw [show lessN whN ["h"] = (["a", "b", "c", "d"] : List Str) by decide +kernel]) (by decide +kernel) (by decide) (by decide) (by decide +kernel) fun H3 y ty ay ky as3 ms3 s3 ny W3 => ?_
    obtain ⟨dy, D3, e3, _, _⟩ := W3.ins
    refine ⟨y, dy, _, rfl, e3, y, ty, ay, _, ky, rfl, W3, ?_⟩
    refine ⟨by rw [sizeLine_eq]; decide, fun tp o ntp od => ?_⟩
    have s4 := same_upd (o := .frz o (.tup [V.str ("a" : Str), V.str ("b" : Str), V.str ("c" : Str), V.str ("d" : Str), V.str ("e" : Str)])) ntp
    have ht : TupK (upd H3 tp (.frz o (.tup [V.str ("a" : Str), V.str ("b" : Str), V.str ("c" : Str), V.str ("d" : Str), V.str ("e" : Str)]))) tp ((["a", "b", "c", "d", "e"] : List Str).map V.str) := TupK.new od
    generalize upd H3 tp (.frz o (.tup [V.str ("a" : Str), V.str ("b" : Str), V.str ("c" : Str), V.str ("d" : Str), V.str ("e" : Str)])) = H4 at s4 ht ⊢
    refine ⟨tp, _, rfl, ht, by decide +kernel, by unfold AscN; decide +kernel, by decide, by decide, fun H5 v av kv ev s5 nv W5 => ?_⟩
    obtain ⟨dv, D5, e5, _, _⟩ := W5.ins
    refine ⟨v, dv, _, rfl, e5, v, tp, av, _, kv, rfl, W5, ?_⟩
    refine ⟨av, _, rfl, .inr (.inl W5.row.at_), ?_⟩
    have lv : ((kv.map fun k => V.ref k.1).length : Int) = 10 := by
      have z := congrArg List.length ev
      rw [List.length_map] at z
      rw [List.length_map, z]
      decide +kernel
    rw [lv]
    refine ⟨by show 3 ≤ sizeLine; decide, fun l nl => ?_⟩
    have s6 := same_upd (o := .lst [V.ref q1, V.ref ty, V.int 10]) nl
    refine q _ l (.lst (SqL.of upd_same) (.cons (dpX (rd_same hq1 (same_trans s3 (same_trans s4 (same_trans s5 s6))))) (.cons (dpX (rd_same W3.tup.rd (same_trans s4 (same_trans s5 s6)))) (.cons (.int 10) .nil))))
def l3 (K : PySem.W.Frag) : TS := fun D σ H => ∃ (a l : Addr) (u1 u2 u3 u4 u5 u6 : Option V), σ = slL a u1 u2 u3 u4 u5 u6 (some (.ref l)) ∧ Dp K H (.ref l) toldD ∧ ∀ H', D.rt (.bl true) H'
theorem Dp.same {K : PySem.W.Frag} {H H' : Hp} (S : Same H H') {l : Addr} : Dp K H (.ref l) toldD → Dp K H' (.ref l) toldD := fun h => by
  unfold toldD at h ⊢
  cases h with
  | lst sq all =>
    refine .lst (sqL_same sq S) ?_
    cases all with
    | cons h1 all =>
      cases all with
      | cons h2 all =>
        cases all with
        | cons h3 all =>
          cases all
          cases h3
          cases h1 with
          | tup s1 a1 =>
            cases h2 with
            | tup s2 a2 => exact .cons (.tup (seqT_same s1 S) (by
                cases a1 with
                | cons x1 a1 => cases a1 with
                  | cons x2 a1 => cases a1 with
                    | cons x3 a1 => cases a1; cases x1; cases x2; cases x3; exact .cons (.str _) (.cons (.str _) (.cons (.str _) .nil)))) (.cons (.tup (seqT_same s2 S) (by
                cases a2 with
                | cons x1 a1 => cases a1 with
                  | cons x2 a1 => cases a1 with
                    | cons x3 a1 => cases a1 with
                      | cons x4 a1 => cases a1; cases x1; cases x2; cases x3; cases x4; exact .cons (.str _) (.cons (.str _) (.cons (.str _) (.cons (.str _) .nil))))) (.cons (.int _) .nil))
theorem lw3 (T : TX K mg) (hr : hL A s f cdv) : PS (XL P w K mg base f cdv A fr s H0 E) (stmtAt (defBody (top 59)) 3) (l3 K) := by
  have hu := hr.units
  refine ps_weak (ps_ret (pe_cmpR (op_eqMk (K := K) rfl (by exact hu)) (pv 7) (pe_lst (pa_cons (pe_tup (pa_cons pe_str (pa_cons pe_str (pa_cons pe_str pa_nil)))) (pa_cons (pe_tup (pa_cons pe_str (pa_cons pe_str (pa_cons pe_str (pa_cons pe_str pa_nil))))) (pa_cons pe_int pa_nil)))) (nomark _))) ?_
  rintro D σ H ⟨a, l, u1, u2, u3, u4, u5, u6, rfl, dp, q⟩
  refine ⟨_, rfl, by rw [sizeLine_eq]; decide, fun p1 n1 => ?_⟩
  have s1 := same_upd (o := .tup [V.str ("place h" : Str), V.str ("tie a c" : Str), V.str ("tie b d" : Str)]) n1
  have h1 : Rd (upd H p1 (.tup [V.str ("place h" : Str), V.str ("tie a c" : Str), V.str ("tie b d" : Str)])) p1 (.tup ((["place h", "tie a c", "tie b d"] : List Str).map V.str)) := .inl upd_same
  generalize upd H p1 (.tup [V.str ("place h" : Str), V.str ("tie a c" : Str), V.str ("tie b d" : Str)]) = H1 at s1 h1 ⊢
  refine ⟨by rw [sizeLine_eq]; decide, fun p2 n2 => ?_⟩
  have s2 := same_upd (o := .tup [V.str ("a" : Str), V.str ("b" : Str), V.str ("c" : Str), V.str ("d" : Str)]) n2
  have h2 : Rd (upd H1 p2 (.tup [V.str ("a" : Str), V.str ("b" : Str), V.str ("c" : Str), V.str ("d" : Str)])) p2 (.tup ((["a", "b", "c", "d"] : List Str).map V.str)) := .inl upd_same
  generalize upd H1 p2 (.tup [V.str ("a" : Str), V.str ("b" : Str), V.str ("c" : Str), V.str ("d" : Str)]) = H2 at s2 h2 ⊢
  refine ⟨by show 3 ≤ sizeLine; decide, fun p3 n3 => ?_⟩
  have s3 := same_upd (o := .lst [V.ref p1, V.ref p2, V.int 10]) n3
  refine ⟨.inl ⟨toldD, Dp.same (same_trans s1 (same_trans s2 s3)) dp, .lst (SqL.of upd_same) (.cons (dpX (rd_same h1 (same_trans s2 s3))) (.cons (dpX (rd_same h2 s3)) (.cons (.int 10) .nil))), by decide +kernel, by decide +kernel⟩, q _⟩
end
theorem TX.q_law {Ts : List (Addr × Str)} {P1 P2 : Addr} (T : TX K mg) (L1 : LamT base mg T.c__law_one_right P1 qOne Ts) (L2' : LamT base mg T.c__law_pair_right P2 qPair Ts) : FnG P w K mg base CX0 18 T.f_law T.d_law ["_law_script"] (spLaw K Ts) := by
  refine fnG T.F_law scLaw (fun vs H Q E h => ?_) (fun cdv A fr s H vs Q E hG hr h => ?_)
  · obtain ⟨a, ns, rfl, _⟩ := h
    rfl
  · obtain ⟨a, ns, rfl, hS, hl, tabs, q⟩ := h
    have eb : defBody (top 59) = [stmtAt (defBody (top 59)) 0, stmtAt (defBody (top 59)) 1, stmtAt (defBody (top 59)) 2, stmtAt (defBody (top 59)) 3] := rfl
    refine ⟨_, pss_body eb (pss_cons (lw0 T L1 L2' hG hr) (pss_cons (lw1 T hG hr) (pss_cons (lw2 T hG hr) (pss_one (lw3 T hr))))), ?_⟩
    refine ⟨a, ns, rfl, hS, hl, tabs, fun H1 u1 u2 u3 u4 u5 => ?_⟩
    refine ⟨a, u1, u2, u3, u4, u5, rfl, fun H2 x t a' ks ek W => ?_⟩
    refine ⟨a, x, t, a', ks, u1, u2, u3, u4, u5, rfl, ek, W, fun H3 l dp => ?_⟩
    exact ⟨a, l, u1, u2, u3, u4, u5, _, rfl, dp, fun H4 => q H4⟩
end
end Lx

/-! The end of a law that makes lambdas, promised where no repr is under way; what loose names hold is handed on. -/
namespace Fw
open PySem PySem.Spec PyProof.Rows L2
/-- an empty table of code objects at t.2, of the code object at t.1, and neither is written out -/
structure TabAt (K : PySem.W.Frag) (h : Heap) (t : Addr × Addr) : Prop where
  at_ : h.get? t.2 = some { cls := .none, data := .fields #[] }
  off : K.lookup t.2 = none
  cd : PySem.W.CodeHd h t.1 t.2
theorem ends_tabs {P : Program} {w : World} {K : PySem.W.Frag} {mg mb : Str → Option Value} {CX : CXT} {k : Nat} {fa a : Addr} {fd : FuncData} {x : Str} {sp : Sp} {s₁ : Shared} {vs : List Value} {H : Hp} {L : List V} {ts : List (Addr × Addr)}
    (KX : K.In s₁.heap) (hns : s₁.heap.Ns mainGlobals mg) (hb : s₁.heap.Ns builtinsNs mb) (hbb : ∀ y : Str, y ≠ "__name__" → mb y = bootBuiltins y) (hlim : s₁.heap.NoLimit) (hg : s₁.gens = #[])
    (ha : s₁.heap.get? a = some { cls := .type "list", data := .seq vs.toArray }) (hr : Room k callerA) (tb : ∀ t ∈ ts, TabAt K s₁.heap t)
    (hm : ∃ (m : Addr) (om : Obj), mg "__builtins__" = some (.ref m) ∧ m ≠ builtinsNs ∧ s₁.heap.get? m = some om ∧ om.cls = .type "module" ∧ om.dict = some builtinsNs ∧ om.data = .plain)
    (F : ∀ base : Heap, K.In base → base.Ns mainGlobals mg → (∀ t ∈ ts, LamX.TabB base mg t.1 t.2) → FnG P w K mg base CX k fa fd [x] sp) (hbind : ∀ (s : Shared) (u : Value), BindsTo s fd ⟨[u], []⟩ [(x, u)])
    (hsp : sp [.ref a] H (fun v _ => v = .bl true) fun _ _ _ => False) (hCX : ∀ e s', CX [] H s₁ (fun _ _ _ => False) e s' → False)
    (only : ∀ b u, H b = some u → (b = a ∧ K.lookup a = none ∧ ∃ o, u = .frz o (.lst L)) ∨ ∃ c, (c, b) ∈ ts) (tr : ∀ t ∈ ts, H t.2 = some (.tbl #[])) (held : HOk P w H s₁.heap) :
    codeAny (model P w) callerA (.call (.ref fa) ⟨[.ref a], []⟩) (fun r s' => r = .ok (.ret (.bool true)) ∧ OldK s₁.heap s'.heap ∧ s'.os = s₁.os ∧ AllBare s'.gens) s₁ := by
  have away : ∀ {b : Addr} {o : Obj}, s₁.heap.get? b = some o → (b = a → K.lookup a = none → False) → (∀ c, (c, b) ∈ ts → False) → H b = none := by
    intro b o _ n1 n2
    cases q : H b with
    | none => rfl
    | some u =>
      rcases only b u q with ⟨e, n, _⟩ | ⟨c, m⟩
      · exact (n1 e n).elim
      · exact (n2 c m).elim
  have other : ∀ {b : Addr} {o : Obj}, s₁.heap.get? b = some o → (∀ us n, o.data ≠ .seq us n) → o.data ≠ .fields #[] → H b = none := by
    intro b o e n1 n2
    refine away e (fun z _ => ?_) (fun c m => ?_)
    · rw [z, ha] at e
      cases e
      exact n1 _ _ rfl
    · rw [(tb _ m).at_] at e
      cases e
      exact n2 rfl
  have dicts : ∀ {b : Addr} {o : Obj} {es : Array DictEntry} {ep : Nat}, s₁.heap.get? b = some o → o.data = .dict es ep → H b = none := fun e d =>
    other e (fun us n z => Data.noConfusion (d.symm.trans z)) (fun z => Data.noConfusion (d.symm.trans z))
  have spaces : ∀ {b : Addr} {m : Str → Option Value}, s₁.heap.Ns b m → (hidT s₁.heap H).Ns b m := by
    rintro b m ⟨o, es, ep, e, d, more⟩
    exact ⟨o, es, ep, hidT_get e (dicts e d), d, more⟩
  have written : K.In (hidT s₁.heap H) := by
    intro b o e
    refine hidT_get (KX b o e) (away (KX b o e) (fun z n => ?_) (fun c m => ?_))
    · rw [z, n] at e
      cases e
    · rw [(tb _ m).off] at e
      cases e
  have room : Mod K mg (hidT s₁.heap H) := by
    obtain ⟨mc, l1, l2⟩ := hlim
    exact ⟨written, spaces hns, ⟨mb, spaces hb, hbb⟩, ⟨mc, spaces l1, l2⟩⟩
  have codes : ∀ t ∈ ts, LamX.TabB (hidT s₁.heap H) mg t.1 t.2 := by
    intro t mt
    have T := tb t mt
    refine ⟨?_, ?_, fun z => ?_⟩
    · obtain ⟨o, us, f1, f2, f3, f4, f5, f6, f7, g0, g1, g2, g3, rest⟩ := T.cd
      refine ⟨o, us, f1, f2, f3, f4, f5, f6, f7, hidT_get g0 (other g0 (fun us n z => Data.noConfusion (g2.symm.trans z)) fun z => ?_), g1, g2, g3, rest⟩
      rw [g2] at z
      cases z
      simp at g3
    · obtain ⟨m, om, e1, e2, e3, e4, e5, e6⟩ := hm
      have mG : m ≠ mainGlobals := fun z => by
        obtain ⟨o, es, ep, q, d, _⟩ := hns
        rw [← z, e3] at q
        cases q
        rw [e6] at d
        cases d
      have mT : m ≠ t.2 := fun z => by
        have q := T.at_
        rw [← z, e3] at q
        cases q
        cases e6
      exact ⟨m, om, e1, e2, mG, mT, hidT_get e3 (other e3 (fun us n z => Data.noConfusion (e6.symm.trans z)) (fun z => Data.noConfusion (e6.symm.trans z))), e4, e5, e6⟩
    · obtain ⟨o, es, ep, q, d, _⟩ := hns
      have q2 := T.at_
      rw [← z, q] at q2
      cases q2
      cases d
  have entry : Env0 P w K mg (hidT s₁.heap H) callerA [] s₁ H :=
    { frames := rfl, mod := room, bs := fun b o e => of_hidT e, bsz := Nat.le_of_eq (hidT_size _ _), funs := trivial, frf := fun b hm => (List.not_mem_nil hm).elim, hok := held, bare := .of_eq hg }
  apply codeAny_mono ((F _ written (spaces hns) codes).goes callerA [] s₁ H ⟨[.ref a], []⟩ [.ref a] [.ref a] _ _ (fun _ => rfl) hr entry (hbind s₁ (.ref a)) (.cons rfl .nil) hsp)
  intro res s' ends
  match res, ends with
  | .error er, ends => exact (hCX er s' ends).elim
  | .ok .next, ends => exact ends.elim
  | .ok .brk, ends => exact ends.elim
  | .ok .cont, ends => exact ends.elim
  | .ok (.ret u), ⟨v, H', os, bare, un, held', rv, q⟩ =>
    have q' : v = .bl true := q
    subst q'
    cases rv
    have stays : ∀ b o, s₁.heap.get? b = some o → (∀ c, (c, b) ∈ ts → False) → s'.heap.get? b = some o := by
      intro b o e no
      cases q : H b with
      | none => exact un.keep b o e q (fun z => (List.not_mem_nil z).elim) (fun z => (List.not_mem_nil z).elim)
      | some u =>
        rcases only b u q with ⟨_, _, ob, z⟩ | ⟨c, m⟩
        · rw [z] at q
          obtain ⟨x1, _⟩ := held b _ q
          obtain ⟨x2, _⟩ := held' b _ (un.frzs b ob _ q)
          rw [e] at x1
          cases x1
          exact x2
        · exact (no c m).elim
    have grows : ∀ t ∈ ts, ∃ more : Array Value, s'.heap.get? t.2 = some { cls := .none, data := .fields more } := fun t mt => by
      obtain ⟨more, z⟩ := un.tbls t.2 #[] (tr t mt)
      exact ⟨_, held' t.2 _ z⟩
    refine ⟨rfl, ⟨fun b o e => ?_, fun b o e => ?_⟩, os, bare⟩
    · by_cases m : ∃ c, (c, b) ∈ ts
      · obtain ⟨c, m⟩ := m
        obtain ⟨more, z⟩ := grows _ m
        have T := tb _ m
        have e2 := T.at_
        rw [e] at e2
        cases e2
        exact .inr (.inl ⟨(T.cd.tab T.at_).isCodeTable, rfl, #[], more, rfl, by rw [Array.empty_append]; exact z⟩)
      · exact .inl (stays b o e fun c n => m ⟨c, n⟩)
    · by_cases m : ∃ c, (c, b) ∈ ts
      · obtain ⟨c, m⟩ := m
        obtain ⟨more, z⟩ := grows _ m
        exact ⟨_, z⟩
      · exact ⟨o, stays b o e fun c n => m ⟨c, n⟩⟩
/-- the goal that the head leaves -/
theorem walkT {l : PySem.W.OpenLaw} {n k : Nat} {q : Program} {loose : List Str} {XP : (Str → Option Value) → Heap → Prop} {YP : World → Heap → Prop} {d : DefRec} {K : Params → PySem.W.Frag} {CX : World → CXT} {sp : World → Sp} {x : Str} {ts : List (Addr × Addr)}
    (hn : l.most = some n) (hn2 : n ≤ sizeLine) (hdf : d.params.defaults = []) (hr : Room k callerA) (hY : ∀ (w : World) (h : Heap), YP w h → (K w.params).In h ∧ ∀ t ∈ ts, TabAt (K w.params) h t)
    (F : ∀ (w : World) (mg : Str → Option Value) (fa : Addr) (h : Heap), (K w.params).In h → h.Ns mainGlobals mg → XP mg h → mg d.name = some (.ref fa) →
      ∃ fd : FuncData, (∀ (s : Shared) (u : Value), BindsTo s fd ⟨[u], []⟩ [(x, u)]) ∧ ∀ base : Heap, (K w.params).In base → base.Ns mainGlobals mg → (∀ t ∈ ts, LamX.TabB base mg t.1 t.2) → FnG l.prog w (K w.params) mg base (CX w) k fa fd [x] (sp w))
    (hsp : ∀ (w : World) (H : Hp) (a : Addr) (ns : List Int), ns.length ≤ n → SqL (K w.params) H a (ns.map V.int) → (∀ t ∈ ts, H t.2 = some (.tbl #[])) → sp w [.ref a] H (fun v _ => v = .bl true) fun _ _ _ => False)
    (hCX : ∀ (w : World) (H : Hp) (s : Shared) (e : Value) (s' : Shared), CX w [] H s (fun _ _ _ => False) e s' → False) :
    PySem.W.WalkO q loose XP YP l.row.toRowW d [] (fun f vs => PySem.call f vs) := by
  apply Att.attach_call hn hdf
  intro w s₀ s₁ mg mb fa o pm cd doc a vs ns G Y ho hd hcd hmg hobj hints hlen hg
  obtain ⟨KX, tb⟩ := hY w _ Y
  obtain ⟨fd, hb, hF⟩ := F w mg fa _ KX G.T.g (PySem.W.Ground.X G) hmg
  have rv := L2.vals_ints hints
  have lv := hints.length
  have hl : ns.length ≤ sizeLine := Nat.le_trans hlen hn2
  have noT : ∀ c, (c, a) ∈ ts → False := fun c m => by
    have e := (tb _ m).at_
    rw [hobj] at e
    cases e
  have tabbed : ∀ {c b : Addr}, (c, b) ∈ ts → b ∈ ts.map (·.2) := fun m => List.mem_map.mpr ⟨_, m, rfl⟩
  have untab : ∀ {b : Addr}, b ∈ ts.map (·.2) → ∃ c, (c, b) ∈ ts := fun {b} m => by
    obtain ⟨t, mt, e⟩ := List.mem_map.mp m
    exact ⟨t.1, by rw [← e]; exact mt⟩
  cases hk : (K w.params).lookup a with
  | some u =>
    have same := KX a u hk
    rw [hobj] at same
    cases same
    let H0 : Hp := fun b => if b ∈ ts.map (·.2) then some (.tbl #[]) else none
    have yes : ∀ {b : Addr}, b ∈ ts.map (·.2) → H0 b = some (.tbl #[]) := fun m => if_pos m
    have no : ∀ {b : Addr}, b ∉ ts.map (·.2) → H0 b = none := fun m => if_neg m
    have cases0 : ∀ b u, H0 b = some u → b ∈ ts.map (·.2) ∧ u = .tbl #[] := fun b u z => by
      by_cases m : b ∈ ts.map (·.2)
      · rw [yes m] at z
        exact ⟨m, (Option.some.inj z).symm⟩
      · rw [no m] at z
        cases z
    refine ends_tabs (H := H0) (L := []) KX G.T.g G.T.b G.T.builtins G.T.nolimit hg hobj hr tb G.T.bmain hF hb (hsp w H0 a ns hlen (.inr ⟨_, vs.toArray, _, hk, rfl, rfl, rfl, ?_, by simpa using rv⟩) fun t mt => yes (tabbed mt)) (hCX w H0 s₁) (fun b u z => .inr (untab (cases0 b u z).1)) (fun t mt => yes (tabbed mt)) ?_
    · rw [List.size_toArray, lv]
      exact hl
    · intro b u z
      obtain ⟨m, e⟩ := cases0 b u z
      obtain ⟨c, mc⟩ := untab m
      rw [e]
      exact (tb _ mc).at_
  | none =>
    let o : Obj := { cls := .type "list", data := .seq vs.toArray }
    let H1 : Hp := fun b => if b = a then some (HO.frz o (.lst (ns.map V.int))) else if b ∈ ts.map (·.2) then some (.tbl #[]) else none
    have there : H1 a = some (HO.frz o (.lst (ns.map V.int))) := if_pos rfl
    have yes : ∀ {b : Addr}, b ∈ ts.map (·.2) → H1 b = some (.tbl #[]) := fun {b} m => by
      have ne : b ≠ a := fun z => by
        obtain ⟨c, mc⟩ := untab m
        rw [z] at mc
        exact noT c mc
      exact (if_neg ne).trans (if_pos m)
    have cases1 : ∀ b u, H1 b = some u → (b = a ∧ u = HO.frz o (.lst (ns.map V.int))) ∨ (b ∈ ts.map (·.2) ∧ u = .tbl #[]) := fun b u z => by
      by_cases e : b = a
      · rw [e, there] at z
        exact .inl ⟨e, (Option.some.inj z).symm⟩
      · by_cases m : b ∈ ts.map (·.2)
        · rw [yes m] at z
          exact .inr ⟨m, (Option.some.inj z).symm⟩
        · have none_ : H1 b = none := (if_neg e).trans (if_neg m)
          rw [none_] at z
          cases z
    refine ends_tabs (H := H1) (L := ns.map V.int) KX G.T.g G.T.b G.T.builtins G.T.nolimit hg hobj hr tb G.T.bmain hF hb (hsp w H1 a ns hlen (.inl (.inr ⟨o, there⟩)) fun t mt => yes (tabbed mt)) (hCX w H1 s₁) ?_ (fun t mt => yes (tabbed mt)) ?_
    · intro b u z
      rcases cases1 b u z with ⟨e1, e2⟩ | ⟨m, _⟩
      · exact .inl ⟨e1, hk, _, e2⟩
      · exact .inr (untab m)
    · intro b u z
      rcases cases1 b u z with ⟨e1, e2⟩ | ⟨m, e⟩
      · rw [e1, e2]
        exact ⟨hobj, by rw [List.length_map]; exact hl, vs, _, rv, hobj⟩
      · obtain ⟨c, mc⟩ := untab m
        rw [e]
        exact (tb _ mc).at_
end Fw

/-! The end. -/
namespace Lx
open PySem PySem.Spec PyProof.Rows L2 Fw LamX
theorem two_tabs {H : Hp} {a b : Addr} {q r : Str} (ha : H a = some (.tbl #[])) (hb : H b = some (.tbl #[])) : Tabs [(a, q), (b, r)] H := by
  intro p m
  simp only [List.mem_cons, List.not_mem_nil, or_false] at m
  rcases m with rfl | rfl
  · exact .nil ha
  · exact .nil hb
theorem all_mk {l : PySem.W.OpenLaw} {w : World} {K : PySem.W.Frag} {mg : Str → Option Value} {fa flaw c1 c2 P1 P2 : Addr} (hfa : mg "law" = some (.ref fa)) (TX : ∃ T : TX K mg, T.f_law = flaw ∧ T.c__law_one_right = c1 ∧ T.c__law_pair_right = c2) (ne : P1 ≠ P2) :
    ∃ fd : FuncData, (∀ (s : Shared) (u : Value), BindsTo s fd ⟨[u], []⟩ [("_law_script", u)]) ∧ ∀ base : Heap, K.In base → base.Ns mainGlobals mg → (∀ t ∈ [(c1, P1), (c2, P2)], LamX.TabB base mg t.1 t.2) → FnG l.prog w K mg base CX0 18 fa fd ["_law_script"] (spLaw K [(P1, qOne), (P2, qPair)]) := by
  obtain ⟨T, e0, rfl, rfl⟩ := TX
  have e := hfa.symm.trans T.m_law
  cases e
  refine ⟨T.d_law, fun s u => ?_, fun base _ _ tb => T.q_law (Ts := [(P1, qOne), (P2, qPair)]) ⟨tb (_, P1) (by simp), by simp, fun p m e => ?_⟩ ⟨tb (_, P2) (by simp), by simp, fun p m e => ?_⟩⟩
  · obtain ⟨oc, od, kV, doc, pm, an, cdv, ct, osl, ef, _⟩ := T.F_law.ex
    rw [ef]
    exact .of_eq rfl
  · simp only [List.mem_cons, List.not_mem_nil, or_false] at m
    rcases m with rfl | rfl
    · rfl
    · exact absurd e.symm ne
  · simp only [List.mem_cons, List.not_mem_nil, or_false] at m
    rcases m with rfl | rfl
    · exact absurd e ne
    · rfl
end Lx

open PySem PySem.W PyProof.Rows in
set_option maxRecDepth 100000 in
set_option maxHeartbeats 0 in
theorem PySem.Challenge.cw_flatwebs_k03_whole_webs_changed_holds : PySem.Challenge.rw_flatwebs_k03_whole_webs_changed.Holds := by
  w_on; o_law; k_head; (case hw => w_witness2)
  k_fill
  refine Fw.walkT (l := PySem.Challenge.rw_flatwebs_k03_whole_webs_changed) (n := 63) (k := 18) (x := "_law_script") (CX := fun _ => L2.CX0) (sp := fun w => Lx.spLaw _ [(561, Lx.qOne), (566, Lx.qPair)]) (ts := [(?c1, 561), (?c2, 566)]) rfl (by decide) rfl ⟨rfl, by decide, by decide⟩ (fun w h Y => ⟨km_in_of Y, fun t m => ?Y⟩) ?F
    (fun w H a ns hl hS tr => ⟨a, ns, rfl, hS, hl, Lx.two_tabs (tr _ List.mem_cons_self) (tr _ (List.mem_cons_of_mem _ List.mem_cons_self)), fun _ => rfl⟩) (fun _ _ _ _ _ z => z)
  case F =>
    intro w mg fa h KX G hX hmg
    refine' Lx.all_mk (flaw := ?fl) (c1 := ?k1) (c2 := ?k2) hmg (Lx.mkTX (mc_Web := .type "type") KX G ?m_near_marks ?F_near_marks ?m_marked ?F_marked ?g_WebError ?kp_WebError ?hs_WebError ?ty_WebError ?xc_WebError ?g_InvalidPlace ?kp_InvalidPlace ?hs_InvalidPlace ?ty_InvalidPlace ?xc_InvalidPlace ?g_InvalidTie ?kp_InvalidTie ?hs_InvalidTie ?ty_InvalidTie ?xc_InvalidTie ?g_InvalidWeb ?kp_InvalidWeb ?hs_InvalidWeb ?ty_InvalidWeb ?xc_InvalidWeb ?g_InvalidOperation ?kp_InvalidOperation ?hs_InvalidOperation ?ty_InvalidOperation ?xc_InvalidOperation ?g_UnknownName ?kp_UnknownName ?hs_UnknownName ?ty_UnknownName ?g_TooMany ?kp_TooMany ?hs_TooMany ?ty_TooMany ?v_MAX_LETTERS ?m_is_name ?F_is_name ?m_are_names ?F_are_names ?m_are_different ?F_are_different ?m_is_ascending ?F_is_ascending ?m_has_keys ?F_has_keys ?m_is_naming ?F_is_naming ?v_MAX_PLACES ?v_MAX_TIES ?g_Web ?cl_Web ?isC_Web ?na_Web__places ?na_Web__ties ?na_Web__near ?F_Web___init__ ?mk_Web ?M_Web___init__ ?F_Web_of_ties ?CR_Web ?CM_Web_of_ties ?F_Web_places ?P_Web_places ?F_Web_ties ?P_Web_ties ?F_Web_lines ?P_Web_lines ?F_Web_neighbours ?M_Web_neighbours ?F_Web_is_tied ?M_Web_is_tied ?F_Web_with_tie ?M_Web_with_tie ?F_Web_without_tie ?M_Web_without_tie ?F_Web_with_place ?M_Web_with_place ?F_Web_without_places ?M_Web_without_places ?F_Web_drawn_together ?M_Web_drawn_together ?F_Web_renamed ?M_Web_renamed ?F_Web___add__ ?M_Web___add__ ?O_Web___add__ ?F_Web___sub__ ?M_Web___sub__ ?O_Web___sub__ ?OT_Web___sub__ ?F_Web___invert__ ?M_Web___invert__ ?F_Web___contains__ ?M_Web___contains__ ?F_Web___len__ ?M_Web___len__ ?F_Web___iter__ ?M_Web___iter__ ?F_Web___eq__ ?M_Web___eq__ ?OE_Web___eq__ ?F_Web___str__ ?M_Web___str__ ?m_full_web ?F_full_web ?m_ring_web ?F_ring_web ?m_need_places ?F_need_places ?m_gathered_web ?F_gathered_web ?m_web_on ?F_web_on ?m_is_web_of ?F_is_web_of ?m_is_tie ?F_is_tie ?m_pair_of ?F_pair_of ?m_all_pairs ?F_all_pairs ?m_ties_along ?F_ties_along ?m_ties_round ?F_ties_round ?m__are_places ?F__are_places ?m__are_ties ?F__are_ties ?m__law_dice ?F__law_dice ?m__law_roll ?F__law_roll ?m__law_pick ?F__law_pick ?m__law_mixed ?F__law_mixed ?m__law_tie ?F__law_tie ?m__law_plain ?F__law_plain ?m__law_made ?F__law_made ?m__law_pairs ?F__law_pairs ?m__law_beside ?F__law_beside ?m__law_names ?F__law_names ?m__law_images ?F__law_images ?m__law_renamed ?F__law_renamed ?m__law_random ?F__law_random ?m__law_written ?F__law_written ?m__law_told_web ?F__law_told_web ?m__law_asked ?F__law_asked ?m__law_checked ?F__law_checked ?m__law_kept ?F__law_kept ?m__law_one_right ?F__law_one_right ?k__law_one_right ?m__law_pair_right ?F__law_pair_right ?k__law_pair_right ?m__law_made_right ?F__law_made_right ?m_law ?F_law ?E_WebError_InvalidTie ?E_WebError_InvalidWeb ?E_WebError_TooMany ?E_InvalidPlace_InvalidTie ?E_InvalidPlace_InvalidWeb ?E_InvalidPlace_TooMany ?E_InvalidTie_InvalidTie ?E_InvalidTie_InvalidWeb ?E_InvalidTie_TooMany ?E_InvalidWeb_InvalidTie ?E_InvalidWeb_InvalidWeb ?E_InvalidWeb_TooMany ?E_InvalidOperation_InvalidTie ?E_InvalidOperation_InvalidWeb ?E_InvalidOperation_TooMany ?E_UnknownName_InvalidTie ?E_UnknownName_InvalidWeb ?E_UnknownName_TooMany ?E_TooMany_InvalidTie ?E_TooMany_InvalidWeb ?E_TooMany_TooMany ?n_int ?n_bool ?n_str ?n_tuple ?n_dict ?n_len ?n_all ?n_set ?n_sorted ?n_list ?n_enumerate ?n_zip ?n_range ?n_isinstance ?n_iter ?n_max ?n_min ?n_abs) (by decide)
    (case m_near_marks => k_is)
    (case F_near_marks => exact ⟨_, ⟨⟨_, _, _, _, _, _, _, _, _, rfl, by k_is, by k_is⟩, by k_is⟩⟩)
    (case m_marked => k_is)
    (case F_marked => exact ⟨_, ⟨⟨_, _, _, _, _, _, _, _, _, rfl, by k_is, by k_is⟩, by k_is⟩⟩)
    (case g_WebError => k_is)
    (case kp_WebError => k_is)
    (case hs_WebError => k_is)
    (case ty_WebError => k_is)
    (case xc_WebError => k_exc)
    (case g_InvalidPlace => k_is)
    (case kp_InvalidPlace => k_is)
    (case hs_InvalidPlace => k_is)
    (case ty_InvalidPlace => k_is)
    (case xc_InvalidPlace => k_exc)
    (case g_InvalidTie => k_is)
    (case kp_InvalidTie => k_is)
    (case hs_InvalidTie => k_is)
    (case ty_InvalidTie => k_is)
    (case xc_InvalidTie => k_exc)
    (case g_InvalidWeb => k_is)
    (case kp_InvalidWeb => k_is)
    (case hs_InvalidWeb => k_is)
    (case ty_InvalidWeb => k_is)
    (case xc_InvalidWeb => k_exc)
    (case g_InvalidOperation => k_is)
    (case kp_InvalidOperation => k_is)
    (case hs_InvalidOperation => k_is)
    (case ty_InvalidOperation => k_is)
    (case xc_InvalidOperation => k_exc)
    (case g_UnknownName => k_is)
    (case kp_UnknownName => k_is)
    (case hs_UnknownName => k_is)
    (case ty_UnknownName => k_is)
    (case g_TooMany => k_is)
    (case kp_TooMany => k_is)
    (case hs_TooMany => k_is)
    (case ty_TooMany => k_is)
    (case v_MAX_LETTERS => exact ⟨_, by k_is⟩)
    (case m_is_name => k_is)
    (case F_is_name => exact ⟨_, ⟨⟨_, _, _, _, _, _, _, _, _, rfl, by k_is, by k_is⟩, by k_is⟩⟩)
    (case m_are_names => k_is)
    (case F_are_names => exact ⟨_, ⟨⟨_, _, _, _, _, _, _, _, _, rfl, by k_is, by k_is⟩, by k_is⟩⟩)
    (case m_are_different => k_is)
    (case F_are_different => exact ⟨_, ⟨⟨_, _, _, _, _, _, _, _, _, rfl, by k_is, by k_is⟩, by k_is⟩⟩)
    (case m_is_ascending => k_is)
    (case F_is_ascending => exact ⟨_, ⟨⟨_, _, _, _, _, _, _, _, _, rfl, by k_is, by k_is⟩, by k_is⟩⟩)
    (case m_has_keys => k_is)
    (case F_has_keys => exact ⟨_, ⟨⟨_, _, _, _, _, _, _, _, _, rfl, by k_is, by k_is⟩, by k_is⟩⟩)
    (case m_is_naming => k_is)
    (case F_is_naming => exact ⟨_, ⟨⟨_, _, _, _, _, _, _, _, _, rfl, by k_is, by k_is⟩, by k_is⟩⟩)
    (case v_MAX_PLACES => exact ⟨_, by k_is⟩)
    (case v_MAX_TIES => exact ⟨_, by k_is⟩)
    (case g_Web => k_is)
    (case cl_Web => exact ⟨by k_is, by k_is, by k_is, by k_is⟩)
    (case isC_Web => exact ⟨⟨by k_is, by k_is, by k_is, by k_is⟩, by k_is, by k_is, by k_is, by k_is, by kernel_rfl⟩)
    (case na_Web__places => unfold L2.NoAttr; k_is)
    (case na_Web__ties => unfold L2.NoAttr; k_is)
    (case na_Web__near => unfold L2.NoAttr; k_is)
    (case mk_Web => exact ⟨by k_is, by k_is, by k_is, by k_is⟩)
    (case M_Web___init__ => exact ⟨by k_is, by k_is, by k_is⟩)
    (case F_Web___init__ => exact ⟨_, ⟨⟨_, _, _, _, _, _, _, _, _, rfl, by k_is, by k_is⟩, by k_is⟩⟩)
    (case CR_Web => exact ⟨by k_is, by k_is⟩)
    (case CM_Web_of_ties => exact ⟨by k_is, ⟨_, by k_is⟩, by k_is⟩)
    (case F_Web_of_ties => exact ⟨_, ⟨⟨_, _, _, _, _, _, _, _, _, rfl, by k_is, by k_is⟩, by k_is⟩⟩)
    (case P_Web_places => exact ⟨by k_is, by k_is, by k_is, ⟨_, by k_is⟩⟩)
    (case F_Web_places => exact ⟨_, ⟨⟨_, _, _, _, _, _, _, _, _, rfl, by k_is, by k_is⟩, by k_is⟩⟩)
    (case P_Web_ties => exact ⟨by k_is, by k_is, by k_is, ⟨_, by k_is⟩⟩)
    (case F_Web_ties => exact ⟨_, ⟨⟨_, _, _, _, _, _, _, _, _, rfl, by k_is, by k_is⟩, by k_is⟩⟩)
    (case P_Web_lines => exact ⟨by k_is, by k_is, by k_is, ⟨_, by k_is⟩⟩)
    (case F_Web_lines => exact ⟨_, ⟨⟨_, _, _, _, _, _, _, _, _, rfl, by k_is, by k_is⟩, by k_is⟩⟩)
    (case M_Web_neighbours => exact ⟨by k_is, by k_is, by k_is⟩)
    (case F_Web_neighbours => exact ⟨_, ⟨⟨_, _, _, _, _, _, _, _, _, rfl, by k_is, by k_is⟩, by k_is⟩⟩)
    (case M_Web_is_tied => exact ⟨by k_is, by k_is, by k_is⟩)
    (case F_Web_is_tied => exact ⟨_, ⟨⟨_, _, _, _, _, _, _, _, _, rfl, by k_is, by k_is⟩, by k_is⟩⟩)
    (case M_Web_with_tie => exact ⟨by k_is, by k_is, by k_is⟩)
    (case F_Web_with_tie => exact ⟨_, ⟨⟨_, _, _, _, _, _, _, _, _, rfl, by k_is, by k_is⟩, by k_is⟩⟩)
    (case M_Web_without_tie => exact ⟨by k_is, by k_is, by k_is⟩)
    (case F_Web_without_tie => exact ⟨_, ⟨⟨_, _, _, _, _, _, _, _, _, rfl, by k_is, by k_is⟩, by k_is⟩⟩)
    (case M_Web_with_place => exact ⟨by k_is, by k_is, by k_is⟩)
    (case F_Web_with_place => exact ⟨_, ⟨⟨_, _, _, _, _, _, _, _, _, rfl, by k_is, by k_is⟩, by k_is⟩⟩)
    (case M_Web_without_places => exact ⟨by k_is, by k_is, by k_is⟩)
    (case F_Web_without_places => exact ⟨_, ⟨⟨_, _, _, _, _, _, _, _, _, rfl, by k_is, by k_is⟩, by k_is⟩⟩)
    (case M_Web_drawn_together => exact ⟨by k_is, by k_is, by k_is⟩)
    (case F_Web_drawn_together => exact ⟨_, ⟨⟨_, _, _, _, _, _, _, _, _, rfl, by k_is, by k_is⟩, by k_is⟩⟩)
    (case M_Web_renamed => exact ⟨by k_is, by k_is, by k_is⟩)
    (case F_Web_renamed => exact ⟨_, ⟨⟨_, _, _, _, _, _, _, _, _, rfl, by k_is, by k_is⟩, by k_is⟩⟩)
    (case M_Web___add__ => exact ⟨by k_is, by k_is, by k_is⟩)
    (case F_Web___add__ => exact ⟨_, ⟨⟨_, _, _, _, _, _, _, _, _, rfl, by k_is, by k_is⟩, by k_is⟩⟩)
    (case O_Web___add__ => exact ⟨by k_is, by k_is, by k_is, by k_is⟩)
    (case M_Web___sub__ => exact ⟨by k_is, by k_is, by k_is⟩)
    (case F_Web___sub__ => exact ⟨_, ⟨⟨_, _, _, _, _, _, _, _, _, rfl, by k_is, by k_is⟩, by k_is⟩⟩)
    (case O_Web___sub__ => exact ⟨by k_is, by k_is, by k_is, by k_is⟩)
    (case OT_Web___sub__ => exact ⟨by k_is, by k_is, by k_is⟩)
    (case M_Web___invert__ => exact ⟨by k_is, by k_is, by k_is⟩)
    (case F_Web___invert__ => exact ⟨_, ⟨⟨_, _, _, _, _, _, _, _, _, rfl, by k_is, by k_is⟩, by k_is⟩⟩)
    (case M_Web___contains__ => exact ⟨by k_is, by k_is, by k_is⟩)
    (case F_Web___contains__ => exact ⟨_, ⟨⟨_, _, _, _, _, _, _, _, _, rfl, by k_is, by k_is⟩, by k_is⟩⟩)
    (case M_Web___len__ => exact ⟨by k_is, by k_is, by k_is⟩)
    (case F_Web___len__ => exact ⟨_, ⟨⟨_, _, _, _, _, _, _, _, _, rfl, by k_is, by k_is⟩, by k_is⟩⟩)
    (case M_Web___iter__ => exact ⟨by k_is, by k_is, by k_is⟩)
    (case F_Web___iter__ => exact ⟨_, ⟨⟨_, _, _, _, _, _, _, _, _, rfl, by k_is, by k_is⟩, by k_is⟩⟩)
    (case M_Web___eq__ => exact ⟨by k_is, by k_is, by k_is⟩)
    (case F_Web___eq__ => exact ⟨_, ⟨⟨_, _, _, _, _, _, _, _, _, rfl, by k_is, by k_is⟩, by k_is⟩⟩)
    (case OE_Web___eq__ => exact ⟨by k_is, by k_is, by k_is, by k_is⟩)
    (case M_Web___str__ => exact ⟨by k_is, by k_is, by k_is⟩)
    (case F_Web___str__ => exact ⟨_, ⟨⟨_, _, _, _, _, _, _, _, _, rfl, by k_is, by k_is⟩, by k_is⟩⟩)
    (case m_full_web => k_is)
    (case F_full_web => exact ⟨_, ⟨⟨_, _, _, _, _, _, _, _, _, rfl, by k_is, by k_is⟩, by k_is⟩⟩)
    (case m_ring_web => k_is)
    (case F_ring_web => exact ⟨_, ⟨⟨_, _, _, _, _, _, _, _, _, rfl, by k_is, by k_is⟩, by k_is⟩⟩)
    (case m_need_places => k_is)
    (case F_need_places => exact ⟨_, ⟨⟨_, _, _, _, _, _, _, _, _, rfl, by k_is, by k_is⟩, by k_is⟩⟩)
    (case m_gathered_web => k_is)
    (case F_gathered_web => exact ⟨_, ⟨⟨_, _, _, _, _, _, _, _, _, rfl, by k_is, by k_is⟩, by k_is⟩⟩)
    (case m_web_on => k_is)
    (case F_web_on => exact ⟨_, ⟨⟨_, _, _, _, _, _, _, _, _, rfl, by k_is, by k_is⟩, by k_is⟩⟩)
    (case m_is_web_of => k_is)
    (case F_is_web_of => exact ⟨_, ⟨⟨_, _, _, _, _, _, _, _, _, rfl, by k_is, by k_is⟩, by k_is⟩⟩)
    (case m_is_tie => k_is)
    (case F_is_tie => exact ⟨_, ⟨⟨_, _, _, _, _, _, _, _, _, rfl, by k_is, by k_is⟩, by k_is⟩⟩)
    (case m_pair_of => k_is)
    (case F_pair_of => exact ⟨_, ⟨⟨_, _, _, _, _, _, _, _, _, rfl, by k_is, by k_is⟩, by k_is⟩⟩)
    (case m_all_pairs => k_is)
    (case F_all_pairs => exact ⟨_, ⟨⟨_, _, _, _, _, _, _, _, _, rfl, by k_is, by k_is⟩, by k_is⟩⟩)
    (case m_ties_along => k_is)
    (case F_ties_along => exact ⟨_, ⟨⟨_, _, _, _, _, _, _, _, _, rfl, by k_is, by k_is⟩, by k_is⟩⟩)
    (case m_ties_round => k_is)
    (case F_ties_round => exact ⟨_, ⟨⟨_, _, _, _, _, _, _, _, _, rfl, by k_is, by k_is⟩, by k_is⟩⟩)
    (case m__are_places => k_is)
    (case F__are_places => exact ⟨_, ⟨⟨_, _, _, _, _, _, _, _, _, rfl, by k_is, by k_is⟩, by k_is⟩⟩)
    (case m__are_ties => k_is)
    (case F__are_ties => exact ⟨_, ⟨⟨_, _, _, _, _, _, _, _, _, rfl, by k_is, by k_is⟩, by k_is⟩⟩)
    (case m__law_dice => k_is)
    (case F__law_dice => exact ⟨_, ⟨⟨_, _, _, _, _, _, _, _, _, rfl, by k_is, by k_is⟩, by k_is⟩⟩)
    (case m__law_roll => k_is)
    (case F__law_roll => exact ⟨_, ⟨⟨_, _, _, _, _, _, _, _, _, rfl, by k_is, by k_is⟩, by k_is⟩⟩)
    (case m__law_pick => k_is)
    (case F__law_pick => exact ⟨_, ⟨⟨_, _, _, _, _, _, _, _, _, rfl, by k_is, by k_is⟩, by k_is⟩⟩)
    (case m__law_mixed => k_is)
    (case F__law_mixed => exact ⟨_, ⟨⟨_, _, _, _, _, _, _, _, _, rfl, by k_is, by k_is⟩, by k_is⟩⟩)
    (case m__law_tie => k_is)
    (case F__law_tie => exact ⟨_, ⟨⟨_, _, _, _, _, _, _, _, _, rfl, by k_is, by k_is⟩, by k_is⟩⟩)
    (case m__law_plain => k_is)
    (case F__law_plain => exact ⟨_, ⟨⟨_, _, _, _, _, _, _, _, _, rfl, by k_is, by k_is⟩, by k_is⟩⟩)
    (case m__law_made => k_is)
    (case F__law_made => exact ⟨_, ⟨⟨_, _, _, _, _, _, _, _, _, rfl, by k_is, by k_is⟩, by k_is⟩⟩)
    (case m__law_pairs => k_is)
    (case F__law_pairs => exact ⟨_, ⟨⟨_, _, _, _, _, _, _, _, _, rfl, by k_is, by k_is⟩, by k_is⟩⟩)
    (case m__law_beside => k_is)
    (case F__law_beside => exact ⟨_, ⟨⟨_, _, _, _, _, _, _, _, _, rfl, by k_is, by k_is⟩, by k_is⟩⟩)
    (case m__law_names => k_is)
    (case F__law_names => exact ⟨_, ⟨⟨_, _, _, _, _, _, _, _, _, rfl, by k_is, by k_is⟩, by k_is⟩⟩)
    (case m__law_images => k_is)
    (case F__law_images => exact ⟨_, ⟨⟨_, _, _, _, _, _, _, _, _, rfl, by k_is, by k_is⟩, by k_is⟩⟩)
    (case m__law_renamed => k_is)
    (case F__law_renamed => exact ⟨_, ⟨⟨_, _, _, _, _, _, _, _, _, rfl, by k_is, by k_is⟩, by k_is⟩⟩)
    (case m__law_random => k_is)
    (case F__law_random => exact ⟨_, ⟨⟨_, _, _, _, _, _, _, _, _, rfl, by k_is, by k_is⟩, by k_is⟩⟩)
    (case m__law_written => k_is)
    (case F__law_written => exact ⟨_, ⟨⟨_, _, _, _, _, _, _, _, _, rfl, by k_is, by k_is⟩, by k_is⟩⟩)
    (case m__law_told_web => k_is)
    (case F__law_told_web => exact ⟨_, ⟨⟨_, _, _, _, _, _, _, _, _, rfl, by k_is, by k_is⟩, by k_is⟩⟩)
    (case m__law_asked => k_is)
    (case F__law_asked => exact ⟨_, ⟨⟨_, _, _, _, _, _, _, _, _, rfl, by k_is, by k_is⟩, by k_is⟩⟩)
    (case m__law_checked => k_is)
    (case F__law_checked => exact ⟨_, ⟨⟨_, _, _, _, _, _, _, _, _, rfl, by k_is, by k_is⟩, by k_is⟩⟩)
    (case m__law_kept => k_is)
    (case F__law_kept => exact ⟨_, ⟨⟨_, _, _, _, _, _, _, _, _, rfl, by k_is, by k_is⟩, by k_is⟩⟩)
    (case m__law_one_right => k_is)
    (case F__law_one_right => exact ⟨_, ⟨_, _, _, _, _, _, _, _, rfl, by k_is, by k_is⟩⟩)
    (case k__law_one_right => k_is)
    (case m__law_pair_right => k_is)
    (case F__law_pair_right => exact ⟨_, ⟨_, _, _, _, _, _, _, _, rfl, by k_is, by k_is⟩⟩)
    (case k__law_pair_right => k_is)
    (case m__law_made_right => k_is)
    (case F__law_made_right => exact ⟨_, ⟨⟨_, _, _, _, _, _, _, _, _, rfl, by k_is, by k_is⟩, by k_is⟩⟩)
    (case m_law => k_is)
    (case F_law => exact ⟨_, ⟨⟨_, _, _, _, _, _, _, _, _, rfl, by k_is, by k_is⟩, by k_is⟩⟩)
    (case E_WebError_InvalidTie => exact PySem.W.exm_ref (by k_is) (by k_is) (by k_is) (by k_is))
    (case E_WebError_InvalidWeb => exact PySem.W.exm_ref (by k_is) (by k_is) (by k_is) (by k_is))
    (case E_WebError_TooMany => exact PySem.W.exm_ref (by k_is) (by k_is) (by k_is) (by k_is))
    (case E_InvalidPlace_InvalidTie => exact PySem.W.exm_ref (by k_is) (by k_is) (by k_is) (by k_is))
    (case E_InvalidPlace_InvalidWeb => exact PySem.W.exm_ref (by k_is) (by k_is) (by k_is) (by k_is))
    (case E_InvalidPlace_TooMany => exact PySem.W.exm_ref (by k_is) (by k_is) (by k_is) (by k_is))
    (case E_InvalidTie_InvalidTie => exact PySem.W.exm_ref (by k_is) (by k_is) (by k_is) (by k_is))
    (case E_InvalidTie_InvalidWeb => exact PySem.W.exm_ref (by k_is) (by k_is) (by k_is) (by k_is))
    (case E_InvalidTie_TooMany => exact PySem.W.exm_ref (by k_is) (by k_is) (by k_is) (by k_is))
    (case E_InvalidWeb_InvalidTie => exact PySem.W.exm_ref (by k_is) (by k_is) (by k_is) (by k_is))
    (case E_InvalidWeb_InvalidWeb => exact PySem.W.exm_ref (by k_is) (by k_is) (by k_is) (by k_is))
    (case E_InvalidWeb_TooMany => exact PySem.W.exm_ref (by k_is) (by k_is) (by k_is) (by k_is))
    (case E_InvalidOperation_InvalidTie => exact PySem.W.exm_ref (by k_is) (by k_is) (by k_is) (by k_is))
    (case E_InvalidOperation_InvalidWeb => exact PySem.W.exm_ref (by k_is) (by k_is) (by k_is) (by k_is))
    (case E_InvalidOperation_TooMany => exact PySem.W.exm_ref (by k_is) (by k_is) (by k_is) (by k_is))
    (case E_UnknownName_InvalidTie => exact PySem.W.exm_ref (by k_is) (by k_is) (by k_is) (by k_is))
    (case E_UnknownName_InvalidWeb => exact PySem.W.exm_ref (by k_is) (by k_is) (by k_is) (by k_is))
    (case E_UnknownName_TooMany => exact PySem.W.exm_ref (by k_is) (by k_is) (by k_is) (by k_is))
    (case E_TooMany_InvalidTie => exact PySem.W.exm_ref (by k_is) (by k_is) (by k_is) (by k_is))
    (case E_TooMany_InvalidWeb => exact PySem.W.exm_ref (by k_is) (by k_is) (by k_is) (by k_is))
    (case E_TooMany_TooMany => exact PySem.W.exm_ref (by k_is) (by k_is) (by k_is) (by k_is))
    (case n_int => k_is)
    (case n_bool => k_is)
    (case n_str => k_is)
    (case n_tuple => k_is)
    (case n_dict => k_is)
    (case n_len => k_is)
    (case n_all => k_is)
    (case n_set => k_is)
    (case n_sorted => k_is)
    (case n_list => k_is)
    (case n_enumerate => k_is)
    (case n_zip => k_is)
    (case n_range => k_is)
    (case n_isinstance => k_is)
    (case n_iter => k_is)
    (case n_max => k_is)
    (case n_min => k_is)
    (case n_abs => k_is)
  case Y =>
    have KX := km_in_of Y
    have KT := km_tabs_of Y
    rcases List.mem_cons.mp m with rfl | m
    · exact ⟨KT 561 (by simp), by kernel_rfl, codeHd_of_K KX (by kernel_rfl)⟩
    · rw [List.mem_singleton.mp m]
      exact ⟨KT 566 (by simp), by kernel_rfl, codeHd_of_K KX (by kernel_rfl)⟩
