import PyProof.Rows.All
import Wide.All
import OpenK.AllK
import Wide.FinOn
import HandS.ForMost
import HandS.ForExc
import HandS.TryMany
import HandS.ExcValue
import HandS.ExcField
import HandS.ExcInit
import HandS.IsInst
import HandS.Wide
import HandS.Style
import KE.KExcIs
import HandS.ExcIs
import PyProof.ReprRoads
import PyProof.StrOps2
import HandS.Ends
import PyProof.ExcBaseAll.LookupError
import PyProof.ExcBaseAll.IndexError
import PyProof.ExcBaseAll.RuntimeError
import PyProof.ExcBaseAll.OverflowError
import PyProof.ExcBaseAll.ArithmeticError
import PyProof.ExcBaseAll.ValueError
import HandS.HotCalls
import PySem.Challenge.RW_flatwebs_k01_errors_and_what_they_keep
set_option Elab.async false
set_option linter.all false
set_option maxRecDepth 100000
set_option maxHeartbeats 8000000
/-! Rules of our own over the hand layer: text times a truth, errors held as values (made, asked, read), repr of data. -/
namespace Fw
open PySem PySem.Spec PyProof.Rows L2

/-! ### 'a' * int(test) -/
theorem op_mulS {X : Cx} : OpR X (binaryOp .Mult) (fun x y H Q => ∃ z k, x = .str z ∧ y = .int (if k = true then 1 else 0) ∧ Q (.str (if k = true then z else Str.empty)) H) := by
  intro pins s σ H x y v u Q I rx ry h
  obtain ⟨z, k, rfl, rfl, q⟩ := h
  obtain ⟨t, rfl⟩ := rx
  obtain ⟨t', rfl⟩ := ry
  cases k with
  | false => exact PySem.P.mul_str_none (by decide) (by decide) ⟨.str Str.empty, H, I.tok _, ⟨_, rfl⟩, q⟩
  | true =>
    refine PySem.P.mul_str (by decide) (fun _ h => ?_) (fun _ h => ?_) ?_
    · exact absurd h (by simp)
    · exact absurd h (by simp)
    · rw [if_neg (by decide)]
      exact ⟨.str z, H, I, ⟨t, rfl⟩, q⟩

/-! ### an error that is held as a value -/
/-- an error with a dict of its own at d, not raised yet, at a -/
def ExD (D a d : Addr) : HO := .ext fun h => ∃ (oe : Obj) (vs : Array Value), h.get? a = some oe ∧ Zc (.ref D) (some d) oe ∧ oe.data = .fields vs ∧ vs[1]? = some .none ∧ 4 < vs.size
theorem exD_ok {P : Program} {w : World} {H : Hp} {h : Heap} {a D d : Addr} {oe : Obj} {vs : Array Value} (e : h.get? a = some oe) (z : Zc (.ref D) (some d) oe) (f : oe.data = .fields vs) (h1 : vs[1]? = some .none) (h5 : 4 < vs.size) : ObjOk P w H h a (ExD D a d) :=
  ⟨⟨oe, vs, e, z, f, h1, h5⟩, ⟨oe, e⟩, fun _ _ ⟨o, v, q, r⟩ k => ⟨o, v, k o q, r⟩⟩
/-- at a stands an error of the class at D -/
def IsErr (H : Hp) (a D : Addr) : Prop := H a = some (ExO (.ref D) a) ∨ ∃ (d : Addr) (fs : List (Str × V)), H a = some (ExD D a d) ∧ H d = some (.xd fs)
theorem IsErr.same {H H' : Hp} {a D : Addr} (h : IsErr H a D) (s : Same H H') : IsErr H' a D := by
  rcases h with h | ⟨d, fs, h1, h2⟩
  · exact .inl (s _ _ h)
  · exact .inr ⟨d, fs, s _ _ h1, s _ _ h2⟩

/-- .. or it is the one that is handled here -/
def Ers (X : Cx) (H : Hp) (a D : Addr) : Prop := IsErr H a D ∨ ∃ (oe : Obj) (vs : Array Value), (a, oe) ∈ X.pn ∧ Zc (.ref D) none oe ∧ oe.data = .fields vs
section
variable {X : Cx} {pins : List (Addr × Obj)} {σ : L2.St} {H : Hp} {s : Shared}
theorem inst_of {a D : Addr} (I : Inv X pins σ H s) (h : Ers X H a D) : ∃ oe od, PySem.W.InstAt s.heap a oe D od := by
  rcases h with (h | ⟨d, fs, h, hd⟩) | ⟨oe, vs, hm, z, f⟩
  · obtain ⟨⟨oe, vs, e, z, f, _⟩, _, _⟩ := I.hok a _ h
    exact ⟨oe, none, ⟨e, z.1, by unfold PySem.W.notCls; rw [f] <;> rfl, by rw [z.2]; trivial⟩⟩
  · obtain ⟨⟨oe, vs, e, z, f, _⟩, _, _⟩ := I.hok a _ h
    have hx : ObjOk X.prog X.w H s.heap d (.xd fs) := I.hok d _ hd
    obtain ⟨mA, ⟨o, es, ep, ho, _⟩, _⟩ := hx
    exact ⟨oe, some o, ⟨e, z.1, by unfold PySem.W.notCls; rw [f] <;> rfl, by rw [z.2]; exact ho⟩⟩
  · exact ⟨oe, none, ⟨(I.pin (a, oe) (List.mem_append_left _ hm)).1, z.1, by unfold PySem.W.notCls; rw [f] <;> rfl, by rw [z.2]; trivial⟩⟩
end

/-- isinstance(e, c), e an error that is held -/
def rIsH (X : Cx) : List V → Hp → VK → Prop := fun xs H Q => ∃ (a D : Addr) (c : V) (cv : Value) (b : Bool), xs = [.ref a, c] ∧ Ers X H a D ∧ L2.ExcC X.K D ∧ ClsV c cv ∧ PySem.W.kitOne X.K (.ref D) cv = some b ∧ Q (.bl b) H
theorem call_isH {X : Cx} : CallR X (.builtin "isinstance") (rIsH X) := by
  intro pins s σ H xs us Q I r h
  obtain ⟨a, D, c, cv, b, rfl, he, C, hc, e, q⟩ := h
  obtain ⟨u1, u2, rfl, r1, r2⟩ := vals2 r
  cases (show u1 = Value.ref a from r1)
  have e2 := hc.eq r2
  subst e2
  obtain ⟨oe, od, J⟩ := inst_of I he
  have hcl : (PySem.W.clsIn X.K D).isSome = true := by
    obtain ⟨cd, hcd, _⟩ := PySem.W.any_some C.hd
    rw [hcd]
    rfl
  exact PySem.W.kia_one (PySem.W.kitx_exc hcl C.hg C.hk C.hs C.ha C.hn C.ht C.hm) I.kIn J e (fun z => nomatch z) fun tk => ⟨.bl b, H, I.tok tk, rfl, q⟩

/-! ### repr of data -/
/-- x stands for the data d, whatever the heap below, also when more is laid -/
def Rp (K : PySem.W.Frag) (H : Hp) (x : V) (d : PyData) : Prop := ∀ (H' : Hp) (X : Cx) (pins : List (Addr × Obj)) (σ : L2.St) (s : Shared) (u : Value), Same H H' → X.K = K → Inv X pins σ H' s → RelV x u →
  ∃ as, Reads s.heap u d as ∧ sysModules ∉ as
def RpAll (K : PySem.W.Frag) (H : Hp) (xs : List V) (ds : List PyData) : Prop := ∀ (H' : Hp) (X : Cx) (pins : List (Addr × Obj)) (σ : L2.St) (s : Shared) (us : List Value), Same H H' → X.K = K → Inv X pins σ H' s → Vals xs us →
  ∃ as, ReadsAll s.heap us ds as ∧ sysModules ∉ as
section
variable {K : PySem.W.Frag} {H H' : Hp}
theorem Rp.same {x : V} {d : PyData} (h : Rp K H x d) (s : Same H H') : Rp K H' x d := fun H2 X pins σ z u s2 => h H2 X pins σ z u (fun b o e => s2 b o (s b o e))
theorem Rp.non : Rp K H .non .none := fun _ X pins σ s u _ _ I r => by
  cases r
  exact ⟨_, Reads.none, by intro h; cases h⟩
theorem Rp.bl (b : Bool) : Rp K H (.bl b) (.bool b) := fun _ X pins σ s u _ _ I r => by
  cases r
  exact ⟨_, Reads.bool b, by intro h; cases h⟩
theorem Rp.int (i : Int) : Rp K H (.int i) (.int i) := fun _ X pins σ s u _ _ I r => by
  obtain ⟨t, rfl⟩ := r
  exact ⟨_, Reads.int i t, by intro h; cases h⟩
theorem Rp.str (x : Str) : Rp K H (.str x) (.str x) := fun _ X pins σ s u _ _ I r => by
  obtain ⟨t, rfl⟩ := r
  exact ⟨_, Reads.str x t, by intro h; cases h⟩
theorem RpAll.nil : RpAll K H [] [] := fun _ X pins σ s us _ _ I r => by
  cases r
  exact ⟨_, ReadsAll.nil, by intro h; cases h⟩
theorem RpAll.cons {x : V} {xs : List V} {d : PyData} {ds : List PyData} (h : Rp K H x d) (t : RpAll K H xs ds) : RpAll K H (x :: xs) (d :: ds) := fun H' X pins σ s us sm e I r => by
  cases r with
  | cons r1 r2 =>
    obtain ⟨as, q1, n1⟩ := h H' X pins σ s _ sm e I r1
    obtain ⟨bs, q2, n2⟩ := t H' X pins σ s _ sm e I r2
    exact ⟨_, ReadsAll.cons q1 q2, fun m => (List.mem_append.mp m).elim n1 n2⟩
theorem Rp.lst {a : Addr} {xs : List V} {ds : List PyData} (hs : a ≠ sysModules) (h : SqL K H a xs) (t : RpAll K H xs ds) : Rp K H (.ref a) (.list ds) := fun H' X pins σ s u sm e I r => by
  cases r
  subst e
  obtain ⟨its, rv, ⟨o, n, ho, hc, _, hd⟩, _⟩ := I.list (sm.seq h)
  obtain ⟨as, hr, hn⟩ := t H' X pins σ s its sm rfl I rv
  refine ⟨_, Reads.list ho hc hd hr, fun m => ?_⟩
  rcases List.mem_cons.mp m with z | z
  · exact hs z.symm
  · exact hn z
theorem Rp.tup {a : Addr} {xs : List V} {ds : List PyData} (h : H a = some (.tup xs)) (t : RpAll K H xs ds) : Rp K H (.ref a) (.tuple ds) := fun H' X pins σ s u sm e I r => by
  cases r
  subst e
  obtain ⟨its, rv, ⟨o, ho, hc, n, hd⟩, _⟩ := I.tuple (SqT.of (sm _ _ h))
  obtain ⟨as, hr, hn⟩ := t H' X pins σ s its sm rfl I rv
  exact ⟨_, Reads.tuple ho hc hd hr, hn⟩
end
/-- repr of data, where no other repr is under way -/
theorem call_repr {X : Cx} {K : PySem.W.Frag} (hK : X.K = K) (hg : X.A.guards = some []) (hu : X.A.units + 64 < cLine) :
    CallR X (.builtin "repr") (fun xs H Q => ∃ (x : V) (d : PyData), xs = [x] ∧ Rp K H x d ∧ d.showable = true ∧ d.depth ≤ 40 ∧ d.shown.length ≤ sizeLine ∧ Q (.str d.shown) H) := by
  intro pins s σ H xs us Q I r h
  obtain ⟨x, d, rfl, hr, hs, hd, hz, q⟩ := h
  obtain ⟨u, rfl, rx⟩ := vals1 r
  obtain ⟨as, hR, hn⟩ := hr H X pins σ s u (fun _ _ e => e) hK I rx
  cases hR with
  | none => exact PySem.P.repr_of_none ⟨.str "None", H, I.tok _, ⟨_, rfl⟩, q⟩
  | bool b =>
    refine PySem.P.repr_of_bool ⟨.str (if b then "True" else "False"), H, I.tok _, ⟨_, rfl⟩, ?_⟩
    cases b <;> exact q
  | int i t => exact PySem.P.repr_of_int (by simpa [PyData.showable] using hs) ⟨.str (toString i), H, I.tok _, ⟨_, rfl⟩, q⟩
  | str y t => exact PySem.P.repr_of_str ⟨.str (reprText y), H, I.tok _, ⟨_, rfl⟩, q⟩ hz
  | list h1 h2 h3 h4 =>
    exact PySem.repr_of_reads' (h₀ := s.heap) (Reads.list h1 h2 h3 h4) hs (fun _ => hn) hg (by omega) (fun _ _ e => e) (fun h' t tk k => ⟨.str _, H, I.kept k, ⟨t, rfl⟩, q⟩) hz
  | tuple h1 h2 h3 h4 =>
    exact PySem.repr_of_reads' (h₀ := s.heap) (Reads.tuple h1 h2 h3 h4) hs (fun _ => hn) hg (by omega) (fun _ _ e => e) (fun h' t tk k => ⟨.str _, H, I.kept k, ⟨t, rfl⟩, q⟩) hz
  | dict h1 h2 h3 h4 h5 =>
    exact PySem.repr_of_reads' (h₀ := s.heap) (Reads.dict h1 h2 h3 h4 h5) hs (fun _ => hn) hg (by omega) (fun _ _ e => e) (fun h' t tk k => ⟨.str _, H, I.kept k, ⟨t, rfl⟩, q⟩) hz

/-! ### defs that are called while no repr is under way -/
structure FnG (P : Program) (w : World) (K : PySem.W.Frag) (mg : Str → Option Value) (base : Heap) (CX : CXT) (k : Nat) (f : Addr) (fd : FuncData) (ps : List Str) (sp : Sp) : Prop where
  wide : ∀ vs H Q E, sp vs H Q E → vs.length = ps.length
  goes : ∀ (A : Around) (fr : List Env) (s : Shared) (H : Hp) (ar : Args) (us : List Value) (vs : List V) (Q : VK) (E : XK),
    A.guards = some [] → Room k A → Env0 P w K mg base A fr s H → BindsTo s fd ar (ps.zip us) → Vals vs us → sp vs H Q E →
      codeAny (model P w) A (.call (.ref f) ar) (CR CX fr P w H s Q E) s
section
variable {P : Program} {w : World} {K : PySem.W.Frag} {mg : Str → Option Value} {base : Heap} {CX : CXT} {k : Nat} {f : Addr} {fd : FuncData} {ps : List Str} {sp : Sp}
theorem FnG.of (F : FnOk P w K mg base CX k f fd ps sp) : FnG P w K mg base CX k f fd ps sp :=
  ⟨F.len, fun A fr s H ar us vs Q E _ hr => F.run A fr s H ar us vs Q E hr⟩
theorem FnG.more {j : Nat} (F : FnG P w K mg base CX j f fd ps sp) (h : j ≤ k) : FnG P w K mg base CX k f fd ps sp :=
  ⟨F.wide, fun A fr s H ar us vs Q E g hr => F.goes A fr s H ar us vs Q E g (hr.mono h)⟩
end
section
variable {X : Cx} {CX : CXT} {k : Nat} {f : Addr} {fd : FuncData} {ps : List Str} {sp : Sp} {dvs : List V} {ds : List Value} {x : Str} {p pos : Pos} {e : Expr} {es : List Expr} {t : TA}
theorem runG {pins : List (Addr × Obj)} {σ : L2.St} {H : Hp} {s : Shared} {Q : VK} {us : List Value} {vs : List V} {E : L2.St → XK} (G : X.A.guards = some []) (F : FnG X.prog X.w X.K X.mg X.base CX k f fd ps sp) (hr : Room k X.A)
    (hb : Binds X.K fd ps ds) (hd : Vals dvs ds) (hx : PassesAt CX X σ (E σ)) (I : Inv X pins σ H s) (r : Vals vs us) (h : sp (vs ++ dvs) H Q (E σ)) :
    wpAny (model X.prog X.w) X.A (call (.ref f) us) (EP X pins σ Q) X.xe s := by
  have both := Vals.append r hd
  have same : (us ++ ds).length = ps.length := (Vals.length both).symm.trans (F.wide _ _ _ _ h)
  apply wpAny_call
  apply codeAny_mono (F.goes X.A X.stack s H ⟨us, []⟩ (us ++ ds) (vs ++ dvs) Q (E σ) G hr I.env0 (hb s us I.kIn same) both h)
  intro res s' ends
  match res, ends with
  | .error er, ends => exact hx pins H s er s' I ends
  | .ok (.ret u), ends => exact I.after ends
  | .ok .next, ends => exact ends.elim
  | .ok .brk, ends => exact ends.elim
  | .ok .cont, ends => exact ends.elim
/-- f(e, ..): what is wanted of an error hangs on the slots -/
def tCallG (sp : Sp) (dvs : List V) (E : L2.St → XK) (t : TA) : TE := fun σ H Q => t σ H fun vs H1 => sp (vs ++ dvs) H1 Q (E σ)
theorem pe_callG {E : L2.St → XK} (G : X.A.guards = some []) (F : FnG X.prog X.w X.K X.mg X.base CX k f fd ps sp) (hr : Room k X.A) (hg : Gl X x) (hm : X.mg x = some (.ref f)) (hk : PySem.W.keepIn X.K (.ref f) = true) (hb : Binds X.K fd ps ds)
    (hd : Vals dvs ds) (hx : ∀ σ, PassesAt CX X σ (E σ)) (ha : PA X (e :: es) t) (hdb : (x == ("__debug__" : Str)) = false := by decide)
    (he : starEach (e :: es) X.env = (false, eval e X.env) :: starEach es X.env := by rfl) (hpl : (backTo pos (starEach es X.env)).any (·.1) = false := by rfl) :
    PE X (.Call (.Name x p) (e :: es) [] pos) (tCallG sp dvs E t) :=
  ⟨fun pins s σ H Q I h => wpAny_Call_Name_kw (ld_glob I hg hm
    (PySem.W.callWith_K (h₀ := X.base) I.ok.mod.kin hk (thn (ha.run pos pins s σ H _ I h) fun us s1 ⟨vs, H1, I1, r, q⟩ => ⟨I1.kIn, runG G F hr hb hd (hx σ) I1 r q⟩) he hpl) hdb)⟩
theorem pe_callG0 {E : L2.St → XK} (G : X.A.guards = some []) (F : FnG X.prog X.w X.K X.mg X.base CX k f fd ps sp) (hr : Room k X.A) (hg : Gl X x) (hm : X.mg x = some (.ref f)) (hk : PySem.W.keepIn X.K (.ref f) = true) (hb : Binds X.K fd ps ds)
    (hd : Vals dvs ds) (hx : ∀ σ, PassesAt CX X σ (E σ)) (hdb : (x == ("__debug__" : Str)) = false := by decide) : PE X (.Call (.Name x p) [] [] pos) (tCallG sp dvs E tNil) :=
  ⟨fun pins s σ H Q I h => wpAny_Call_Name_kw (ld_glob I hg hm (PySem.W.callWith_K0 I.kIn hk (runG (us := []) G F hr hb hd (hx σ) I .nil h)) hdb)⟩
end
/-- nothing leaves: any wish will do -/
theorem passAt0 {X : Cx} {σ : L2.St} {E : XK} : PassesAt CX0 X σ E := fun _ _ _ _ _ _ c => c.elim
section
variable {P : Program} {w : World} {K : PySem.W.Frag} {mg : Str → Option Value} {base : Heap} {CX : CXT} {k : Nat}
/-- a def's promise, by its body -/
theorem fnG {f : Addr} {x qual : Str} {st : Stmt} {fd : FuncData} {N ps : List Str} {sp : Sp} (F : Fun K x qual st f fd) (S : FnScope N ps (defScope st)) (len : ∀ vs H Q E, sp vs H Q E → vs.length = ps.length)
    (hbody : ∀ (cdv : Value) (A : Around) (fr : List Env) (s : Shared) (H : Hp) (vs : List V) (Q : VK) (E : XK), A.guards = some [] → Room k (A.deeper (envOfC qual (defScope st) s.heap.objs.size f cdv)) → sp vs H Q E →
      ∃ t, PSs (cxOf CX P w K mg base N qual (defScope st) f cdv A fr s H E) (defBody st) t ∧ t { nx := fun _ H' => Q .non H', rt := Q } (start N vs) H) :
    FnG P w K mg base CX (k + 1) f fd ps sp := by
  obtain ⟨oc, od, kV, doc, pm, an, cdv, ct, osl, rfl, lk, hcd⟩ := F.ex
  refine ⟨len, fun A fr s H ar us vs Q E hG hr e0 hb r hsp => ?_⟩
  have kept : ∀ b o, base.get? b = some o → s.heap.get? b = some o := fun b o e => (e0.bs b o e).1
  have kinds : ∀ y ∈ ps.zip us, (defScope st).names.lookup y.1 = some .local ∨ ((defScope st).names.lookup y.1 = some .cell ∧ ((cellsFrom (s.heap.objs.size + 1) (defScope st).names []).lookup y.1).isSome = true) := by
    intro y hy
    rcases S.par y.1 (List.of_mem_zip hy).1 with l | c
    · exact Or.inl l
    · exact Or.inr ⟨c, PySem.W.cellsFrom_some _ _ _ (Or.inl c)⟩
  apply codeAny_call_function hr.depth ((e0.mod.kin.keeps kept) _ _ lk) rfl S.co S.gen rfl (PySem.W.codeRec_of (e0.mod.kin.keeps kept) hcd)
  apply hb
  apply wpAny_newFunctionEnv_cells S.kind kinds
  intro env he s1 ic
  cases he
  refine ⟨(e0.mod.nolimit.keeps kept).keeps ic.toInCall.keep, codeAny_func ?_⟩
  obtain ⟨t, walk, now⟩ := hbody cdv A fr s H vs Q E hG (hr.deeper _) hsp
  refine wpAny_mono (walk.run [] s1 (start N vs) H _ (inv_start S hr.hd e0 (len _ _ _ _ hsp) r ic) now) (fun fl s' ends => ?_) (fun _ _ ends => ends)
  match fl, ends with
  | .ret u, ⟨v, σ', H', J, rv, q⟩ => exact ⟨v, H', J.os, J.bare, J.base, J.hok, rv, q⟩
  | .next, ⟨σ', H', J, q⟩ => exact ⟨V.non, H', J.os, J.bare, J.base, J.hok, rfl, q⟩
  | .brk, ⟨_, _, _, q⟩ => exact q.elim
  | .cont, ⟨_, _, _, q⟩ => exact q.elim
end
/-! ### new lists that are not the table of modules -/
def tLstN (t : TA) : TE := fun σ H Q => t σ H fun xs H1 => xs.length ≤ sizeLine ∧ ∀ p, H1 p = none → p ≠ sysModules → Q (.ref p) (upd H1 p (.lst xs))
theorem pe_lstN {X : Cx} {es : List Expr} {t : TA} {pos : Pos} (h : PA X es t) : PE X (.List es pos) (tLstN t) := by
  refine ⟨fun pins s σ H Q I hq => wpAny_List_spliced (thn (h.run pos pins s σ H _ I hq) fun us s1 ends => ?_)⟩
  obtain ⟨xs, H1, I1, r, z, q⟩ := ends
  have fresh : H1 s1.heap.objs.size = none := I1.hok.fresh (Nat.le_refl _)
  refine ⟨by rw [← r.length]; exact z, .ref s1.heap.objs.size, upd H1 s1.heap.objs.size (.lst xs), ?_, rfl, q _ fresh (Nat.ne_of_gt I1.big)⟩
  apply I1.laid (t' := s1.toks) (fun b u e => Heap.get?_push_of_some _ e) (Nat.le_refl _)
  exact ⟨z, us, 0, r, Heap.get?_push_size _ rfl⟩
theorem op_catN {X : Cx} : OpR X (binaryOp .Add) (fun x y H Q => ∃ l b xs zs, x = .ref l ∧ y = .ref b ∧ H l = some (.lst xs) ∧ H b = some (.lst zs) ∧ xs.length + zs.length ≤ sizeLine ∧ ∀ p, H p = none → p ≠ sysModules → Q (.ref p) (upd H p (.lst (xs ++ zs)))) := by
  intro pins s σ H x y v u Q I rx ry h
  obtain ⟨l, b, xs, zs, rfl, rfl, h1, h2, few, q⟩ := h
  cases rx
  cases ry
  obtain ⟨_, its, n, r, n1, e⟩ := I.lstM h1
  obtain ⟨_, its2, n2, r2, n3, e2⟩ := I.lstM h2
  refine PySem.P.add_list e e2 ?_ (by rw [List.size_toArray, List.size_toArray]; omega)
  rw [show its.toArray ++ its2.toArray = (its ++ its2).toArray by simp]
  exact ⟨.ref _, _, I.lnew (t' := s.toks) (r.append r2) (by rw [List.length_append]; omega), rfl, q _ I.fresh (Nat.ne_of_gt I.big)⟩
end Fw

/-! The end of a law whose def is promised where no repr is under way. -/
namespace Fw
open PySem PySem.Spec PyProof.Rows L2
/-- at callerA, over an abstract heap that tracks nothing but the script, and that only where the written part does not hold it -/
theorem ends_one {P : Program} {w : World} {K : PySem.W.Frag} {mg mb : Str → Option Value} {CX : CXT} {k : Nat} {fa a : Addr} {fd : FuncData} {x : Str} {sp : Sp} {s₁ : Shared} {vs : List Value} {H : Hp} {L : List V}
    (KX : K.In s₁.heap) (hns : s₁.heap.Ns mainGlobals mg) (hb : s₁.heap.Ns builtinsNs mb) (hbb : ∀ y : Str, y ≠ "__name__" → mb y = bootBuiltins y) (hlim : s₁.heap.NoLimit) (hg : s₁.gens = #[])
    (ha : s₁.heap.get? a = some { cls := .type "list", data := .seq vs.toArray }) (hr : Room k callerA)
    (F : ∀ base : Heap, K.In base → base.Ns mainGlobals mg → FnG P w K mg base CX k fa fd [x] sp) (hbind : ∀ (s : Shared) (u : Value), BindsTo s fd ⟨[u], []⟩ [(x, u)])
    (hsp : sp [.ref a] H (fun v _ => v = .bl true) fun _ _ _ => False) (hCX : ∀ e s', CX [] H s₁ (fun _ _ _ => False) e s' → False)
    (only : ∀ b u, H b = some u → b = a ∧ K.lookup a = none ∧ ∃ o, u = .frz o (.lst L)) (held : HOk P w H s₁.heap) :
    codeAny (model P w) callerA (.call (.ref fa) ⟨[.ref a], []⟩) (fun r s' => r = .ok (.ret (.bool true)) ∧ OldK s₁.heap s'.heap ∧ s'.os = s₁.os ∧ AllBare s'.gens) s₁ := by
  have away : ∀ {b : Addr} {o : Obj}, s₁.heap.get? b = some o → (b = a → K.lookup a = none → False) → H b = none := by
    intro b o _ no
    cases q : H b with
    | none => rfl
    | some u =>
      obtain ⟨e, n, _⟩ := only b u q
      exact (no e n).elim
  have dicts : ∀ {b : Addr} {o : Obj} {es : Array DictEntry} {ep : Nat}, s₁.heap.get? b = some o → o.data = .dict es ep → H b = none := by
    intro b o es ep e d
    refine away e fun z _ => ?_
    rw [z, ha] at e
    cases e
    exact Data.noConfusion d
  have spaces : ∀ {b : Addr} {m : Str → Option Value}, s₁.heap.Ns b m → (hidT s₁.heap H).Ns b m := by
    rintro b m ⟨o, es, ep, e, d, more⟩
    exact ⟨o, es, ep, hidT_get e (dicts e d), d, more⟩
  have written : K.In (hidT s₁.heap H) := by
    intro b o e
    refine hidT_get (KX b o e) (away (KX b o e) fun z n => ?_)
    rw [z, n] at e
    cases e
  have room : Mod K mg (hidT s₁.heap H) := by
    obtain ⟨mc, l1, l2⟩ := hlim
    exact ⟨written, spaces hns, ⟨mb, spaces hb, hbb⟩, ⟨mc, spaces l1, l2⟩⟩
  have entry : Env0 P w K mg (hidT s₁.heap H) callerA [] s₁ H :=
    { frames := rfl, mod := room, bs := fun b o e => of_hidT e, bsz := Nat.le_of_eq (hidT_size _ _), funs := trivial, frf := fun b hm => (List.not_mem_nil hm).elim, hok := held, bare := .of_eq hg }
  apply codeAny_mono ((F _ written (spaces hns)).goes callerA [] s₁ H ⟨[.ref a], []⟩ [.ref a] [.ref a] _ _ rfl hr entry (hbind s₁ (.ref a)) (.cons rfl .nil) hsp)
  intro res s' ends
  match res, ends with
  | .error er, ends => exact (hCX er s' ends).elim
  | .ok .next, ends => exact ends.elim
  | .ok .brk, ends => exact ends.elim
  | .ok .cont, ends => exact ends.elim
  | .ok (.ret u), ⟨v, H', os, bare, un, held', rv, q⟩ =>
    have q' : v = .bl true := q
    subst q'
    cases rv
    refine ⟨rfl, OldK.of_keep fun b o e => ?_, os, bare⟩
    cases q : H b with
    | none => exact un.keep b o e q (fun z => (List.not_mem_nil z).elim) (fun z => (List.not_mem_nil z).elim)
    | some u =>
      obtain ⟨_, _, ob, z⟩ := only b u q
      rw [z] at q
      obtain ⟨e1, _⟩ := held b _ q
      obtain ⟨e2, _⟩ := held' b _ (un.frzs b ob _ q)
      rw [e] at e1
      cases e1
      exact e2
/-- the goal that the head leaves, by a promise for the law's def -/
theorem walkG {l : PySem.W.OpenLaw} {n k : Nat} {q : Program} {loose : List Str} {XP : (Str → Option Value) → Heap → Prop} {YP : World → Heap → Prop} {d : DefRec} {K : Params → PySem.W.Frag} {CX : World → CXT} {sp : World → Sp} {x : Str}
    (hn : l.most = some n) (hn2 : n ≤ sizeLine) (hdf : d.params.defaults = []) (hr : Room k callerA) (hY : ∀ (w : World) (h : Heap), YP w h → (K w.params).In h)
    (F : ∀ (w : World) (mg : Str → Option Value) (fa : Addr) (h : Heap), (K w.params).In h → h.Ns mainGlobals mg → mg d.name = some (.ref fa) →
      ∃ fd : FuncData, (∀ (s : Shared) (u : Value), BindsTo s fd ⟨[u], []⟩ [(x, u)]) ∧ ∀ base : Heap, (K w.params).In base → base.Ns mainGlobals mg → FnG l.prog w (K w.params) mg base (CX w) k fa fd [x] (sp w))
    (hsp : ∀ (w : World) (H : Hp) (a : Addr) (ns : List Int), ns.length ≤ n → SqL (K w.params) H a (ns.map V.int) → sp w [.ref a] H (fun v _ => v = .bl true) fun _ _ _ => False)
    (hCX : ∀ (w : World) (H : Hp) (s : Shared) (e : Value) (s' : Shared), CX w [] H s (fun _ _ _ => False) e s' → False) :
    PySem.W.WalkO q loose XP YP l.row.toRowW d [] (fun f vs => PySem.call f vs) := by
  apply Att.attach_call hn hdf
  intro w s₀ s₁ mg mb fa o pm cd doc a vs ns G Y ho hd hcd hmg hobj hints hlen hg
  have KX := hY w _ Y
  obtain ⟨fd, hb, hF⟩ := F w mg fa _ KX G.T.g hmg
  have rv := L2.vals_ints hints
  have lv := hints.length
  have hl : ns.length ≤ sizeLine := Nat.le_trans hlen hn2
  cases hk : (K w.params).lookup a with
  | some u =>
    have same := KX a u hk
    rw [hobj] at same
    cases same
    refine ends_one (L := []) KX G.T.g G.T.b G.T.builtins G.T.nolimit hg hobj hr hF hb (hsp w (fun _ => none) a ns hlen (.inr ⟨_, vs.toArray, _, hk, rfl, rfl, rfl, ?_, by simpa using rv⟩)) (hCX w _ s₁) ?_ ?_
    · rw [List.size_toArray, lv]
      exact hl
    · intro b u z
      exact (nomatch (show (none : Option HO) = some u from z))
    · intro b u z
      exact (nomatch (show (none : Option HO) = some u from z))
  | none =>
    let o : Obj := { cls := .type "list", data := .seq vs.toArray }
    let H1 : Hp := fun b => if b = a then some (HO.frz o (.lst (ns.map V.int))) else none
    have there : H1 a = some (HO.frz o (.lst (ns.map V.int))) := if_pos rfl
    have just : ∀ b u, H1 b = some u → b = a ∧ u = HO.frz o (.lst (ns.map V.int)) := by
      intro b u z
      by_cases hba : b = a
      · rw [hba, there] at z
        exact ⟨hba, (Option.some.inj z).symm⟩
      · have no : H1 b = none := if_neg hba
        rw [no] at z
        exact nomatch z
    refine ends_one (H := H1) (L := ns.map V.int) KX G.T.g G.T.b G.T.builtins G.T.nolimit hg hobj hr hF hb (hsp w H1 a ns hlen (.inl (.inr ⟨o, there⟩))) (hCX w H1 s₁) ?_ ?_
    · intro b u z
      obtain ⟨e1, e2⟩ := just b u z
      exact ⟨e1, hk, _, e2⟩
    · intro b u z
      obtain ⟨e1, e2⟩ := just b u z
      rw [e1, e2]
      exact ⟨hobj, by rw [List.length_map]; exact hl, vs, _, rv, hobj⟩
end Fw

/-! Errors of the program's own that keep what they take: made, over any of the built-in errors, also over one that makes its instances as its own base does. -/
namespace Fw
open PySem PySem.Spec PyProof.Rows PySem.W PySem.Calls
open Builtin Builtin.ObjectAttr
/-- of the classes behind the own one: what a call asks -/
structure Behind (bm : List Value) (B : String) : Prop where
  has : bm.contains (.type B) = true
  att : bm.contains (.type "AttributeError") = false
  nam : bm.contains (.type "NameError") = false
  obj : bm.contains (.type "object") = true
  sets : ∀ self : Value, refuseLoop self "__setattr__" bm = pure ()
section
variable {prog : Program} {w : World} {A : Around} {R : Result → Shared → Prop} {h : Heap} {g : Array GenState} {d : Drawn} {t : Nat} {os : OsState}
variable {nm q : Str} {C N : Addr} {bs bm bmB : List Value} {hdct : Bool} {sn : List Str} {sub : List Value} {ab : Bool} {col : Option Bool} {dd : Option Addr} {k0 k1 k2 k3 k5 : Option Value} {B newId initId : String}
theorem made_bare (F : ExcBaseFacts B newId initId bmB) (Z : Behind bm B) {us : List Value} (at_ : h.get? C = some (excClassObj nm q C N bs bm hdct sn sub ab col dd k0 k1 k2 k3 k5 newId)) (few : us.length ≤ sizeLine)
    (then_ : R (.ok (.ret (.ref (h.objs.size + 1)))) ⟨(h.push { cls := .type "tuple", data := .seq us.toArray }).push (HandSPX.excO C h.objs.size), g, d, t, os⟩) :
    codeAny (model prog w) A (.builtin newId ⟨.ref C :: us, []⟩) R ⟨h, g, d, t, os⟩ := by
  have e1 := F.ends
  have e2 : (Value.ref C :: bm).contains (.type B) = true := by rw [List.contains_cons, Z.has, Bool.or_true]
  have e3 : (Value.ref C :: bm).contains (.type "AttributeError") = false := by rw [List.contains_cons, Z.att]; rfl
  have e4 : (Value.ref C :: bm).contains (.type "NameError") = false := by rw [List.contains_cons, Z.nam]; rfl
  apply codeAny_builtinAt F.entry
  unfold Builtin.«BaseException.__new__»
  apply PySem.wpAt_bind
  show PySem.wpAt _ _ _ (stack >>= _) _ _ _
  apply PySem.wpAt_bind
  refine PySem.wpAt_stack fun p below => PySem.wpAt_of_wpAny ?_
  wp_walk
  refine PySem.wpAt_of_wpAny ?_
  rw [F.owner]
  repeat (first
    | with_reducible refine wpAny_madeHere_exc F.canon at_ ?_
    | with_reducible refine wpAny_loadPart_at at_ ?_
    | (with_reducible refine wpAny_isSubtype_exc at_ ?_; first | rw [e2] | rw [e3] | rw [e4])
    | wp_step)
  show R _ _
  rw [Heap.size_push]
  exact then_
theorem asks_new {M : Model} {E : Value → Shared → Prop} (F : ExcBaseFacts B newId initId bmB) (Z : Behind bm B) {us : List Value} {Q : Unit → Shared → Prop} (at_ : h.get? C = some (excClassObj nm q C N bs bm hdct sn sub ab col dd k0 k1 k2 k3 k5 newId))
    (then_ : Q () ⟨h, g, d, t, os⟩) : wpAny M A (checkBuiltinCall newId ⟨.ref C :: us, []⟩) Q E ⟨h, g, d, t, os⟩ := by
  have e2 : (Value.ref C :: bm).contains (.type B) = true := by rw [List.contains_cons, Z.has, Bool.or_true]
  have e1 := F.noStar
  simp only [checkBuiltinCall, F.newKind, F.newSplit, F.newRow]
  repeat (first
    | refine wpAny_loadPart_at at_ ?_
    | (refine wpAny_isSubtype_exc at_ ?_; rw [e2])
    | refine wpAny_staticBase_exc at_ ?_
    | refine wpAny_madeBy_exc at_ ?_
    | simp only [bne_self_eq_false, Bool.false_eq_true, if_false]
    | wp_step)
  exact then_
/-- type.__call__ of such a class -/
theorem calls_own (F : ExcBaseFacts B newId initId bmB) (Z : Behind bm B) {us : List Value} {fI : Addr} {E : Value → Shared → Prop} {Q : Fin → Shared → Prop} (at_ : h.get? C = some (excClassObj nm q C N bs bm hdct sn sub ab col dd k0 k1 k2 k3 k5 newId))
    (look : Looks (model prog w) h (typeLookup (.ref C) "__init__") (some (.ref fI))) (bind : ∀ self, Looks (model prog w) h (bindSpecial (.ref fI) self) (.ref fI, [self])) (few : us.length ≤ sizeLine)
    (then_ : codeAny (model prog w) A (.call (.ref fI) ⟨.ref (h.objs.size + 1) :: us, []⟩)
      (fun r s' => match r with | .ok (.ret v) => v = .none ∧ Q (.done (.ret (.ref (h.objs.size + 1)))) s' | .ok _ => False | .error e => E e s') ⟨(h.push (kdv_tup us)).push (HandSPX.excO C h.objs.size), g, d, t, os⟩) :
    wpAny (model prog w) A (Builtin.«type.__call__» ⟨.ref C :: us, []⟩) Q E ⟨h, g, d, t, os⟩ := by
  have old : ∀ b o, h.get? b = some o → ((h.push (kdv_tup us)).push (HandSPX.excO C h.objs.size)).get? b = some o := fun b o e => Heap.get?_push_of_some _ (Heap.get?_push_of_some _ e)
  have new : ((h.push (kdv_tup us)).push (HandSPX.excO C h.objs.size)).get? (h.objs.size + 1) = some (HandSPX.excO C h.objs.size) := by heap_get
  have self_ : (Value.ref C :: bm).contains (.ref C) = true := by simp
  have at1 := old _ _ at_
  have look1 := look.keeps old
  have bind1 := (bind (.ref (h.objs.size + 1))).keeps old
  repeat (first | with_reducible refine wpAny_loadPart_at at_ ?_ | with_reducible refine wpAny_madeBy_exc at_ ?_ | wp_step)
  apply codeAny_call_builtin_code (Code.quiet_builtin _ F.quiet) (asks_new F Z at_ _)
  apply made_bare F Z at_ few
  show wpAny _ _ _ _ _ _
  unfold isInstance
  repeat (first | with_reducible refine wpAny_loadPart_at new ?_ | (with_reducible refine wpAny_isSubtype_exc at1 ?_; rw [self_]) | wp_step)
  show wpAny _ _ (typeLookup (.ref C) _) _ _ _
  apply look1.at
  apply wpAny_holding
  apply wpAny_bind
  apply bind1.at
  apply wpAny_bind
  apply wpAny_call
  refine codeAny_mono then_ fun r s' z => ?_
  match r, z with
  | .error e, z => exact z
  | .ok .next, z => exact z.elim
  | .ok .brk, z => exact z.elim
  | .ok .cont, z => exact z.elim
  | .ok (.ret v), ⟨e, z⟩ =>
    cases e
    first
      | exact wpAny_pure (wpAny_pure z)
      | (wp_walk; exact z)
/-- C(..): the new error, then the own __init__ -/
theorem made_own (F : ExcBaseFacts B newId initId bmB) (Z : Behind bm B) {us : List Value} {fI : Addr} (at_ : h.get? C = some (excClassObj nm q C N bs bm hdct sn sub ab col dd k0 k1 k2 k3 k5 newId))
    (look : Looks (model prog w) h (typeLookup (.ref C) "__init__") (some (.ref fI))) (bind : ∀ self, Looks (model prog w) h (bindSpecial (.ref fI) self) (.ref fI, [self])) (few : us.length ≤ sizeLine)
    (then_ : codeAny (model prog w) (A.under (.builtin "type.__call__" ⟨.ref C :: us, []⟩)) (.call (.ref fI) ⟨.ref (h.objs.size + 1) :: us, []⟩) (InitBack (h.objs.size + 1) R) ⟨(h.push (kdv_tup us)).push (HandSPX.excO C h.objs.size), g, d, t, os⟩) :
    codeAny (model prog w) A (.call (.ref C) ⟨us, []⟩) R ⟨h, g, d, t, os⟩ := by
  have l1 := tc_lookup
  have l2 := tc_bind (.ref C)
  have l3 : (⟨h, g, d, t, os⟩ : Shared).TypeIs (.ref C) "type" := ⟨_, at_, rfl⟩
  apply codeAny_of_tree
  show wpAny _ _ (callAny (.ref C) _) _ _ _
  repeat (any_goals (first | assumption | with_reducible refine wpAny_loadPart_at at_ ?_ | wp_step))
  refine ⟨rfl, codeAny_call_builtin_at (Code.quiet_builtin _ (by decide +kernel)) entry_typeCall (wpAny_check_type_call_sub at_ (calls_own F Z at_ look bind few ?_))⟩
  refine codeAny_mono then_ fun r s' z => ?_
  rcases r with e | (v | _ | _ | _) <;> exact z
/-- self.f = v, the first one, of such an error -/
theorem kept_new {K : Frag} {name : Str} {tk : Tok} {v : Value} {x : Addr} {fv : Array Value} {cd : ClassData} (X : K.In h) (hx : h.get? x = some { cls := .ref C, data := .fields fv }) (hcd : clsIn K C = some cd)
    (ne : cd.mro.isEmpty = false) (hob : cd.mro.contains (.type "object") = true) (pass : ∀ self : Value, refuseLoop self "__setattr__" cd.mro = pure ()) (hh : cd.hasDict = true) (ha : findIn K (.ref C) name = some none)
    (then_ : ∀ h' tk' dx, (∀ b o, b ≠ x → h.get? b = some o → h'.get? b = some o) → h.objs.size ≤ dx → dx ≠ x → h'.get? x = some { cls := .ref C, dict := some dx, data := .fields fv } → h'.Ns1 dx (fun y => if y = name then some v else none) →
      R (.ok (.ret .none)) ⟨h', g, d, tk', os⟩) : codeAny (model prog w) A (.call (.builtin "object.__setattr__") ⟨[.ref x, .str name tk, v], []⟩) R ⟨h, g, d, t, os⟩ := by
  have I : InstAt h x { cls := .ref C, data := .fields fv } C none := ⟨hx, rfl, rfl, trivial⟩
  have S := F.store_object
  have hxs : x ≠ h.objs.size := Nat.ne_of_lt (Heap.lt_size hx)
  have sub : Looks (model prog w) h (isInstance (.ref x) (.type "object")) true := I.type.andThen (looks_mroIn X (by unfold mroIn; rw [hcd, Option.bind_some, if_neg (by rw [ne]; decide), hob]))
  refine codeAny_call_builtin S.slot.plain S.entry ?_
  refine @check_slot (model prog w) _ _ ⟨h, g, d, t, os⟩ "object.__setattr__" "object" "__setattr__" (.ref x) [.str name tk, v] [] _ S.kind S.split sub (S.args (.ref x) (.str name tk) v) ?_
  have m1 : Looks (model prog w) h (mroOf (.ref C)) cd.mro := (looks_clsIn X hcd).andThen .now
  have m2 : Looks (model prog w) h (storeTaker? none) none := .now
  have m3 : Looks (model prog w) h (classData C) cd := looks_clsIn X hcd
  rw [osa_eq, refuse_eq]
  apply wpAny_bind
  apply wpAny_bind
  apply I.type.at
  apply wpAny_bind
  apply m1.at
  rw [pass]
  apply wpAny_pure
  apply wpAny_bind
  apply I.type.at
  apply wpAny_bind
  apply (looks_findIn X ha).at
  apply wpAny_bind
  apply m2.at
  show wpAny _ _ (storeInOwnDict (.ref x) (.ref C) (.str name tk) name v false) _ _ _
  obtain ⟨nm, bs, mro, ns, qn, hd, sn, sb, ab, col, del⟩ := cd
  dsimp only at hh
  subst hh
  unfold storeInOwnDict ownDictForStores
  repeat (first | with_reducible refine HandSPX.store_in_new ?_ ?_ | with_reducible refine wpAny_loadPart_at hx ?_ | with_reducible refine m3.at ?_ | wp_step)
  · exact ⟨_, #[], _, (Heap.get?_update_ne _ _ _ _ hxs.symm).trans (Heap.get?_push_at rfl rfl), rfl, fun e he => absurd he (by simp), fun _ => rfl⟩
  · intro h' tk' hn' hs
    have one : (h.push { cls := .type "dict", data := .dict #[] }).get? x = some { cls := .ref C, data := .fields fv } := Heap.get?_push_of_some _ hx
    apply then_ h' tk' h.objs.size
    · intro b o hb ho
      exact (hs.2 b (Nat.ne_of_lt (Heap.lt_size ho))).trans ((Heap.get?_update_ne _ _ _ _ hb).trans (Heap.get?_push_of_some _ ho))
    · exact Nat.le_refl _
    · exact hxs.symm
    · exact (hs.2 x hxs).trans (Heap.get?_update_self _ one rfl)
    · exact hn'
end
end Fw

/-! Errors that keep one value: the rule for making one as a value, for reading what it keeps, and for several except clauses with names. -/
namespace Fw
open PySem PySem.Spec PyProof.Rows PySem.W PySem.Calls
/-! ### def __init__(self, f): self.f = f -/
def inA (f : Str) (p1 p2 : Pos) : Arguments := { posonlyargs := [], args := [{ arg := "self", annotation := none, pos := p1 }, { arg := f, annotation := none, pos := p2 }], vararg := none, kwonlyargs := [], kw_defaults := [], kwarg := none, defaults := [] }
def inB (f : Str) (q1 q2 q3 q4 : Pos) : List Stmt := [.Assign [.Attribute (.Name "self" q1) f q2] (.Name f q3) q4]
def inS (f : Str) : Scope := { kind := .function, names := [(PySem.Str.ofString "self", .local), (f, .local)], isGenerator := false, isCoroutine := false, more := [] }
structure InitOk (f : Str) : Prop where
  binds : ∀ (q : Str) (doc pm cdv ct x v : Value) (an : Option Addr) (p1 p2 q1 q2 q3 q4 : Pos), bindArgs (fnOf "__init__" q (inA f p1 p2) (inB f q1 q2 q3 q4) (inS f) .none .none doc pm an cdv ct) ⟨[x, v], []⟩ = pure [(("self" : Str), x), (f, v)]
  kinds : ∀ x v : Value, (([(("self" : Str), x), (f, v)] : List (Str × Value)).all fun y => (inS f).names.lookup y.1 == some .local || (inS f).names.lookup y.1 == some .cell) = true
  m1 : ∀ (q : Str) (L a : Addr) (cd x v : Value), bindL (envOfC q (inS f) L a cd).kindOf [(("self" : Str), x), (f, v)] (fun _ => none) "self" = some x
  m2 : ∀ (q : Str) (L a : Addr) (cd x v : Value), bindL (envOfC q (inS f) L a cd).kindOf [(("self" : Str), x), (f, v)] (fun _ => none) f = some v
  k1 : ∀ (q : Str) (L a : Addr) (cd : Value), (envOfC q (inS f) L a cd).kindOf "self" = some .local
  k2 : ∀ (q : Str) (L a : Addr) (cd : Value), (envOfC q (inS f) L a cd).kindOf f = some .local
  ne : (f == ("__debug__" : Str)) = false
/-- what the written part says of such a class -/
structure InitC (K : Frag) (C fI : Addr) (q f : Str) : Prop where
  cls : ∃ nm qn N bs bm sn sub ab col dd k0 k1 k2 k3 k5 B newId initId bmB, K.lookup C = some (excClassObj nm qn C N bs bm true sn sub ab col dd k0 k1 k2 k3 k5 newId) ∧ ExcBaseFacts B newId initId bmB ∧ Behind bm B
  sa : findIn K (.ref C) "__setattr__" = some (some (.builtin "object.__setattr__"))
  noF : findIn K (.ref C) f = some none
  iC : findIn K (.ref C) "__init__" = some (some (.ref fI))
  tI : typeIn K (.ref fI) = some (.type "function")
  kC : keepIn K (.ref C) = true
  fn : ∃ (oc : Value) (od : Option Addr) (doc pm : Value) (an : Option Addr) (cdv ct : Value) (osl : Array (Option Value)) (p1 p2 q1 q2 q3 q4 : Pos),
    K.lookup fI = some ⟨oc, od, .func (fnOf "__init__" q (inA f p1 p2) (inB f q1 q2 q3 q4) (inS f) .none .none doc pm an cdv ct), osl⟩ ∧ codeIn K cdv q = true
section
variable {prog : Program} {w : World} {A : Around} {R : Result → Shared → Prop} {s : Shared} {K : Frag} {C fI : Addr} {q f : Str}
theorem runs_init (T : InitC K C fI q f) (O : InitOk f) {x t0 : Addr} {v : Value} (X : K.In s.heap) (hlim : s.heap.NoLimit) (hx : s.heap.get? x = some (HandSPX.excO C t0)) (hroom : A.depth < recursionLimit)
    (then_ : ∀ h' tk dx, (∀ b o, b ≠ x → s.heap.get? b = some o → h'.get? b = some o) → s.heap.objs.size ≤ dx → dx ≠ x → h'.get? x = some { cls := .ref C, dict := some dx, data := .fields #[.ref t0, .none, .none, .none, .bool false, .none] } →
      h'.Ns1 dx (fun y => if y = f then some v else none) → R (.ok (.ret .none)) { s with heap := h', toks := tk }) : codeAny (model prog w) A (.call (.ref fI) ⟨[.ref x, v], []⟩) R s := by
  obtain ⟨oc, od, doc, pm, an, cdv, ct, osl, p1, p2, q1, q2, q3, q4, lk, code⟩ := T.fn
  obtain ⟨nm, qn, N, bs, bm, sn, sub, ab, col, dd, k0, k1, k2, k3, k5, B, newId, initId, bmB, at_, F, Z⟩ := T.cls
  have cl : clsIn K C = some { name := nm, bases := bs, mro := .ref C :: bm, ns := N, qualname := qn, hasDict := true, slotNames := sn, subclasses := sub, abstract := ab, collection := col, hasDel := false } := by
    unfold clsIn
    rw [at_] <;> rfl
  refine Att.call_fn (binds := [(("self" : Str), .ref x), (f, v)]) X hlim lk code hroom (BindsTo.of_eq (O.binds ..)) (O.kinds _ _) (fun s₁ IC => ?_) rfl rfl rfl
  obtain ⟨h₁, tk₁, rfl⟩ := IC.toInCall.same
  have old : ∀ b o, s.heap.get? b = some o → h₁.get? b = some o := IC.toInCall.keep
  have locs := IC.toInCall.ns
  have X1 : K.In h₁ := X.keeps old
  have hx1 := old _ _ hx
  show wpAny _ _ (execs _ _) _ _ _
  apply wpAny_execs_cons
  refine plainObj_wpAny_Assign_Attribute ?_
  · refine wpAny_Name (wpAny_loadName_local rfl (O.k2 ..) locs (O.m2 ..) ?_) O.ne
    refine wpAny_Name (wpAny_loadName_local rfl (O.k1 ..) locs (O.m1 ..) ?_) (by decide)
    apply set_plain X1 (ox := HandSPX.excO C t0) (od := none) ⟨hx1, rfl, rfl, trivial⟩ T.sa
    refine kept_new X1 hx1 cl rfl ?_ (fun self => ?_) rfl T.noF (fun h₃ tk₃ dx keep3 big dne hx3 ns3 => ?_)
    · rw [List.contains_cons, Z.obj, Bool.or_true]
    · rw [refuseLoop_ref]
      exact Z.sets self
    · show wpAny _ _ (execs _ _) _ _ _
      have z : s.heap.objs.size < h₁.objs.size := locs.lt
      exact wpAny_execs_nil (then_ h₃ tk₃ dx (fun b o hb e => keep3 b o hb (old b o e)) (Nat.le_of_lt (Nat.lt_of_lt_of_le z big)) dne hx3 ns3)
end
end Fw
namespace Fw
open PySem PySem.Spec PyProof.Rows L2
section
variable {X : Cx} {C fI : Addr} {q f : Str} {x : Str} {e : Expr} {te : TE} {p pos : Pos}
/-- C(e), an error that keeps e -/
theorem pe_mkE (T : InitC X.K C fI q f) (O : InitOk f) (hr : Room 2 X.A) (hg : Gl X x) (hm : X.mg x = some (.ref C)) (he : PE X e te)
    (hs : starEach [e] X.env = (false, eval e X.env) :: starEach [] X.env := by rfl) (hdb : (x == ("__debug__" : Str)) = false := by decide) :
    PE X (.Call (.Name x p) [e] [] pos) (fun σ H Q => te σ H fun y H1 => ∀ a d, H1 a = none → H1 d = none → d ≠ a → Q (.ref a) (upd (upd H1 d (.xd [(f, y)])) a (ExD C a d))) := by
  refine ⟨fun pins s σ H Q I h => ?_⟩
  obtain ⟨nm, qn, N, bs, bm, sn, sub, ab, col, dd, k0, k1, k2, k3, k5, B, newId, initId, bmB, at_, F, Z⟩ := T.cls
  refine wpAny_Call_Name_kw (ld_glob I hg hm ?_ hdb)
  refine PySem.W.callWith_K (h₀ := X.base) I.ok.mod.kin T.kC ?_ hs (by rfl)
  rw [hs]
  show wpAny _ _ (spliced ((false, eval e X.env) :: backTo pos (starEach [] X.env))) _ _ s
  refine Calls.spliced_cons (thn (he.run pins s σ H _ I h) fun u s1 ⟨y, H1, I1, r1, q1⟩ => ?_)
  refine Calls.spliced_nil ⟨I1.kIn, ?_⟩
  show wpAny _ _ (call (.ref C) [u]) _ _ _
  obtain ⟨hp, g, dr, tk, os⟩ := s1
  have few : [u].length ≤ sizeLine := by
    rw [sizeLine_eq]
    exact (by decide : 1 ≤ 16777216)
  have old : ∀ b o, hp.get? b = some o → ((hp.push (PySem.W.kdv_tup [u])).push (HandSPX.excO C hp.objs.size)).get? b = some o := fun b o z => Heap.get?_push_of_some _ (Heap.get?_push_of_some _ z)
  have new : ((hp.push (PySem.W.kdv_tup [u])).push (HandSPX.excO C hp.objs.size)).get? (hp.objs.size + 1) = some (HandSPX.excO C hp.objs.size) := by heap_get
  have dp := (hr.make C [u] []).dp
  refine wpAny_call (made_own F Z (I1.kIn _ _ at_) (PySem.W.looks_findIn I1.kIn T.iC) (fun self => PySem.W.bind_fn I1.kIn self T.tI) few
    (runs_init (s := ⟨(hp.push (PySem.W.kdv_tup [u])).push (HandSPX.excO C hp.objs.size), g, dr, tk, os⟩) T O (I1.kIn.keeps old) (I1.nolimit.keeps old) new (by omega) (fun h' tk' dx keep big dne hx hn => ⟨rfl, ?_⟩)))
  have sz : hp.objs.size ≤ dx := by
    rw [Heap.size_push, Heap.size_push] at big
    omega
  have keep2 : ∀ b o, hp.get? b = some o → h'.get? b = some o := fun b o z => keep b o (Nat.ne_of_lt (Nat.lt_succ_of_lt (Heap.lt_size z))) (old b o z)
  have na : H1 (hp.objs.size + 1) = none := I1.hok.fresh (Nat.le_succ _)
  have nd : H1 dx = none := I1.hok.fresh sz
  have fa : ∀ {b : Addr} {o : Obj}, hp.get? b = some o → b ≠ hp.objs.size + 1 := fun {b o} z => Nat.ne_of_lt (Nat.lt_succ_of_lt (Heap.lt_size z))
  have fd : ∀ {b : Addr} {o : Obj}, hp.get? b = some o → b ≠ dx := fun {b o} z => Nat.ne_of_lt (Nat.lt_of_lt_of_le (Heap.lt_size z) sz)
  have ne2 : ∀ {b : Addr} {o : HO}, H1 b = some o → b ≠ hp.objs.size + 1 ∧ b ≠ dx := fun {b o} z => ⟨ne_of_none z na, ne_of_none z nd⟩
  have see : ∀ {b : Addr} {o : HO}, H1 b = some o → upd (upd H1 dx (.xd [(f, y)])) (hp.objs.size + 1) (ExD C (hp.objs.size + 1) dx) b = some o := fun {b o} z => by
    rw [upd_ne (ne2 z).1, upd_ne (ne2 z).2]
    exact z
  have un : Un X.fs [] H1 (upd (upd H1 dx (.xd [(f, y)])) (hp.objs.size + 1) (ExD C (hp.objs.size + 1) dx)) hp h' :=
    { keep := fun b o z _ _ _ => keep2 b o z
      slot := fun b o z _ _ _ => ⟨o.slots, keep2 b o z⟩
      free := fun b o z n _ => by
        rw [upd_ne (fa z), upd_ne (fd z)]
        exact n
      there := fun b o z _ => ⟨o, keep2 b o z⟩
      tups := fun b xs z => see z
      frzs := fun b o u z => see z
      tbls := fun b ps z => ⟨#[], by rw [see z]; simp⟩ }
  have hok : HOk X.prog X.w (upd (upd H1 dx (.xd [(f, y)])) (hp.objs.size + 1) (ExD C (hp.objs.size + 1) dx)) h' := by
    intro b o z
    by_cases hb : b = hp.objs.size + 1
    · subst hb
      rw [upd_same] at z
      cases z
      exact exD_ok hx ⟨rfl, rfl⟩ rfl rfl (show 4 < 6 by decide)
    · rw [upd_ne hb] at z
      by_cases hd : b = dx
      · subst hd
        rw [upd_same] at z
        cases z
        exact ⟨_, hn, fun g => relO_put (fs := []) (mA := fun _ => none) r1 (fun _ => True.intro) g⟩
      · rw [upd_ne hd] at z
        exact (I1.hok b o z).stay (fun c v _ k => keep2 c v k) (fun c k => see k) (fun c xs k => see k)
  exact ⟨.ref (hp.objs.size + 1), _, I1.un (t' := tk') un hok, rfl, q1 _ _ na nd dne⟩
/-- e.f of an error that is held -/
theorem pe_ofE {n : Str} (he : PE X e te) (hb : attributeBase e n X.env (eval e X.env) = eval e X.env := by rfl) :
    PE X (.Attribute e n pos) (fun σ H Q => te σ H fun y H1 => ∃ (a D d : Addr) (fs : List (Str × V)) (v : V), y = .ref a ∧ H1 a = some (ExD D a d) ∧ H1 d = some (.xd fs) ∧ XfC X.K D ∧ PySem.W.findIn X.K (.ref D) n = some none ∧ fs.lookup n = some v ∧ Q v H1) := by
  refine ⟨fun pins s σ H Q I h => attr_of hb (thn (he.run pins s σ H _ I h) fun u s1 hh => ?_)⟩
  obtain ⟨y, H1, I1, r1, a, D, d, fs, v, rfl, ha, hd, T, no, l, q⟩ := hh
  cases (show u = Value.ref a from r1)
  obtain ⟨⟨oe, vs, at_, z, fl, _⟩, _, _⟩ := I1.hok a _ ha
  have hx : ObjOk X.prog X.w H1 s1.heap d (.xd fs) := I1.hok d _ hd
  obtain ⟨mA, hns, hr⟩ := hx
  obtain ⟨od, ho, hl⟩ := lookIn_ns hns
  obtain ⟨u, hu, ru⟩ := RelO.some_of (v := v) (o := mA n) (by rw [← l]; exact hr n)
  have J : PySem.W.InstAt s1.heap a oe D (some od) := ⟨at_, z.1, by unfold PySem.W.notCls; rw [fl] <;> rfl, by rw [z.2]; exact ho⟩
  exact HandSPX.exc_get I1.kIn J T.ga T.gg T.exC (PySem.W.findObj_own T.hdC no rfl (by rw [hl, hu])) (handed_of ru) ⟨v, H1, I1.tok _, ru, q⟩
end
end Fw

/-! try with several except clauses, each with a name or without. -/
namespace Fw
open PySem PySem.Spec PyProof.Rows L2
/-- a clause: the class, the name's slot if it has one, the suite's reading -/
abbrev Cl := Value × Option Nat × (Addr → Value → Option Addr → TS)
/-- behind a suite the name is gone -/
def ungo (i : Option Nat) (D : Ends) : Ends := match i with
  | none => D
  | some i => { nx := fun σ H => D.nx (σ.set i none) H, rt := D.rt, bk := fun σ H => D.bk (σ.set i none) H, ct := fun σ H => D.ct (σ.set i none) H }
def into (i : Option Nat) (a : Addr) (σ : L2.St) : L2.St := match i with
  | none => σ
  | some i => σ.set i (some (.ref a))
/-- what the clauses wish of an error of the body -/
def wCls (K : PySem.W.Frag) (out : WX) (D : Ends) : List Cl → WX
  | [] => out
  | (c, i, ts) :: more => fun cls d σ H => ∃ b, PySem.W.exmOne K cls c = some b ∧ (b = true → ∀ a, H a = none → ts a cls d (ungo i D) (into i a σ) H) ∧ (b = false → wCls K out D more cls d σ H)
inductive ClsOk (X : Cx) : List ExceptHandler → List Cl → Prop
  | nil : ClsOk X [] []
  | bare {x : Str} {c : Value} {ts : Addr → Value → Option Addr → TS} {b₀ : Stmt} {suite : List Stmt} {np pos' : Pos} {hds : List ExceptHandler} {l : List Cl} (hc : Names X x c)
      (su : ∀ (a : Addr) (oe : Obj) (cls : Value) (d : Option Addr) (pn : List (Addr × Obj)), Zc cls d oe → (∃ vs, oe.data = .fields vs) → PSs (X.suite a ((a, oe) :: pn)) (b₀ :: suite) (ts a cls d)) (r : ClsOk X hds l) :
      ClsOk X (.ExceptHandler (some (.Name x np)) none (b₀ :: suite) pos' :: hds) ((c, none, ts) :: l)
  | named {x n : Str} {i : Nat} {c : Value} {ts : Addr → Value → Option Addr → TS} {b₀ : Stmt} {suite : List Stmt} {np pos' : Pos} {hds : List ExceptHandler} {l : List Cl} (hc : Names X x c) (hi : X.N[i]? = some n) (ln : X.env.kindOf n = some .local)
      (su : ∀ (a : Addr) (oe : Obj) (cls : Value) (d : Option Addr) (pn : List (Addr × Obj)), Zc cls d oe → (∃ vs, oe.data = .fields vs) → PSs (X.suite a ((a, oe) :: pn)) (b₀ :: suite) (ts a cls d)) (r : ClsOk X hds l) :
      ClsOk X (.ExceptHandler (some (.Name x np)) (some n) (b₀ :: suite) pos' :: hds) ((c, some i, ts) :: l)
section
variable {X : Cx} {body : List Stmt} {h₀ : ExceptHandler} {hds : List ExceptHandler} {l : List Cl} {pos : Pos} {tb : WX → TS} {out : WX}
theorem ps_try_cls (hs : X.stack = X.env :: X.outer) (hf : X.env.frame = some X.env.locals) (hN : X.N.Nodup) (tk : Takes X out)
    (hb : ∀ (W : WX) (pn : List (Addr × Obj)) (xe : Value → Shared → Prop), Takes (X.tr pn xe) W → PassesOwn (model X.prog X.w) X.A X.env xe → PSs (X.tr pn xe) body (tb W)) (hh : ClsOk X (h₀ :: hds) l) :
    PS X (.Try body (h₀ :: hds) [] [] pos) (fun D σ H => tb (wCls X.K out D l) D σ H) := by
  refine ⟨fun pins s σ H D I h => ?_⟩
  have ok := I.ok
  have stk : X.A.frames = some (X.env :: X.outer) := by rw [ok.frames, hs]
  have quiet : ∀ {f : Flow} {s1 : Shared}, SP (X.tr (X.pn ++ pins) fun e s₁ => wpAny (model X.prog X.w) X.A (noteFrame e X.env) (fun _ s₂ => wpAny (model X.prog X.w) X.A (setFlight e none) (fun _ s₃ =>
      wpAny (model X.prog X.w) X.A (handleBy e X.env (h₀ :: hds)) (SP X pins D) X.xe s₃) X.xe s₂) X.xe s₁) [] D f s1 → SP X pins D f s1 := by
    intro f s1 hsp
    match f, hsp with
    | .next, ⟨σ', H', J, q⟩ => exact ⟨σ', H', J.ofTry ok, q⟩
    | .brk, ⟨σ', H', J, q⟩ => exact ⟨σ', H', J.ofTry ok, q⟩
    | .cont, ⟨σ', H', J, q⟩ => exact ⟨σ', H', J.ofTry ok, q⟩
    | .ret u, ⟨v, σ', H', J, r, q⟩ => exact ⟨v, σ', H', J.ofTry ok, r, q⟩
  refine wpAny_Try_except (wpAny_mono ((hb (wCls X.K out D l) (X.pn ++ pins) _ (fun u s' xx => ?_) PassesOwn.looking).run [] s σ H D (I.toTry _) h) (fun f s1 hsp => ?_) (fun e s1 he => he))
  · obtain ⟨a, B, sI, pins', σ', H', cls, d, rfl, J', nb, up, sky, na, os, ag, w⟩ := xx
    have J : Inv X pins σ' H' sI := J'.ofTry ok
    have up_ : Sky B (X.env :: X.outer) a (Zc cls d) X.env.locals s'.heap := by rw [← hs]; exact sky
    show wpAny (model X.prog X.w) X.A (noteFrame (.ref a) X.env) _ _ _
    refine Sky.land Zc.steady stk hf up_ fun h3 fl3 up3 => ?_
    have J3 : Inv X pins σ' H' { s' with heap := h3 } := J.landed nb fl3.1 (up.trans up3) os ag
    obtain ⟨oe3, vs3, he3, hz3, hd3⟩ := fl3.there
    have out_ : a ∉ frs (X.env :: X.outer) := by
      intro hm
      obtain ⟨_, o', e', hnf⟩ := (fl3.2.2.1).mem hm
      rw [he3] at e'
      cases e'
      exact hnf _ hd3
    have nL : a ≠ X.env.locals := fun z => out_ (List.mem_filterMap.mpr ⟨X.env, List.mem_cons_self, by rw [hf, z]⟩)
    have nF : a ∉ X.fs := by
      intro hm
      obtain ⟨e, he, q⟩ := List.mem_filterMap.mp hm
      exact out_ (List.mem_filterMap.mpr ⟨e, List.mem_cons_of_mem _ he, q⟩)
    have S3 := J3.suite he3 hd3 na nL nF
    have ty : PySem.W.Looks (model X.prog X.w) h3 (typeOf (.ref a)) cls := fun A Q E s k q => wpAny_typeOf_ref (k _ _ he3) (by rw [hz3.1]; exact q)
    have named_ : ∀ {x : Str} {np : Pos} {c : Value} {Q : Value → Shared → Prop} {E : Value → Shared → Prop}, Names X x c → Q c { s' with heap := h3 } →
        wpAny (model X.prog X.w) (X.A.mark (some (.ref a))) (eval (.Name x np) X.env) Q E { s' with heap := h3 } := by
      intro x np c Q E hc q
      obtain ⟨hg, hdbg, hm | ⟨hm, hv, hnn⟩⟩ := hc
      · exact ld_glob (X := X.suite a ((a, oe3) :: (X.pn ++ pins))) S3 hg hm q hdbg
      · exact ld_blt (X := X.suite a ((a, oe3) :: (X.pn ++ pins))) S3 hg hm hv q hnn hdbg
    have go : ∀ {hds' : List ExceptHandler} {l' : List Cl}, ClsOk X hds' l' → wCls X.K out D l' cls d σ' H' → wpAny (model X.prog X.w) X.A (handleBy (.ref a) X.env hds') (SP X pins D) X.xe { s' with heap := h3 } := by
      intro hds' l' hk
      induction hk with
      | nil =>
        intro w
        apply wpAny_handleBy_nil
        obtain ⟨k1, k2, k3, oe, vs, T, oT, ts', he, hz, hd, h1, hr⟩ := id fl3
        unfold PySem.passOn
        apply wpAny_bind
        refine wpAny_field he hd h1 ?_
        rw [if_neg (show ¬ ((Value.ref T == Value.none) = true) from by simp)]
        have fin : wpAny (model X.prog X.w) X.A (setFlight (.ref a) X.env.frame) (fun _ s4 => wpAny (model X.prog X.w) X.A (throw (.ref a) : Sem Flow) (SP X pins D) X.xe s4) X.xe { s' with heap := h3 } := by
          rw [hf]
          refine HandSPX.setFlight_upZ fl3 fun h4 hh4 up4 => wpAny_throw (tk _ _ ?_)
          exact ⟨a, B, sI, pins, σ', H', cls, d, rfl, J, nb, (up.trans up3).trans up4, .inr (.inr (by rw [hs]; exact hh4)), na, os, ag, w⟩
        first
          | exact wpAny_bind (wpAny_pure (wpAny_bind fin))
          | exact wpAny_bind fin
      | @bare x c ts b₀ suite np pos' hds2 l2 hc su r ih =>
        intro w
        obtain ⟨b, hb1, yes, no⟩ := w
        refine wpAny_handleBy_cons (codeAny_handlers_test (named_ hc ((PySem.W.exm_one (M := model X.prog X.w) J3.kIn ty hb1).here ?_))) (by intro q; cases q)
        cases b with
        | false => exact ih (no rfl)
        | true =>
          refine codeAny_handlers_suite (HandSPX.lands_againZ fl3 fun h4 fl4 up4 => ?_)
          have J4 : Inv X pins σ' H' { s' with heap := h4 } := J.landed nb fl4.1 ((up.trans up3).trans up4) os ag
          obtain ⟨oe4, vs4, he4, hz4, hd4⟩ := fl4.there
          refine wpAny_mono ((su a oe4 cls d (X.pn ++ pins) hz4 ⟨_, hd4⟩).run [] _ _ H' _ (J4.suite he4 hd4 na nL nF) (yes rfl a na)) (fun f s6 hsp => ?_) (fun _ _ z => False.elim z)
          match f, hsp with
          | .next, ⟨σ6, H6, S6, q6⟩ => exact ⟨_, _, S6.unsuite ok, q6⟩
          | .brk, ⟨σ6, H6, S6, q6⟩ => exact ⟨_, _, S6.unsuite ok, q6⟩
          | .cont, ⟨σ6, H6, S6, q6⟩ => exact ⟨_, _, S6.unsuite ok, q6⟩
          | .ret u, ⟨v6, σ6, H6, S6, r6, q6⟩ => exact ⟨_, _, _, S6.unsuite ok, r6, q6⟩
      | @named x n i c ts b₀ suite np pos' hds2 l2 hc hi ln su r ih =>
        intro w
        obtain ⟨b, hb1, yes, no⟩ := w
        refine wpAny_handleBy_cons (codeAny_handlers_test (named_ hc ((PySem.W.exm_one (M := model X.prog X.w) J3.kIn ty hb1).here ?_))) (by intro q; cases q)
        cases b with
        | false => exact ih (no rfl)
        | true =>
          refine codeAny_handlers_suite_as (HandSPX.lands_againZ fl3 fun h4 fl4 up4 => ?_)
          have J4 : Inv X pins σ' H' { s' with heap := h4 } := J.landed nb fl4.1 ((up.trans up3).trans up4) os ag
          obtain ⟨oe4, vs4, he4, hz4, hd4⟩ := fl4.there
          have S4 := J4.suite he4 hd4 na nL nF
          refine store_ok (X := X.suite a ((a, oe4) :: (X.pn ++ pins))) (v := .ref a) S4 hN hi (.inl ln) rfl (fun s5 S5 => ?_) (.inr ln)
          refine wpAny_mono ((su a oe4 cls d (X.pn ++ pins) hz4 ⟨_, hd4⟩).run [] s5 _ H' _ S5 (yes rfl a na)) (fun f s6 hsp => ?_) (fun _ _ z => False.elim z)
          match f, hsp with
          | .next, ⟨σ6, H6, S6, q6⟩ => exact gone_ok (S6.unsuite ok) hN hi ln fun s7 J7 => ⟨_, _, J7, q6⟩
          | .brk, ⟨σ6, H6, S6, q6⟩ => exact gone_ok (S6.unsuite ok) hN hi ln fun s7 J7 => ⟨_, _, J7, q6⟩
          | .cont, ⟨σ6, H6, S6, q6⟩ => exact gone_ok (S6.unsuite ok) hN hi ln fun s7 J7 => ⟨_, _, J7, q6⟩
          | .ret u, ⟨v6, σ6, H6, S6, r6, q6⟩ => exact gone_ok (S6.unsuite ok) hN hi ln fun s7 J7 => ⟨_, _, _, J7, r6, q6⟩
    exact go hh w
  · cases f with
    | next => exact wpAny_execs_nil (quiet hsp)
    | brk => exact quiet hsp
    | cont => exact quiet hsp
    | ret u => exact quiet hsp
end
end Fw

/-! Errors raised that keep a value; a def that is called with the error that is handled. -/
namespace Fw
open PySem PySem.Spec PyProof.Rows L2
/-- what gives a new error with a dict back makes an exception -/
theorem pmk_retD {X : Cx} {K : PySem.W.Frag} {H0 : Hp} {e : Expr} {te : TE} (hK : X.K = K) (h00 : X.H_0 = H0) (hx : X.ex = []) (he : PE X e te) :
    PMk X e (fun σ H Q => te σ H fun x H1 => ∃ a D d, x = .ref a ∧ H1 a = some (ExD D a d) ∧ Fr0 H0 a ∧ PySem.W.subIn K (.ref D) (.type "BaseException") = some true ∧ PySem.W.typeIn K (.ref D) = some (.type "type") ∧ Q (.ref D) (some d) (delH H1 a)) := by
  subst hK h00
  intro pins s σ H Q I h
  refine wpAny_mono (he.run pins s σ H _ I h) (fun u s1 hu => ?_) fun _ _ x => x
  obtain ⟨v, H1, I1, r1, a, D, d, rfl, ha, h0, hr1, hr2, q⟩ := hu
  cases r1
  obtain ⟨⟨oe, vs, ho, hz, hd, h1, _⟩, _, _⟩ := I1.hok a _ ha
  obtain ⟨G, gs, ga, J⟩ := I1.untrack ha h0 hx
  exact ⟨a, oe, vs, { s1 with heap := G }, delH H1 a, .ref D, some d, rfl, J, gs, ga, ho, hz, hd, h1, delH_same, rfl, I1.bare, raises_own hr1 hr2, q⟩
/-- a def of one parameter, called with the handled error, of the class at D, without a dict -/
structure FnE (P : Program) (w : World) (K : PySem.W.Frag) (mg : Str → Option Value) (base : Heap) (k : Nat) (f : Addr) (fd : FuncData) (x : Str) (sp : Addr → VK → Hp → Prop) : Prop where
  goes : ∀ (A : Around) (fr : List Env) (s : Shared) (H : Hp) (ar : Args) (us : List Value) (Q : VK) (E : XK) (a D : Addr) (oe : Obj) (fs : Array Value), A.guards = some [] → L2H.RoomH k A → L2H.PinOk fr H s (a, oe) → Zc (.ref D) none oe → oe.data = .fields fs →
    Env0 P w K mg base A fr s H → BindsTo s fd ar (([x] : List Str).zip us) → Vals [.ref a] us → sp D Q H → codeAny (model P w) A (.call (.ref f) ar) (CR CX0 fr P w H s Q E) s
section
variable {P : Program} {w : World} {K : PySem.W.Frag} {mg : Str → Option Value} {base : Heap} {k : Nat}
theorem fnE {f : Addr} {x qual : Str} {st : Stmt} {fd : FuncData} {N : List Str} {y : Str} {sp : Addr → VK → Hp → Prop} (F : Fun K x qual st f fd) (S : FnScope N [y] (defScope st))
    (hbody : ∀ (cdv : Value) (A : Around) (fr : List Env) (s : Shared) (H : Hp) (Q : VK) (E : XK) (a D : Addr) (oe : Obj) (fs : Array Value), A.guards = some [] → L2H.RoomH k (A.deeper (envOfC qual (defScope st) s.heap.objs.size f cdv)) → Zc (.ref D) none oe → oe.data = .fields fs → sp D Q H →
      ∃ t, PSs (L2H.cxH CX0 P w K mg base N qual (defScope st) f cdv A fr s H E (a, oe)) (defBody st) t ∧ t { nx := fun _ H' => Q .non H', rt := Q } (start N [.ref a]) H) : FnE P w K mg base (k + 1) f fd y sp := by
  obtain ⟨oc, od, kV, doc, pm, an, cdv, ct, osl, rfl, lk, hcd⟩ := F.ex
  refine ⟨fun A fr s H ar us Q E a D oe fs hG hr pin z fl e0 hb r hsp => ?_⟩
  have kept : ∀ b o, base.get? b = some o → s.heap.get? b = some o := fun b o e => (e0.bs b o e).1
  have kinds : ∀ z ∈ ([y] : List Str).zip us, (defScope st).names.lookup z.1 = some .local ∨ ((defScope st).names.lookup z.1 = some .cell ∧ ((cellsFrom (s.heap.objs.size + 1) (defScope st).names []).lookup z.1).isSome = true) := by
    intro z hz
    rcases S.par z.1 (List.of_mem_zip hz).1 with l | c
    · exact Or.inl l
    · exact Or.inr ⟨c, PySem.W.cellsFrom_some _ _ _ (Or.inl c)⟩
  apply codeAny_call_function hr.depth ((e0.mod.kin.keeps kept) _ _ lk) rfl S.co S.gen rfl (PySem.W.codeRec_of (e0.mod.kin.keeps kept) hcd)
  apply hb
  apply wpAny_newFunctionEnv_cells S.kind kinds
  intro env he s1 ic
  cases he
  refine ⟨(e0.mod.nolimit.keeps kept).keeps ic.toInCall.keep, codeAny_func ?_⟩
  obtain ⟨t, walk, now⟩ := hbody cdv A fr s H Q E a D oe fs hG (hr.deeper _) z fl hsp
  refine wpAny_mono (walk.run [] s1 (start N [.ref a]) H _ (L2H.inv_startH S pin e0 rfl r ic) now) (fun fl s' ends => ?_) (fun _ _ ends => ends)
  match fl, ends with
  | .ret u, ⟨v, σ', H', J, rv, q⟩ => exact ⟨v, H', J.os, J.bare, J.base, J.hok, rv, q⟩
  | .next, ⟨σ', H', J, q⟩ => exact ⟨V.non, H', J.os, J.bare, J.base, J.hok, rfl, q⟩
  | .brk, ⟨_, _, _, q⟩ => exact q.elim
  | .cont, ⟨_, _, _, q⟩ => exact q.elim
end
section
variable {X : Cx} {k : Nat} {f : Addr} {fd : FuncData} {x y : Str} {sp : Addr → VK → Hp → Prop} {p pos : Pos} {e : Expr} {te : TE} {a : Addr} {oe : Obj} {pn : List (Addr × Obj)} {cls : Value} {d : Option Addr}
/-- f(e) in an except suite, e the error that is handled -/
theorem pe_callE (G : X.A.guards = some []) (F : FnE X.prog X.w X.K X.mg X.base k f fd y sp) (hr : L2H.RoomH k X.A) (hg : Gl X x) (hm : X.mg x = some (.ref f)) (hk : PySem.W.keepIn X.K (.ref f) = true) (hb : Binds X.K fd [y] []) (hz : Zc cls d oe)
    (hf : ∃ vs, oe.data = .fields vs) (he : PE (X.suite a ((a, oe) :: pn)) e te) (hdb : (x == ("__debug__" : Str)) = false := by decide) (hs : starEach [e] X.env = (false, eval e X.env) :: starEach [] X.env := by rfl) :
    PE (X.suite a ((a, oe) :: pn)) (.Call (.Name x p) [e] [] pos) (fun σ H Q => te σ H fun v H1 => v = .ref a ∧ ∃ D, cls = .ref D ∧ d = none ∧ sp D Q H1) := by
  refine ⟨fun pins s σ H Q I h => wpAny_Call_Name_kw (ld_glob (X := X.suite a ((a, oe) :: pn)) I hg hm ?_ hdb)⟩
  refine PySem.W.callWith_K (h₀ := X.base) I.ok.mod.kin hk ?_ hs (by rfl)
  rw [hs]
  show wpAny _ _ (spliced ((false, eval e X.env) :: backTo pos (starEach [] X.env))) _ _ s
  refine Calls.spliced_cons (thn (he.run pins s σ H _ I h) fun u s1 ⟨v, H1, I1, r1, ev, D, ec, ed, q1⟩ => ?_)
  refine Calls.spliced_nil ⟨I1.kIn, ?_⟩
  subst ev ec ed
  show wpAny _ _ (call (.ref f) [u]) _ _ _
  obtain ⟨g1, g2, g3, g4, g5⟩ := I1.pin (a, oe) (List.mem_append_left _ List.mem_cons_self)
  obtain ⟨vs, hv⟩ := hf
  have pin : L2H.PinOk (X.suite a ((a, oe) :: pn)).stack H1 s1 (a, oe) := ⟨g1, g2, fun hm => by
    rcases List.mem_cons.mp (I1.stkSub a hm) with z | z
    · exact g3 z
    · exact g4 z, g5⟩
  have b := hb s1 [u] I1.kIn rfl
  rw [List.append_nil] at b
  apply wpAny_call
  apply codeAny_mono (F.goes (X.suite a ((a, oe) :: pn)).A _ s1 H1 ⟨[u], []⟩ [u] Q (fun _ _ _ => False) a D oe vs G ⟨hr.dp, hr.un⟩ pin hz hv I1.env0 b (.cons r1 .nil) q1)
  intro res s' ends
  match res, ends with
  | .error er, ends => exact ends.elim
  | .ok (.ret u), ends => exact I1.after ends
  | .ok .next, ends => exact ends.elim
  | .ok .brk, ends => exact ends.elim
  | .ok .cont, ends => exact ends.elim
end
end Fw

/-! The dice of a law: what they promise. -/
namespace Lw
open PySem PySem.Spec PyProof.Rows L2 Fw
def top (i : Nat) : Stmt := PySem.Challenge.pw_flatwebs_k01_errors_and_what_they_keep.main.body.getD i (.Pass ⟨0, 0, 0, 0⟩)
abbrev sDice : Stmt := top 31
abbrev sRoll : Stmt := top 32
abbrev sPick : Stmt := top 33
/-- at p stand dice -/
def DiceAt (H : Hp) (p : Addr) : Prop := ∃ l s c : Int, H p = some (.lst [.int l, .int s, .int c])
/-- all but p stands as it stood -/
def But (p : Addr) (H H' : Hp) : Prop := ∀ b o, b ≠ p → H b = some o → H' b = some o
theorem But.refl {p : Addr} {H : Hp} : But p H H := fun _ _ _ e => e
theorem But.trans {p : Addr} {H H1 H2 : Hp} (a : But p H H1) (b : But p H1 H2) : But p H H2 := fun c o n e => b c o n (a c o n e)
theorem But.upd {p : Addr} {H : Hp} {o : HO} : But p H (upd H p o) := fun b u n e => by
  rw [upd_ne n]
  exact e
theorem But.same {p : Addr} {H H' : Hp} (s : Same H H') : But p H H' := fun b o _ e => s b o e
theorem same_upd {H : Hp} {p : Addr} {o : HO} (n : H p = none) : Same H (upd H p o) := fun b u e => by
  rw [upd_ne (ne_of_none e n)]
  exact e
theorem same_trans {H H1 H2 : Hp} (a : Same H H1) (b : Same H1 H2) : Same H H2 := fun c o e => b c o (a c o e)
theorem DiceAt.same {H H' : Hp} {p : Addr} (d : DiceAt H p) (s : Same H H') : DiceAt H' p := by
  obtain ⟨l, z, c, e⟩ := d
  exact ⟨l, z, c, s _ _ e⟩
/-- a new dice list, made of the script's number -/
def spDice (K : PySem.W.Frag) : Sp := fun vs H Q _ => ∃ (a : Addr) (ns : List Int) (i : Int), vs = [.ref a, .int i] ∧ SqL K H a (ns.map V.int) ∧ ns.length ≤ 63 ∧ 0 ≤ i ∧ i ≤ 1 ∧ ∀ p H', Same H H' → H p = none → DiceAt H' p → Q (.ref p) H'
/-- some number below t -/
def spRoll : Sp := fun vs H Q _ => ∃ (p : Addr) (t : Int), vs = [.ref p, .int t] ∧ DiceAt H p ∧ 0 < t ∧ t < 1000000 ∧ ∀ (r : Int) H', 0 ≤ r → r < t → But p H H' → DiceAt H' p → Q (.int r) H'
/-- some item -/
def spPick (K : PySem.W.Frag) : Sp := fun vs H Q _ => ∃ (p b : Addr) (xs : List V), vs = [.ref p, .ref b] ∧ DiceAt H p ∧ SqL K H b xs ∧ p ≠ b ∧ 0 < xs.length ∧ xs.length < 1000000 ∧ ∀ (r : Nat) (x : V) H', xs[r]? = some x → But p H H' → DiceAt H' p → Q x H'
structure TxD (mg : Str → Option Value) : Prop where
  int : mg "int" = none
  len : mg "len" = none
  max : mg "max" = none
  abs : mg "abs" = none
section
variable {P : Program} {w : World} {K : PySem.W.Frag} {mg : Str → Option Value} {base : Heap} {CX : CXT}
theorem scDice : FnScope ["_law_script", "_law_spot", "_law_cell", "_law_left"] ["_law_script", "_law_spot"] (defScope sDice) := ⟨rfl, rfl, rfl, by decide +kernel, rfl, by decide +kernel, by decide +kernel⟩
theorem ok_dice {f : Addr} {fd : FuncData} (F : Fun K "_law_dice" "_law_dice" sDice f fd) (T : TxD mg) : FnG P w K mg base CX0 1 f fd ["_law_script", "_law_spot"] (spDice K) := by
  refine fnG F scDice (fun vs H Q E h => ?_) (fun cdv A fr s H vs Q E hG hr h => ?_)
  · obtain ⟨a, ns, i, rfl, _⟩ := h
    rfl
  · obtain ⟨a, ns, i, rfl, hS, hl, h0, h1, k⟩ := h
    refine ⟨_, pss_cons (ps_set (i := 2) scDice.nd rfl (Or.inl rfl) (pe_ifExp (pt_cmpR op_lt (pv 1) (pe_callB call_len_seq (by rfl) T.len PySem.boot_len (pa_cons (pv 0) pa_nil)) (nomark _))
          (pe_callTy call_int1 (by rfl) T.int (by decide +kernel) (pa_cons (pe_ix ix_list (pv 0) (pv 1) (fun _ _ => rfl)) pa_nil))
          (pe_op op_add (pe_op op_mul pe_int (pv 1)) pe_int)))
      (pss_cons (ps_set (i := 3) scDice.nd rfl (Or.inl rfl) (pe_op op_mod (pe_callB (call_max2 rfl) (by rfl) T.max (by decide +kernel) (pa_cons pe_int (pa_cons
          (pe_op op_sub (pe_callB call_abs (by rfl) T.abs (by decide +kernel) (pa_cons (pv 2) pa_nil)) (pe_op op_pow pe_int pe_int)) pa_nil)))
          (pe_op op_mulW (pe_op op_pow pe_int pe_int) (pe_op op_pow pe_int pe_int))))
      (pss_one (ps_ret (pe_lst (pa_cons (pv 3) (pa_cons
          (pe_op op_add (pe_op op_add (pe_op op_add (pe_op op_mul (pe_op op_mod (pe_callB call_abs (by rfl) T.abs (by decide +kernel) (pa_cons (pv 2) pa_nil)) pe_int) pe_int) (pe_op op_mul pe_int (pv 1)))
            (pe_op op_mul pe_int (pe_callTy call_int1 (by rfl) T.int (by decide +kernel) (pa_cons (pe_cmpR op_lt (pv 2) pe_int (nomark _)) pa_nil)))) pe_int)
          (pa_cons pe_int pa_nil))))))), ?_⟩
    have pw : ∀ k : Nat, k ≤ 100 → CPow 10 (k : Int) := fun k hk => ⟨by omega, by omega, by decide⟩
    have cm : CMulW (10 ^ Int.toNat 60) (10 ^ Int.toNat 60) := by
      unfold CMulW
      decide +kernel
    have ps1 : (0 : Int) < 10 ^ Int.toNat 60 * 10 ^ Int.toNat 60 := by decide +kernel
    have ps2 : (0 : Int) < 1152921504606846883 := by decide
    have few : ∀ x y z : V, [x, y, z].length ≤ sizeLine := fun _ _ _ => (by decide : 3 ≤ sizeLine)
    have done_ : ∀ l s' : Int, ∀ p, H p = none → Q (.ref p) (upd H p (.lst [.int l, .int s', .int 0])) := fun l s' p hp => k p _ (same_upd hp) hp ⟨l, s', 0, upd_same⟩
    refine ⟨_, rfl, _, rfl, a, _, rfl, .inl hS, _, _, rfl, rfl, _, rfl, ?_⟩
    refine ite2 (fun c => ?_) (fun c => ?_)
    · have lt : i.toNat < ns.length := by
        have c' : i < ((ns.map V.int).length : Int) := of_decide_eq_true c
        rw [List.length_map] at c'
        omega
      obtain ⟨n, hn⟩ : ∃ n, ns[i.toNat]? = some n := ⟨_, List.getElem?_eq_getElem lt⟩
      have at_ : atI (ns.map V.int) i = some (V.int n) := by
        have e := atI_nat (xs := ns.map V.int) (j := i.toNat) (v := V.int n) (by rw [List.getElem?_map, hn]; rfl)
        rw [Int.toNat_of_nonneg h0] at e
        exact e
      refine ⟨_, rfl, _, rfl, a, _, _, _, rfl, rfl, hS, at_, .inl ⟨_, rfl, ?_⟩⟩
      refine ⟨_, rfl, _, rfl, _, _, rfl, rfl, pw 16 (by decide), _, _, rfl, rfl, _, _, rfl, _, _, rfl, rfl, pw 60 (by decide), _, _, rfl, rfl, pw 60 (by decide), _, _, rfl, rfl, cm, _, _, rfl, rfl, ps1, ?_⟩
      refine ⟨_, rfl, _, rfl, _, rfl, _, _, rfl, rfl, ps2, _, _, rfl, rfl, .inr ⟨by decide, by decide⟩, _, rfl, _, _, rfl, rfl, .inl ⟨by decide, by decide⟩, _, _, rfl, rfl,
        _, rfl, _, _, rfl, rfl, .inr ⟨_, rfl, _, _, rfl, rfl, .inl ⟨by decide, by decide⟩, _, _, rfl, rfl, _, _, rfl, rfl, few _ _ _, done_ _ _⟩⟩
    · refine ⟨_, rfl, _, _, rfl, rfl, .inl ⟨by decide, by decide⟩, _, _, rfl, rfl, ?_⟩
      refine ⟨_, rfl, _, rfl, _, _, rfl, rfl, pw 16 (by decide), _, _, rfl, rfl, _, _, rfl, _, _, rfl, rfl, pw 60 (by decide), _, _, rfl, rfl, pw 60 (by decide), _, _, rfl, rfl, cm, _, _, rfl, rfl, ps1, ?_⟩
      refine ⟨_, rfl, _, rfl, _, rfl, _, _, rfl, rfl, ps2, _, _, rfl, rfl, .inr ⟨by decide, by decide⟩, _, rfl, _, _, rfl, rfl, .inl ⟨by decide, by decide⟩, _, _, rfl, rfl,
        _, rfl, _, _, rfl, rfl, .inr ⟨_, rfl, _, _, rfl, rfl, .inl ⟨by decide, by decide⟩, _, _, rfl, rfl, _, _, rfl, rfl, few _ _ _, done_ _ _⟩⟩
theorem scRoll : FnScope ["_law_dice_here", "_law_total", "_law_found", "_law_one", "_law_two"] ["_law_dice_here", "_law_total"] (defScope sRoll) := ⟨rfl, rfl, rfl, by decide +kernel, rfl, by decide +kernel, by decide +kernel⟩
theorem ok_roll {f : Addr} {fd : FuncData} (F : Fun K "_law_roll" "_law_roll" sRoll f fd) (T : TxD mg) : FnG P w K mg base CX0 1 f fd ["_law_dice_here", "_law_total"] spRoll := by
  refine fnG F scRoll (fun vs H Q E h => ?_) (fun cdv A fr s H vs Q E hG hr h => ?_)
  · obtain ⟨p, t, rfl, _⟩ := h
    rfl
  · obtain ⟨p, t, rfl, ⟨l, z, c, hp⟩, t0, t1, k⟩ := h
    refine ⟨_, pss_cons (ps_if (pt_cmpR op_gt (pe_ix ix_list (pv 0) pe_int (fun _ _ => rfl)) pe_int (nomark _))
        (pss_cons (ps_set (i := 2) scRoll.nd rfl (Or.inl rfl) (pe_op op_mod (pe_callTy call_int1 (by rfl) T.int (by decide +kernel) (pa_cons (pe_ix ix_list (pv 0) pe_int (fun _ _ => rfl)) pa_nil)) (pv 1)))
        (pss_cons (ps_asg (pe_op op_fdiv (pe_ix ix_list (pv 0) pe_int (fun _ _ => rfl)) (pv 1)) (pg_sub (pv 0) pe_int set_list))
        (pss_one (ps_ret (pv 2))))) pss_nil)
      (pss_cons (ps_asg (pe_op op_add (pe_ix ix_list (pv 0) pe_int (fun _ _ => rfl)) pe_int) (pg_sub (pv 0) pe_int set_list))
      (pss_cons (ps_set (i := 3) scRoll.nd rfl (Or.inl rfl) (pe_op op_mod (pe_callTy call_int1 (by rfl) T.int (by decide +kernel) (pa_cons (pe_op op_add (pe_ix ix_list (pv 0) pe_int (fun _ _ => rfl)) (pe_op op_mul pe_int (pe_ix ix_list (pv 0) pe_int (fun _ _ => rfl)))) pa_nil)) pe_int))
      (pss_cons (ps_set (i := 4) scRoll.nd rfl (Or.inl rfl) (pe_op op_add (pe_op op_mul (pe_op op_mod (pe_callTy call_int1 (by rfl) T.int (by decide +kernel) (pa_cons (pe_op op_add (pe_op op_mul (pv 3) (pv 3)) (pe_op op_mul pe_int (pe_ix ix_list (pv 0) pe_int (fun _ _ => rfl)))) pa_nil)) pe_int) pe_int) (pv 3)))
      (pss_one (ps_ret (pe_op op_mod (pe_callTy call_int1 (by rfl) T.int (by decide +kernel) (pa_cons (pe_op op_fdiv (pv 4) pe_int) pa_nil)) (pv 1))))))), ?_⟩
    have i0 : ∀ x y u : V, atI [x, y, u] 0 = some x := fun _ _ _ => rfl
    have i1 : ∀ x y u : V, atI [x, y, u] 1 = some y := fun _ _ _ => rfl
    have i2 : ∀ x y u : V, atI [x, y, u] 2 = some u := fun _ _ _ => rfl
    refine ⟨_, rfl, p, _, _, _, rfl, rfl, SqL.of hp, i0 _ _ _, _, _, rfl, rfl, _, rfl, ?_⟩
    refine ite2 (fun _ => ?_) (fun _ => ?_)
    · refine ⟨_, rfl, p, _, _, _, rfl, rfl, SqL.of hp, i0 _ _ _, .inl ⟨_, rfl, _, rfl, _, _, rfl, rfl, t0, ?_⟩⟩
      refine ⟨_, rfl, p, _, _, _, rfl, rfl, SqL.of hp, i0 _ _ _, _, rfl, _, _, rfl, rfl, ⟨t0, by omega⟩, ?_⟩
      refine ⟨_, rfl, p, _, 0, 0, rfl, rfl, hp, rfl, ?_⟩
      exact ⟨_, rfl, k _ _ (Int.emod_nonneg _ (by omega)) (Int.emod_lt_of_pos _ t0) But.upd ⟨_, _, _, upd_same⟩⟩
    · refine ⟨_, rfl, p, _, _, _, rfl, rfl, SqL.of hp, i2 _ _ _, _, _, rfl, rfl, ?_⟩
      refine ⟨_, rfl, p, _, 2, 2, rfl, rfl, hp, rfl, ?_⟩
      have hq : (upd H p (.lst [.int l, .int z, .int (c + 1)])) p = some (.lst [.int l, .int z, .int (c + 1)]) := upd_same
      refine ⟨_, rfl, p, _, _, _, rfl, rfl, SqL.of hq, i1 _ _ _, _, rfl, p, _, _, _, rfl, rfl, SqL.of hq, i2 _ _ _, _, _, rfl, rfl, .inl ⟨by decide, by decide⟩, _, _, rfl, rfl, .inl ⟨_, rfl, _, _, rfl, rfl, (by show (0 : Int) < 2305843009213693907; decide), ?_⟩⟩
      have b0 := Int.emod_nonneg (z + 57885161 * (c + 1)) (show (2305843009213693907 : Int) ≠ 0 by decide)
      have b1 := Int.emod_lt_of_pos (z + 57885161 * (c + 1)) (show (0 : Int) < 2305843009213693907 by decide)
      refine ⟨_, rfl, _, rfl, _, _, rfl, rfl, .inl ⟨by omega, by omega⟩, _, rfl, p, _, _, _, rfl, rfl, SqL.of hq, i2 _ _ _, _, _, rfl, rfl, .inl ⟨by decide, by decide⟩, _, _, rfl, rfl, .inl ⟨_, rfl, _, _, rfl, rfl, (by show (0 : Int) < 2305843009213693921; decide), _, _, rfl, rfl, .inr ⟨by decide, by decide⟩, _, rfl, _, _, rfl, rfl, ?_⟩⟩
      refine ⟨_, rfl, _, _, rfl, rfl, ⟨by decide, by decide⟩, .inl ⟨_, rfl, _, rfl, _, _, rfl, rfl, t0, ?_⟩⟩
      exact k _ _ (Int.emod_nonneg _ (by omega)) (Int.emod_lt_of_pos _ t0) But.upd ⟨_, _, _, upd_same⟩
theorem scPick : FnScope ["_law_dice_here", "_law_items"] ["_law_dice_here", "_law_items"] (defScope sPick) := ⟨rfl, rfl, rfl, by decide +kernel, rfl, by decide +kernel, by decide +kernel⟩
theorem But.seqL {p b : Addr} {H H' : Hp} {xs : List V} (u : But p H H') (n : b ≠ p) (h : SqL K H b xs) : SqL K H' b xs := by
  rcases h with (h | ⟨o, h⟩) | h
  · exact .inl (.inl (u _ _ n h))
  · exact .inl (.inr ⟨o, u _ _ n h⟩)
  · exact .inr h
theorem ok_pick {f fR : Addr} {fd fdR : FuncData} (F : Fun K "_law_pick" "_law_pick" sPick f fd) (T : TxD mg) (mR : mg "_law_roll" = some (.ref fR)) (FR : Fun K "_law_roll" "_law_roll" sRoll fR fdR) (bR : Binds K fdR ["_law_dice_here", "_law_total"] []) :
    FnG P w K mg base CX0 2 f fd ["_law_dice_here", "_law_items"] (spPick K) := by
  have GR : FnG P w K mg base CX0 1 fR fdR ["_law_dice_here", "_law_total"] spRoll := ok_roll FR T
  refine fnG F scPick (fun vs H Q E h => ?_) (fun cdv A fr s H vs Q E hG hr h => ?_)
  · obtain ⟨p, b, xs, rfl, _⟩ := h
    rfl
  · obtain ⟨p, b, xs, rfl, hd, hx, ne, l0, l1, k⟩ := h
    refine ⟨_, pss_one (ps_ret (pe_ix ix_list (pv 1) (pe_callG (E := fun _ _ _ _ => False) hG GR hr (by rfl) mR FR.kp bR .nil (fun _ => passAt0) (pa_cons (pv 0) (pa_cons (pe_callB call_len_seq (by rfl) T.len PySem.boot_len (pa_cons (pv 1) pa_nil)) pa_nil))) (fun _ _ => rfl))), ?_⟩
    refine ⟨_, rfl, _, rfl, _, rfl, b, _, rfl, .inl hx, ?_⟩
    refine ⟨p, _, rfl, hd, by omega, by omega, fun r H' r0 r1 but d' => ?_⟩
    have lt : r.toNat < xs.length := by omega
    refine ⟨b, xs, r, _, rfl, rfl, but.seqL ne.symm hx, ?_, k r.toNat _ H' (List.getElem?_eq_getElem lt) but d'⟩
    have e := atI_nat (xs := xs) (j := r.toNat) (List.getElem?_eq_getElem lt)
    rw [Int.toNat_of_nonneg r0] at e
    exact e
end
end Lw

/-! The errors by number, and which of them is which. -/
namespace Lw
open PySem PySem.Spec PyProof.Rows L2 Fw

def nm : Nat → Str
  | 0 => "WebError"
  | 1 => "InvalidPlace"
  | 2 => "InvalidTie"
  | 3 => "InvalidWeb"
  | 4 => "InvalidTable"
  | 5 => "InvalidDrawing"
  | 6 => "InvalidRoute"
  | 7 => "InvalidRim"
  | 8 => "InvalidBar"
  | 9 => "InvalidParting"
  | 10 => "InvalidPart"
  | 11 => "InvalidFlip"
  | 12 => "InvalidNoose"
  | 13 => "InvalidCover"
  | 14 => "InvalidOrder"
  | 15 => "InvalidEars"
  | 16 => "InvalidBeams"
  | 17 => "InvalidTrees"
  | 18 => "InvalidCorners"
  | 19 => "InvalidPicture"
  | 20 => "InvalidColours"
  | 21 => "InvalidOperation"
  | 22 => "ParseError"
  | 23 => "UnknownName"
  | 24 => "Undrawn"
  | 25 => "InvalidNumber"
  | 26 => "NothingToUndo"
  | 27 => "TooMany"
  | 28 => "Refused"
  | _ => ""
def ty : Nat → String
  | 0 => "ValueError"
  | 1 => "KeyError"
  | 2 => "IndexError"
  | 3 => "LookupError"
  | 4 => "RuntimeError"
  | 5 => "OverflowError"
  | 6 => "ArithmeticError"
  | _ => ""
def fld : Nat → Str
  | 22 => "number"
  | 23 => "word"
  | 24 => "bar"
  | 25 => "value"
  | 26 => "many"
  | 27 => "limit"
  | 28 => "pledge"
  | _ => ""
/-- is the error with number i one of number j -/
def isA (i j : Nat) : Bool := i == j || (j == 0 && Nat.ble i 22)
def isT (i k : Nat) : Bool := match k with
  | 0 => Nat.ble i 22
  | 1 => i == 23
  | 2 => i == 25
  | 3 => i == 23 || (i == 24 || i == 25)
  | 4 => i == 26
  | 5 => i == 27
  | _ => i == 27 || i == 28
def veB : List Value := [.type "ValueError", .type "Exception", .type "BaseException", .type "object"]
structure TxE (K : PySem.W.Frag) (mg : Str → Option Value) (A I : Nat → Addr) : Prop where
  gl : ∀ i, i < 29 → mg (nm i) = some (.ref (A i))
  ex : ∀ i, i < 29 → L2.ExcC K (A i)
  own : ∀ i j, i < 29 → j < 29 → PySem.W.kitOne K (.ref (A i)) (.ref (A j)) = some (isA i j)
  typ : ∀ i k, i < 29 → k < 7 → PySem.W.kitOne K (.ref (A i)) (.type (ty k)) = some (isT i k)
  kp : ∀ i, i < 29 → PySem.W.keepIn K (.ref (A i)) = true
  plain : ∀ i, i < 22 → PySem.W.excIn K (A i) veB "ValueError.__new__" = true
  xf : ∀ i, i < 29 → XfC K (A i)
  init : ∀ i, 22 ≤ i → i < 29 → ∃ q, InitC K (A i) (I i) q (fld i)
  tyN : ∀ k, k < 7 → mg (Str.ofString (ty k)) = none
  sub : ∀ i j, i < 29 → j < 29 → PySem.W.subIn K (.ref (A i)) (.ref (A j)) = some (isA i j)
  tyC : ∀ i, i < 29 → PySem.W.typeIn K (.ref (A i)) = some (.type "type")
  isi : mg "isinstance" = none
  rpr : mg "repr" = none
  rng : mg "range" = none
  min : mg "min" = none
def lt (z : Str) (b : Bool) : Str := if b = true then z else Str.empty
theorem lt_len (z : Str) (b : Bool) : (lt z b).length ≤ z.length := by
  cases b with
  | true => exact Nat.le_refl _
  | false => exact Nat.zero_le _
theorem cat_len {x y : Str} {m n : Nat} (h : x.length ≤ m) (k : y.length ≤ n) : (x ++ y).length ≤ m + n := by
  show (x.cps ++ y.cps).size ≤ _
  rw [Array.size_append]
  exact Nat.add_le_add h k
section
variable {X : Cx} {e c : Expr} {z : Str} {i j : Nat} {v : V} {p0 p1 p2 p3 p4 p5 : Pos}
/-- z * int(isinstance(e, c)) -/
theorem pe_let (gI : Gl X "int") (hI : X.mg "int" = none) (gS : Gl X "isinstance") (hS : X.mg "isinstance" = none) (he : PE X e (tVar i)) (hc : PE X c (tC v))
    (s1 : starEach [e, c] X.env = (false, eval e X.env) :: starEach [c] X.env := by rfl) (s2 : starEach [c] X.env = (false, eval c X.env) :: starEach [] X.env := by rfl)
    (s3 : starEach [.Call (.Name "isinstance" p2) [e, c] [] p3] X.env = (false, eval (.Call (.Name "isinstance" p2) [e, c] [] p3) X.env) :: starEach [] X.env := by rfl)
    (s4 : (backTo p3 (starEach [c] X.env)).any (·.1) = false := by rfl) :
    PE X (.BinOp (.Constant (.str z) j p0) .Mult (.Call (.Name "int" p1) [.Call (.Name "isinstance" p2) [e, c] [] p3] [] p4) p5)
      (fun σ H Q => ∃ (a D : Addr) (cv : Value) (b : Bool), σ[i]? = some (some (.ref a)) ∧ Ers X H a D ∧ L2.ExcC X.K D ∧ ClsV v cv ∧ PySem.W.kitOne X.K (.ref D) cv = some b ∧ Q (.str (lt z b)) H) := by
  refine ⟨fun pins s σ H Q I h => ?_⟩
  obtain ⟨a, D, cv, b, hs, he', hx, hv, hk, q⟩ := h
  refine (pe_op op_mulS pe_str (pe_callTy call_int1 gI hI (by decide +kernel) (pa_cons (pe_callB call_isH gS hS (by decide +kernel) (pa_cons he (pa_cons hc pa_nil s2) s1) (he := s1) (hpl := s4)) pa_nil s3) (he := s3))).run pins s σ H Q I ?_
  exact ⟨_, hs, a, D, _, cv, b, rfl, he', hx, hv, hk, .inr ⟨_, rfl, _, _, rfl, rfl, q⟩⟩
end

def first (i : Nat) : Str := ((((((((((lt "a" (isA i 1) ++ lt "b" (isA i 2)) ++ lt "c" (isA i 3)) ++ lt "d" (isA i 4)) ++ lt "e" (isA i 5)) ++ lt "f" (isA i 6)) ++ lt "g" (isA i 7)) ++ lt "h" (isA i 8)) ++ lt "i" (isA i 9)) ++ lt "j" (isA i 10)) ++ lt "k" (isA i 11))
def second (i : Nat) : Str := (((((((((lt "l" (isA i 12) ++ lt "m" (isA i 13)) ++ lt "n" (isA i 14)) ++ lt "o" (isA i 15)) ++ lt "p" (isA i 16)) ++ lt "q" (isA i 17)) ++ lt "r" (isA i 18)) ++ lt "s" (isA i 19)) ++ lt "t" (isA i 20)) ++ lt "u" (isA i 21))
def kinds (i : Nat) : Str := ((((((((((((((lt "P" (isA i 22) ++ lt "U" (isA i 23)) ++ lt "D" (isA i 24)) ++ lt "N" (isA i 25)) ++ lt "Z" (isA i 26)) ++ lt "M" (isA i 27)) ++ lt "R" (isA i 28)) ++ lt " web" (isA i 0)) ++ lt " value" (isT i 0)) ++ lt " key" (isT i 1)) ++ lt " index" (isT i 2)) ++ lt " lookup" (isT i 3)) ++ lt " runtime" (isT i 4)) ++ lt " overflow" (isT i 5)) ++ lt " arithmetic" (isT i 6))
def spHalf (A : Nat → Addr) (t : Nat → Str) : Sp := fun vs H Q _ => ∃ (a : Addr) (i : Nat), vs = [.ref a] ∧ i < 29 ∧ IsErr H a (A i) ∧ Q (.str (t i)) H
abbrev sMade : Stmt := top 34
abbrev sFirst : Stmt := top 35
abbrev sSecond : Stmt := top 36
abbrev sKinds : Stmt := top 37
abbrev sAll : Stmt := top 38
abbrev sKept : Stmt := top 39
abbrev sCaught : Stmt := top 40
abbrev sRight : Stmt := top 41
abbrev sLaw : Stmt := top 42
section
variable {P : Program} {w : World} {K : PySem.W.Frag} {mg : Str → Option Value} {base : Heap} {CX : CXT} {A I : Nat → Addr}

theorem scFirst : FnScope ["_law_error", "_law_found"] ["_law_error"] (defScope sFirst) := ⟨rfl, rfl, rfl, by decide +kernel, rfl, by decide +kernel, by decide +kernel⟩
theorem ok_first {f : Addr} {fd : FuncData} (F : Fun K "_law_first_half" "_law_first_half" sFirst f fd) (D : TxD mg) (T : TxE K mg A I) : FnG P w K mg base CX0 1 f fd ["_law_error"] (spHalf A first) := by
  refine fnG F scFirst (fun vs H Q E h => ?_) (fun cdv Ar fr s H vs Q E hG hr h => ?_)
  · obtain ⟨a, i, rfl, _⟩ := h
    rfl
  · obtain ⟨a, i, rfl, hi, he, q⟩ := h
    refine ⟨_, (pss_cons (ps_set (i := 1) scFirst.nd rfl (Or.inl rfl) (pe_op op_add_str (pe_let (by rfl) D.int (by rfl) T.isi (pv 0) (pe_glob (v := .ref (A 1)) (by rfl) (T.gl 1 (by decide)) rfl)) (pe_let (by rfl) D.int (by rfl) T.isi (pv 0) (pe_glob (v := .ref (A 2)) (by rfl) (T.gl 2 (by decide)) rfl))))
      (pss_cons (ps_set (i := 1) scFirst.nd rfl (Or.inl rfl) (pe_op op_add_str (pe_op op_add_str (pv 1) (pe_let (by rfl) D.int (by rfl) T.isi (pv 0) (pe_glob (v := .ref (A 3)) (by rfl) (T.gl 3 (by decide)) rfl))) (pe_let (by rfl) D.int (by rfl) T.isi (pv 0) (pe_glob (v := .ref (A 4)) (by rfl) (T.gl 4 (by decide)) rfl))))
      (pss_cons (ps_set (i := 1) scFirst.nd rfl (Or.inl rfl) (pe_op op_add_str (pe_op op_add_str (pv 1) (pe_let (by rfl) D.int (by rfl) T.isi (pv 0) (pe_glob (v := .ref (A 5)) (by rfl) (T.gl 5 (by decide)) rfl))) (pe_let (by rfl) D.int (by rfl) T.isi (pv 0) (pe_glob (v := .ref (A 6)) (by rfl) (T.gl 6 (by decide)) rfl))))
      (pss_cons (ps_set (i := 1) scFirst.nd rfl (Or.inl rfl) (pe_op op_add_str (pe_op op_add_str (pv 1) (pe_let (by rfl) D.int (by rfl) T.isi (pv 0) (pe_glob (v := .ref (A 7)) (by rfl) (T.gl 7 (by decide)) rfl))) (pe_let (by rfl) D.int (by rfl) T.isi (pv 0) (pe_glob (v := .ref (A 8)) (by rfl) (T.gl 8 (by decide)) rfl))))
      (pss_cons (ps_set (i := 1) scFirst.nd rfl (Or.inl rfl) (pe_op op_add_str (pe_op op_add_str (pv 1) (pe_let (by rfl) D.int (by rfl) T.isi (pv 0) (pe_glob (v := .ref (A 9)) (by rfl) (T.gl 9 (by decide)) rfl))) (pe_let (by rfl) D.int (by rfl) T.isi (pv 0) (pe_glob (v := .ref (A 10)) (by rfl) (T.gl 10 (by decide)) rfl))))
      (pss_one (ps_ret (pe_op op_add_str (pv 1) (pe_let (by rfl) D.int (by rfl) T.isi (pv 0) (pe_glob (v := .ref (A 11)) (by rfl) (T.gl 11 (by decide)) rfl)))))))))), ?_⟩
    refine ⟨a, _, _, _, rfl, .inl he, T.ex i hi, .own _, T.own i 1 hi (by decide), a, _, _, _, rfl, .inl he, T.ex i hi, .own _, T.own i 2 hi (by decide), _, _, rfl, rfl, Nat.le_trans (Nat.add_le_add (lt_len _ _) (lt_len _ _)) (by decide), ?_⟩
    refine ⟨_, rfl, a, _, _, _, rfl, .inl he, T.ex i hi, .own _, T.own i 3 hi (by decide), _, _, rfl, rfl, Nat.le_trans (Nat.add_le_add (cat_len (lt_len _ _) (lt_len _ _)) (lt_len _ _)) (by decide), a, _, _, _, rfl, .inl he, T.ex i hi, .own _, T.own i 4 hi (by decide), _, _, rfl, rfl, Nat.le_trans (Nat.add_le_add (cat_len (cat_len (lt_len _ _) (lt_len _ _)) (lt_len _ _)) (lt_len _ _)) (by decide), ?_⟩
    refine ⟨_, rfl, a, _, _, _, rfl, .inl he, T.ex i hi, .own _, T.own i 5 hi (by decide), _, _, rfl, rfl, Nat.le_trans (Nat.add_le_add (cat_len (cat_len (cat_len (lt_len _ _) (lt_len _ _)) (lt_len _ _)) (lt_len _ _)) (lt_len _ _)) (by decide), a, _, _, _, rfl, .inl he, T.ex i hi, .own _, T.own i 6 hi (by decide), _, _, rfl, rfl, Nat.le_trans (Nat.add_le_add (cat_len (cat_len (cat_len (cat_len (lt_len _ _) (lt_len _ _)) (lt_len _ _)) (lt_len _ _)) (lt_len _ _)) (lt_len _ _)) (by decide), ?_⟩
    refine ⟨_, rfl, a, _, _, _, rfl, .inl he, T.ex i hi, .own _, T.own i 7 hi (by decide), _, _, rfl, rfl, Nat.le_trans (Nat.add_le_add (cat_len (cat_len (cat_len (cat_len (cat_len (lt_len _ _) (lt_len _ _)) (lt_len _ _)) (lt_len _ _)) (lt_len _ _)) (lt_len _ _)) (lt_len _ _)) (by decide), a, _, _, _, rfl, .inl he, T.ex i hi, .own _, T.own i 8 hi (by decide), _, _, rfl, rfl, Nat.le_trans (Nat.add_le_add (cat_len (cat_len (cat_len (cat_len (cat_len (cat_len (lt_len _ _) (lt_len _ _)) (lt_len _ _)) (lt_len _ _)) (lt_len _ _)) (lt_len _ _)) (lt_len _ _)) (lt_len _ _)) (by decide), ?_⟩
    refine ⟨_, rfl, a, _, _, _, rfl, .inl he, T.ex i hi, .own _, T.own i 9 hi (by decide), _, _, rfl, rfl, Nat.le_trans (Nat.add_le_add (cat_len (cat_len (cat_len (cat_len (cat_len (cat_len (cat_len (lt_len _ _) (lt_len _ _)) (lt_len _ _)) (lt_len _ _)) (lt_len _ _)) (lt_len _ _)) (lt_len _ _)) (lt_len _ _)) (lt_len _ _)) (by decide), a, _, _, _, rfl, .inl he, T.ex i hi, .own _, T.own i 10 hi (by decide), _, _, rfl, rfl, Nat.le_trans (Nat.add_le_add (cat_len (cat_len (cat_len (cat_len (cat_len (cat_len (cat_len (cat_len (lt_len _ _) (lt_len _ _)) (lt_len _ _)) (lt_len _ _)) (lt_len _ _)) (lt_len _ _)) (lt_len _ _)) (lt_len _ _)) (lt_len _ _)) (lt_len _ _)) (by decide), ?_⟩
    exact ⟨_, rfl, a, _, _, _, rfl, .inl he, T.ex i hi, .own _, T.own i 11 hi (by decide), _, _, rfl, rfl, Nat.le_trans (Nat.add_le_add (cat_len (cat_len (cat_len (cat_len (cat_len (cat_len (cat_len (cat_len (cat_len (lt_len _ _) (lt_len _ _)) (lt_len _ _)) (lt_len _ _)) (lt_len _ _)) (lt_len _ _)) (lt_len _ _)) (lt_len _ _)) (lt_len _ _)) (lt_len _ _)) (lt_len _ _)) (by decide), q⟩
theorem hot_first {f : Addr} {fd : FuncData} (F : Fun K "_law_first_half" "_law_first_half" sFirst f fd) (D : TxD mg) (T : TxE K mg A I) : FnE P w K mg base 1 f fd "_law_error" (fun D Q H => ∃ i, i < 29 ∧ D = A i ∧ Q (.str (first i)) H) := by
  refine fnE F scFirst (fun cdv Ar fr s H Q E a D oe fs hG hr z fl h => ?_)
  obtain ⟨i, hi, rfl, q⟩ := h
  have he : Ers (L2H.cxH CX0 P w K mg base ["_law_error", "_law_found"] "_law_first_half" (defScope sFirst) f cdv Ar fr s H E (a, oe)) H a (A i) := .inr ⟨oe, fs, List.mem_cons_self, z, fl⟩
  refine ⟨_, (pss_cons (ps_set (i := 1) scFirst.nd rfl (Or.inl rfl) (pe_op op_add_str (pe_let (by rfl) D.int (by rfl) T.isi (pv 0) (pe_glob (v := .ref (A 1)) (by rfl) (T.gl 1 (by decide)) rfl)) (pe_let (by rfl) D.int (by rfl) T.isi (pv 0) (pe_glob (v := .ref (A 2)) (by rfl) (T.gl 2 (by decide)) rfl))))
      (pss_cons (ps_set (i := 1) scFirst.nd rfl (Or.inl rfl) (pe_op op_add_str (pe_op op_add_str (pv 1) (pe_let (by rfl) D.int (by rfl) T.isi (pv 0) (pe_glob (v := .ref (A 3)) (by rfl) (T.gl 3 (by decide)) rfl))) (pe_let (by rfl) D.int (by rfl) T.isi (pv 0) (pe_glob (v := .ref (A 4)) (by rfl) (T.gl 4 (by decide)) rfl))))
      (pss_cons (ps_set (i := 1) scFirst.nd rfl (Or.inl rfl) (pe_op op_add_str (pe_op op_add_str (pv 1) (pe_let (by rfl) D.int (by rfl) T.isi (pv 0) (pe_glob (v := .ref (A 5)) (by rfl) (T.gl 5 (by decide)) rfl))) (pe_let (by rfl) D.int (by rfl) T.isi (pv 0) (pe_glob (v := .ref (A 6)) (by rfl) (T.gl 6 (by decide)) rfl))))
      (pss_cons (ps_set (i := 1) scFirst.nd rfl (Or.inl rfl) (pe_op op_add_str (pe_op op_add_str (pv 1) (pe_let (by rfl) D.int (by rfl) T.isi (pv 0) (pe_glob (v := .ref (A 7)) (by rfl) (T.gl 7 (by decide)) rfl))) (pe_let (by rfl) D.int (by rfl) T.isi (pv 0) (pe_glob (v := .ref (A 8)) (by rfl) (T.gl 8 (by decide)) rfl))))
      (pss_cons (ps_set (i := 1) scFirst.nd rfl (Or.inl rfl) (pe_op op_add_str (pe_op op_add_str (pv 1) (pe_let (by rfl) D.int (by rfl) T.isi (pv 0) (pe_glob (v := .ref (A 9)) (by rfl) (T.gl 9 (by decide)) rfl))) (pe_let (by rfl) D.int (by rfl) T.isi (pv 0) (pe_glob (v := .ref (A 10)) (by rfl) (T.gl 10 (by decide)) rfl))))
      (pss_one (ps_ret (pe_op op_add_str (pv 1) (pe_let (by rfl) D.int (by rfl) T.isi (pv 0) (pe_glob (v := .ref (A 11)) (by rfl) (T.gl 11 (by decide)) rfl)))))))))), ?_⟩
  refine ⟨a, _, _, _, rfl, he, T.ex i hi, .own _, T.own i 1 hi (by decide), a, _, _, _, rfl, he, T.ex i hi, .own _, T.own i 2 hi (by decide), _, _, rfl, rfl, Nat.le_trans (Nat.add_le_add (lt_len _ _) (lt_len _ _)) (by decide), ?_⟩
  refine ⟨_, rfl, a, _, _, _, rfl, he, T.ex i hi, .own _, T.own i 3 hi (by decide), _, _, rfl, rfl, Nat.le_trans (Nat.add_le_add (cat_len (lt_len _ _) (lt_len _ _)) (lt_len _ _)) (by decide), a, _, _, _, rfl, he, T.ex i hi, .own _, T.own i 4 hi (by decide), _, _, rfl, rfl, Nat.le_trans (Nat.add_le_add (cat_len (cat_len (lt_len _ _) (lt_len _ _)) (lt_len _ _)) (lt_len _ _)) (by decide), ?_⟩
  refine ⟨_, rfl, a, _, _, _, rfl, he, T.ex i hi, .own _, T.own i 5 hi (by decide), _, _, rfl, rfl, Nat.le_trans (Nat.add_le_add (cat_len (cat_len (cat_len (lt_len _ _) (lt_len _ _)) (lt_len _ _)) (lt_len _ _)) (lt_len _ _)) (by decide), a, _, _, _, rfl, he, T.ex i hi, .own _, T.own i 6 hi (by decide), _, _, rfl, rfl, Nat.le_trans (Nat.add_le_add (cat_len (cat_len (cat_len (cat_len (lt_len _ _) (lt_len _ _)) (lt_len _ _)) (lt_len _ _)) (lt_len _ _)) (lt_len _ _)) (by decide), ?_⟩
  refine ⟨_, rfl, a, _, _, _, rfl, he, T.ex i hi, .own _, T.own i 7 hi (by decide), _, _, rfl, rfl, Nat.le_trans (Nat.add_le_add (cat_len (cat_len (cat_len (cat_len (cat_len (lt_len _ _) (lt_len _ _)) (lt_len _ _)) (lt_len _ _)) (lt_len _ _)) (lt_len _ _)) (lt_len _ _)) (by decide), a, _, _, _, rfl, he, T.ex i hi, .own _, T.own i 8 hi (by decide), _, _, rfl, rfl, Nat.le_trans (Nat.add_le_add (cat_len (cat_len (cat_len (cat_len (cat_len (cat_len (lt_len _ _) (lt_len _ _)) (lt_len _ _)) (lt_len _ _)) (lt_len _ _)) (lt_len _ _)) (lt_len _ _)) (lt_len _ _)) (by decide), ?_⟩
  refine ⟨_, rfl, a, _, _, _, rfl, he, T.ex i hi, .own _, T.own i 9 hi (by decide), _, _, rfl, rfl, Nat.le_trans (Nat.add_le_add (cat_len (cat_len (cat_len (cat_len (cat_len (cat_len (cat_len (lt_len _ _) (lt_len _ _)) (lt_len _ _)) (lt_len _ _)) (lt_len _ _)) (lt_len _ _)) (lt_len _ _)) (lt_len _ _)) (lt_len _ _)) (by decide), a, _, _, _, rfl, he, T.ex i hi, .own _, T.own i 10 hi (by decide), _, _, rfl, rfl, Nat.le_trans (Nat.add_le_add (cat_len (cat_len (cat_len (cat_len (cat_len (cat_len (cat_len (cat_len (lt_len _ _) (lt_len _ _)) (lt_len _ _)) (lt_len _ _)) (lt_len _ _)) (lt_len _ _)) (lt_len _ _)) (lt_len _ _)) (lt_len _ _)) (lt_len _ _)) (by decide), ?_⟩
  exact ⟨_, rfl, a, _, _, _, rfl, he, T.ex i hi, .own _, T.own i 11 hi (by decide), _, _, rfl, rfl, Nat.le_trans (Nat.add_le_add (cat_len (cat_len (cat_len (cat_len (cat_len (cat_len (cat_len (cat_len (cat_len (lt_len _ _) (lt_len _ _)) (lt_len _ _)) (lt_len _ _)) (lt_len _ _)) (lt_len _ _)) (lt_len _ _)) (lt_len _ _)) (lt_len _ _)) (lt_len _ _)) (lt_len _ _)) (by decide), q⟩
theorem scSecond : FnScope ["_law_error", "_law_found"] ["_law_error"] (defScope sSecond) := ⟨rfl, rfl, rfl, by decide +kernel, rfl, by decide +kernel, by decide +kernel⟩
theorem ok_second {f : Addr} {fd : FuncData} (F : Fun K "_law_second_half" "_law_second_half" sSecond f fd) (D : TxD mg) (T : TxE K mg A I) : FnG P w K mg base CX0 1 f fd ["_law_error"] (spHalf A second) := by
  refine fnG F scSecond (fun vs H Q E h => ?_) (fun cdv Ar fr s H vs Q E hG hr h => ?_)
  · obtain ⟨a, i, rfl, _⟩ := h
    rfl
  · obtain ⟨a, i, rfl, hi, he, q⟩ := h
    refine ⟨_, (pss_cons (ps_set (i := 1) scSecond.nd rfl (Or.inl rfl) (pe_op op_add_str (pe_let (by rfl) D.int (by rfl) T.isi (pv 0) (pe_glob (v := .ref (A 12)) (by rfl) (T.gl 12 (by decide)) rfl)) (pe_let (by rfl) D.int (by rfl) T.isi (pv 0) (pe_glob (v := .ref (A 13)) (by rfl) (T.gl 13 (by decide)) rfl))))
      (pss_cons (ps_set (i := 1) scSecond.nd rfl (Or.inl rfl) (pe_op op_add_str (pe_op op_add_str (pv 1) (pe_let (by rfl) D.int (by rfl) T.isi (pv 0) (pe_glob (v := .ref (A 14)) (by rfl) (T.gl 14 (by decide)) rfl))) (pe_let (by rfl) D.int (by rfl) T.isi (pv 0) (pe_glob (v := .ref (A 15)) (by rfl) (T.gl 15 (by decide)) rfl))))
      (pss_cons (ps_set (i := 1) scSecond.nd rfl (Or.inl rfl) (pe_op op_add_str (pe_op op_add_str (pv 1) (pe_let (by rfl) D.int (by rfl) T.isi (pv 0) (pe_glob (v := .ref (A 16)) (by rfl) (T.gl 16 (by decide)) rfl))) (pe_let (by rfl) D.int (by rfl) T.isi (pv 0) (pe_glob (v := .ref (A 17)) (by rfl) (T.gl 17 (by decide)) rfl))))
      (pss_cons (ps_set (i := 1) scSecond.nd rfl (Or.inl rfl) (pe_op op_add_str (pe_op op_add_str (pv 1) (pe_let (by rfl) D.int (by rfl) T.isi (pv 0) (pe_glob (v := .ref (A 18)) (by rfl) (T.gl 18 (by decide)) rfl))) (pe_let (by rfl) D.int (by rfl) T.isi (pv 0) (pe_glob (v := .ref (A 19)) (by rfl) (T.gl 19 (by decide)) rfl))))
      (pss_one (ps_ret (pe_op op_add_str (pe_op op_add_str (pv 1) (pe_let (by rfl) D.int (by rfl) T.isi (pv 0) (pe_glob (v := .ref (A 20)) (by rfl) (T.gl 20 (by decide)) rfl))) (pe_let (by rfl) D.int (by rfl) T.isi (pv 0) (pe_glob (v := .ref (A 21)) (by rfl) (T.gl 21 (by decide)) rfl))))))))), ?_⟩
    refine ⟨a, _, _, _, rfl, .inl he, T.ex i hi, .own _, T.own i 12 hi (by decide), a, _, _, _, rfl, .inl he, T.ex i hi, .own _, T.own i 13 hi (by decide), _, _, rfl, rfl, Nat.le_trans (Nat.add_le_add (lt_len _ _) (lt_len _ _)) (by decide), ?_⟩
    refine ⟨_, rfl, a, _, _, _, rfl, .inl he, T.ex i hi, .own _, T.own i 14 hi (by decide), _, _, rfl, rfl, Nat.le_trans (Nat.add_le_add (cat_len (lt_len _ _) (lt_len _ _)) (lt_len _ _)) (by decide), a, _, _, _, rfl, .inl he, T.ex i hi, .own _, T.own i 15 hi (by decide), _, _, rfl, rfl, Nat.le_trans (Nat.add_le_add (cat_len (cat_len (lt_len _ _) (lt_len _ _)) (lt_len _ _)) (lt_len _ _)) (by decide), ?_⟩
    refine ⟨_, rfl, a, _, _, _, rfl, .inl he, T.ex i hi, .own _, T.own i 16 hi (by decide), _, _, rfl, rfl, Nat.le_trans (Nat.add_le_add (cat_len (cat_len (cat_len (lt_len _ _) (lt_len _ _)) (lt_len _ _)) (lt_len _ _)) (lt_len _ _)) (by decide), a, _, _, _, rfl, .inl he, T.ex i hi, .own _, T.own i 17 hi (by decide), _, _, rfl, rfl, Nat.le_trans (Nat.add_le_add (cat_len (cat_len (cat_len (cat_len (lt_len _ _) (lt_len _ _)) (lt_len _ _)) (lt_len _ _)) (lt_len _ _)) (lt_len _ _)) (by decide), ?_⟩
    refine ⟨_, rfl, a, _, _, _, rfl, .inl he, T.ex i hi, .own _, T.own i 18 hi (by decide), _, _, rfl, rfl, Nat.le_trans (Nat.add_le_add (cat_len (cat_len (cat_len (cat_len (cat_len (lt_len _ _) (lt_len _ _)) (lt_len _ _)) (lt_len _ _)) (lt_len _ _)) (lt_len _ _)) (lt_len _ _)) (by decide), a, _, _, _, rfl, .inl he, T.ex i hi, .own _, T.own i 19 hi (by decide), _, _, rfl, rfl, Nat.le_trans (Nat.add_le_add (cat_len (cat_len (cat_len (cat_len (cat_len (cat_len (lt_len _ _) (lt_len _ _)) (lt_len _ _)) (lt_len _ _)) (lt_len _ _)) (lt_len _ _)) (lt_len _ _)) (lt_len _ _)) (by decide), ?_⟩
    exact ⟨_, rfl, a, _, _, _, rfl, .inl he, T.ex i hi, .own _, T.own i 20 hi (by decide), _, _, rfl, rfl, Nat.le_trans (Nat.add_le_add (cat_len (cat_len (cat_len (cat_len (cat_len (cat_len (cat_len (lt_len _ _) (lt_len _ _)) (lt_len _ _)) (lt_len _ _)) (lt_len _ _)) (lt_len _ _)) (lt_len _ _)) (lt_len _ _)) (lt_len _ _)) (by decide), a, _, _, _, rfl, .inl he, T.ex i hi, .own _, T.own i 21 hi (by decide), _, _, rfl, rfl, Nat.le_trans (Nat.add_le_add (cat_len (cat_len (cat_len (cat_len (cat_len (cat_len (cat_len (cat_len (lt_len _ _) (lt_len _ _)) (lt_len _ _)) (lt_len _ _)) (lt_len _ _)) (lt_len _ _)) (lt_len _ _)) (lt_len _ _)) (lt_len _ _)) (lt_len _ _)) (by decide), q⟩
theorem scKinds : FnScope ["_law_error", "_law_found"] ["_law_error"] (defScope sKinds) := ⟨rfl, rfl, rfl, by decide +kernel, rfl, by decide +kernel, by decide +kernel⟩
theorem ok_kinds {f : Addr} {fd : FuncData} (F : Fun K "_law_kinds" "_law_kinds" sKinds f fd) (D : TxD mg) (T : TxE K mg A I) : FnG P w K mg base CX0 1 f fd ["_law_error"] (spHalf A kinds) := by
  refine fnG F scKinds (fun vs H Q E h => ?_) (fun cdv Ar fr s H vs Q E hG hr h => ?_)
  · obtain ⟨a, i, rfl, _⟩ := h
    rfl
  · obtain ⟨a, i, rfl, hi, he, q⟩ := h
    refine ⟨_, (pss_cons (ps_set (i := 1) scKinds.nd rfl (Or.inl rfl) (pe_op op_add_str (pe_let (by rfl) D.int (by rfl) T.isi (pv 0) (pe_glob (v := .ref (A 22)) (by rfl) (T.gl 22 (by decide)) rfl)) (pe_let (by rfl) D.int (by rfl) T.isi (pv 0) (pe_glob (v := .ref (A 23)) (by rfl) (T.gl 23 (by decide)) rfl))))
      (pss_cons (ps_set (i := 1) scKinds.nd rfl (Or.inl rfl) (pe_op op_add_str (pe_op op_add_str (pv 1) (pe_let (by rfl) D.int (by rfl) T.isi (pv 0) (pe_glob (v := .ref (A 24)) (by rfl) (T.gl 24 (by decide)) rfl))) (pe_let (by rfl) D.int (by rfl) T.isi (pv 0) (pe_glob (v := .ref (A 25)) (by rfl) (T.gl 25 (by decide)) rfl))))
      (pss_cons (ps_set (i := 1) scKinds.nd rfl (Or.inl rfl) (pe_op op_add_str (pe_op op_add_str (pv 1) (pe_let (by rfl) D.int (by rfl) T.isi (pv 0) (pe_glob (v := .ref (A 26)) (by rfl) (T.gl 26 (by decide)) rfl))) (pe_let (by rfl) D.int (by rfl) T.isi (pv 0) (pe_glob (v := .ref (A 27)) (by rfl) (T.gl 27 (by decide)) rfl))))
      (pss_cons (ps_set (i := 1) scKinds.nd rfl (Or.inl rfl) (pe_op op_add_str (pe_op op_add_str (pv 1) (pe_let (by rfl) D.int (by rfl) T.isi (pv 0) (pe_glob (v := .ref (A 28)) (by rfl) (T.gl 28 (by decide)) rfl))) (pe_let (by rfl) D.int (by rfl) T.isi (pv 0) (pe_glob (v := .ref (A 0)) (by rfl) (T.gl 0 (by decide)) rfl))))
      (pss_cons (ps_set (i := 1) scKinds.nd rfl (Or.inl rfl) (pe_op op_add_str (pe_op op_add_str (pv 1) (pe_let (by rfl) D.int (by rfl) T.isi (pv 0) (pe_bltn (v := .ty (ty 0)) (by rfl) (T.tyN 0 (by decide)) (by decide +kernel) rfl))) (pe_let (by rfl) D.int (by rfl) T.isi (pv 0) (pe_bltn (v := .ty (ty 1)) (by rfl) (T.tyN 1 (by decide)) (by decide +kernel) rfl))))
      (pss_cons (ps_set (i := 1) scKinds.nd rfl (Or.inl rfl) (pe_op op_add_str (pe_op op_add_str (pv 1) (pe_let (by rfl) D.int (by rfl) T.isi (pv 0) (pe_bltn (v := .ty (ty 2)) (by rfl) (T.tyN 2 (by decide)) (by decide +kernel) rfl))) (pe_let (by rfl) D.int (by rfl) T.isi (pv 0) (pe_bltn (v := .ty (ty 3)) (by rfl) (T.tyN 3 (by decide)) (by decide +kernel) rfl))))
      (pss_cons (ps_set (i := 1) scKinds.nd rfl (Or.inl rfl) (pe_op op_add_str (pv 1) (pe_let (by rfl) D.int (by rfl) T.isi (pv 0) (pe_bltn (v := .ty (ty 4)) (by rfl) (T.tyN 4 (by decide)) (by decide +kernel) rfl))))
      (pss_cons (ps_set (i := 1) scKinds.nd rfl (Or.inl rfl) (pe_op op_add_str (pv 1) (pe_let (by rfl) D.int (by rfl) T.isi (pv 0) (pe_bltn (v := .ty (ty 5)) (by rfl) (T.tyN 5 (by decide)) (by decide +kernel) rfl))))
      (pss_one (ps_ret (pe_op op_add_str (pv 1) (pe_let (by rfl) D.int (by rfl) T.isi (pv 0) (pe_bltn (v := .ty (ty 6)) (by rfl) (T.tyN 6 (by decide)) (by decide +kernel) rfl))))))))))))), ?_⟩
    refine ⟨a, _, _, _, rfl, .inl he, T.ex i hi, .own _, T.own i 22 hi (by decide), a, _, _, _, rfl, .inl he, T.ex i hi, .own _, T.own i 23 hi (by decide), _, _, rfl, rfl, Nat.le_trans (Nat.add_le_add (lt_len _ _) (lt_len _ _)) (by decide), ?_⟩
    refine ⟨_, rfl, a, _, _, _, rfl, .inl he, T.ex i hi, .own _, T.own i 24 hi (by decide), _, _, rfl, rfl, Nat.le_trans (Nat.add_le_add (cat_len (lt_len _ _) (lt_len _ _)) (lt_len _ _)) (by decide), a, _, _, _, rfl, .inl he, T.ex i hi, .own _, T.own i 25 hi (by decide), _, _, rfl, rfl, Nat.le_trans (Nat.add_le_add (cat_len (cat_len (lt_len _ _) (lt_len _ _)) (lt_len _ _)) (lt_len _ _)) (by decide), ?_⟩
    refine ⟨_, rfl, a, _, _, _, rfl, .inl he, T.ex i hi, .own _, T.own i 26 hi (by decide), _, _, rfl, rfl, Nat.le_trans (Nat.add_le_add (cat_len (cat_len (cat_len (lt_len _ _) (lt_len _ _)) (lt_len _ _)) (lt_len _ _)) (lt_len _ _)) (by decide), a, _, _, _, rfl, .inl he, T.ex i hi, .own _, T.own i 27 hi (by decide), _, _, rfl, rfl, Nat.le_trans (Nat.add_le_add (cat_len (cat_len (cat_len (cat_len (lt_len _ _) (lt_len _ _)) (lt_len _ _)) (lt_len _ _)) (lt_len _ _)) (lt_len _ _)) (by decide), ?_⟩
    refine ⟨_, rfl, a, _, _, _, rfl, .inl he, T.ex i hi, .own _, T.own i 28 hi (by decide), _, _, rfl, rfl, Nat.le_trans (Nat.add_le_add (cat_len (cat_len (cat_len (cat_len (cat_len (lt_len _ _) (lt_len _ _)) (lt_len _ _)) (lt_len _ _)) (lt_len _ _)) (lt_len _ _)) (lt_len _ _)) (by decide), a, _, _, _, rfl, .inl he, T.ex i hi, .own _, T.own i 0 hi (by decide), _, _, rfl, rfl, Nat.le_trans (Nat.add_le_add (cat_len (cat_len (cat_len (cat_len (cat_len (cat_len (lt_len _ _) (lt_len _ _)) (lt_len _ _)) (lt_len _ _)) (lt_len _ _)) (lt_len _ _)) (lt_len _ _)) (lt_len _ _)) (by decide), ?_⟩
    refine ⟨_, rfl, a, _, _, _, rfl, .inl he, T.ex i hi, .ty _, T.typ i 0 hi (by decide), _, _, rfl, rfl, Nat.le_trans (Nat.add_le_add (cat_len (cat_len (cat_len (cat_len (cat_len (cat_len (cat_len (lt_len _ _) (lt_len _ _)) (lt_len _ _)) (lt_len _ _)) (lt_len _ _)) (lt_len _ _)) (lt_len _ _)) (lt_len _ _)) (lt_len _ _)) (by decide), a, _, _, _, rfl, .inl he, T.ex i hi, .ty _, T.typ i 1 hi (by decide), _, _, rfl, rfl, Nat.le_trans (Nat.add_le_add (cat_len (cat_len (cat_len (cat_len (cat_len (cat_len (cat_len (cat_len (lt_len _ _) (lt_len _ _)) (lt_len _ _)) (lt_len _ _)) (lt_len _ _)) (lt_len _ _)) (lt_len _ _)) (lt_len _ _)) (lt_len _ _)) (lt_len _ _)) (by decide), ?_⟩
    refine ⟨_, rfl, a, _, _, _, rfl, .inl he, T.ex i hi, .ty _, T.typ i 2 hi (by decide), _, _, rfl, rfl, Nat.le_trans (Nat.add_le_add (cat_len (cat_len (cat_len (cat_len (cat_len (cat_len (cat_len (cat_len (cat_len (lt_len _ _) (lt_len _ _)) (lt_len _ _)) (lt_len _ _)) (lt_len _ _)) (lt_len _ _)) (lt_len _ _)) (lt_len _ _)) (lt_len _ _)) (lt_len _ _)) (lt_len _ _)) (by decide), a, _, _, _, rfl, .inl he, T.ex i hi, .ty _, T.typ i 3 hi (by decide), _, _, rfl, rfl, Nat.le_trans (Nat.add_le_add (cat_len (cat_len (cat_len (cat_len (cat_len (cat_len (cat_len (cat_len (cat_len (cat_len (lt_len _ _) (lt_len _ _)) (lt_len _ _)) (lt_len _ _)) (lt_len _ _)) (lt_len _ _)) (lt_len _ _)) (lt_len _ _)) (lt_len _ _)) (lt_len _ _)) (lt_len _ _)) (lt_len _ _)) (by decide), ?_⟩
    refine ⟨_, rfl, a, _, _, _, rfl, .inl he, T.ex i hi, .ty _, T.typ i 4 hi (by decide), _, _, rfl, rfl, Nat.le_trans (Nat.add_le_add (cat_len (cat_len (cat_len (cat_len (cat_len (cat_len (cat_len (cat_len (cat_len (cat_len (cat_len (lt_len _ _) (lt_len _ _)) (lt_len _ _)) (lt_len _ _)) (lt_len _ _)) (lt_len _ _)) (lt_len _ _)) (lt_len _ _)) (lt_len _ _)) (lt_len _ _)) (lt_len _ _)) (lt_len _ _)) (lt_len _ _)) (by decide), ?_⟩
    refine ⟨_, rfl, a, _, _, _, rfl, .inl he, T.ex i hi, .ty _, T.typ i 5 hi (by decide), _, _, rfl, rfl, Nat.le_trans (Nat.add_le_add (cat_len (cat_len (cat_len (cat_len (cat_len (cat_len (cat_len (cat_len (cat_len (cat_len (cat_len (cat_len (lt_len _ _) (lt_len _ _)) (lt_len _ _)) (lt_len _ _)) (lt_len _ _)) (lt_len _ _)) (lt_len _ _)) (lt_len _ _)) (lt_len _ _)) (lt_len _ _)) (lt_len _ _)) (lt_len _ _)) (lt_len _ _)) (lt_len _ _)) (by decide), ?_⟩
    exact ⟨_, rfl, a, _, _, _, rfl, .inl he, T.ex i hi, .ty _, T.typ i 6 hi (by decide), _, _, rfl, rfl, Nat.le_trans (Nat.add_le_add (cat_len (cat_len (cat_len (cat_len (cat_len (cat_len (cat_len (cat_len (cat_len (cat_len (cat_len (cat_len (cat_len (lt_len _ _) (lt_len _ _)) (lt_len _ _)) (lt_len _ _)) (lt_len _ _)) (lt_len _ _)) (lt_len _ _)) (lt_len _ _)) (lt_len _ _)) (lt_len _ _)) (lt_len _ _)) (lt_len _ _)) (lt_len _ _)) (lt_len _ _)) (lt_len _ _)) (by decide), q⟩
end
end Lw

/-! All words of an error, all errors made. -/
namespace Lw
open PySem PySem.Spec PyProof.Rows L2 Fw
def all (i : Nat) : Str := (first i ++ second i) ++ kinds i
theorem len11 (i : Nat) : (first i).length ≤ 11 := (cat_len (cat_len (cat_len (cat_len (cat_len (cat_len (cat_len (cat_len (cat_len (cat_len (lt_len _ _) (lt_len _ _)) (lt_len _ _)) (lt_len _ _)) (lt_len _ _)) (lt_len _ _)) (lt_len _ _)) (lt_len _ _)) (lt_len _ _)) (lt_len _ _)) (lt_len _ _))
theorem len10 (i : Nat) : (second i).length ≤ 10 := (cat_len (cat_len (cat_len (cat_len (cat_len (cat_len (cat_len (cat_len (cat_len (lt_len _ _) (lt_len _ _)) (lt_len _ _)) (lt_len _ _)) (lt_len _ _)) (lt_len _ _)) (lt_len _ _)) (lt_len _ _)) (lt_len _ _)) (lt_len _ _))
theorem len60 (i : Nat) : (kinds i).length ≤ 70 := Nat.le_trans (cat_len (cat_len (cat_len (cat_len (cat_len (cat_len (cat_len (cat_len (cat_len (cat_len (cat_len (cat_len (cat_len (cat_len (lt_len _ _) (lt_len _ _)) (lt_len _ _)) (lt_len _ _)) (lt_len _ _)) (lt_len _ _)) (lt_len _ _)) (lt_len _ _)) (lt_len _ _)) (lt_len _ _)) (lt_len _ _)) (lt_len _ _)) (lt_len _ _)) (lt_len _ _)) (lt_len _ _)) (by decide)
theorem keep_upd {H : Hp} {p q : Addr} {o u : HO} (h : H p = some o) (n : H q = none) : upd H q u p = some o := by
  rw [upd_ne (ne_of_none h n)]
  exact h
/-- errors with the numbers 1, 2, .. were made behind H0, at l -/
structure Made (A : Nat → Addr) (H0 H : Hp) (l : List Addr) (n : Nat) : Prop where
  len : l.length = n
  same : Same H0 H
  errs : ∀ k a, l[k]? = some a → IsErr H a (A (k + 1))
theorem Made.new {A : Nat → Addr} {H0 H : Hp} {l : List Addr} {c : Nat} {p : Addr} {o : HO} (m : Made A H0 H l c) (n : H p = none) : Made A H0 (upd H p o) l c :=
  ⟨m.len, same_trans m.same (same_upd n), fun k a e => (m.errs k a e).same (same_upd n)⟩
theorem Made.add {A : Nat → Addr} {H0 H : Hp} {l : List Addr} {a : Addr} {c : Nat} (j : Nat) (m : Made A H0 H l c) (n : H a = none) (hc : c + 1 = j) : Made A H0 (upd H a (ExO (.ref (A j)) a)) (l ++ [a]) j := by
  have hj : l.length + 1 = j := by rw [m.len]; exact hc
  refine ⟨by rw [List.length_append]; exact hj, same_trans m.same (same_upd n), fun k b e => ?_⟩
  rcases Nat.lt_trichotomy k l.length with c | c | c
  · rw [List.getElem?_append_left c] at e
    exact (m.errs k b e).same (same_upd n)
  · rw [List.getElem?_append_right (by omega), c, Nat.sub_self] at e
    cases e
    rw [c, hj]
    exact .inl upd_same
  · rw [List.getElem?_eq_none (by simp; omega)] at e
    cases e
section
variable {P : Program} {w : World} {K : PySem.W.Frag} {mg : Str → Option Value} {base : Heap} {CX : CXT} {A I : Nat → Addr}
theorem scAll : FnScope ["_law_error"] ["_law_error"] (defScope sAll) := ⟨rfl, rfl, rfl, by decide +kernel, rfl, by decide +kernel, by decide +kernel⟩
structure TxA (K : PySem.W.Frag) (mg : Str → Option Value) (f1 f2 f3 : Addr) (d1 d2 d3 : FuncData) : Prop where
  m1 : mg "_law_first_half" = some (.ref f1)
  m2 : mg "_law_second_half" = some (.ref f2)
  m3 : mg "_law_kinds" = some (.ref f3)
  F1 : Fun K "_law_first_half" "_law_first_half" sFirst f1 d1
  F2 : Fun K "_law_second_half" "_law_second_half" sSecond f2 d2
  F3 : Fun K "_law_kinds" "_law_kinds" sKinds f3 d3
  b1 : Binds K d1 ["_law_error"] []
  b2 : Binds K d2 ["_law_error"] []
  b3 : Binds K d3 ["_law_error"] []
theorem ok_all {f f1 f2 f3 : Addr} {fd d1 d2 d3 : FuncData} (F : Fun K "_law_all" "_law_all" sAll f fd) (D : TxD mg) (T : TxE K mg A I) (U : TxA K mg f1 f2 f3 d1 d2 d3) : FnG P w K mg base CX0 2 f fd ["_law_error"] (spHalf A all) := by
  have G1 : FnG P w K mg base CX0 1 f1 d1 ["_law_error"] (spHalf A first) := ok_first U.F1 D T
  have G2 : FnG P w K mg base CX0 1 f2 d2 ["_law_error"] (spHalf A second) := ok_second U.F2 D T
  have G3 : FnG P w K mg base CX0 1 f3 d3 ["_law_error"] (spHalf A kinds) := ok_kinds U.F3 D T
  refine fnG F scAll (fun vs H Q E h => ?_) (fun cdv Ar fr s H vs Q E hG hr h => ?_)
  · obtain ⟨a, i, rfl, _⟩ := h
    rfl
  · obtain ⟨a, i, rfl, hi, he, q⟩ := h
    refine ⟨_, pss_one (ps_ret (pe_op op_add_str (pe_op op_add_str (pe_callG (E := fun _ _ _ _ => False) hG G1 hr (by rfl) U.m1 U.F1.kp U.b1 .nil (fun _ => passAt0) (pa_cons (pv 0) pa_nil))
      (pe_callG (E := fun _ _ _ _ => False) hG G2 hr (by rfl) U.m2 U.F2.kp U.b2 .nil (fun _ => passAt0) (pa_cons (pv 0) pa_nil)))
      (pe_callG (E := fun _ _ _ _ => False) hG G3 hr (by rfl) U.m3 U.F3.kp U.b3 .nil (fun _ => passAt0) (pa_cons (pv 0) pa_nil)))), ?_⟩
    refine ⟨_, rfl, a, i, rfl, hi, he, ?_⟩
    refine ⟨_, rfl, a, i, rfl, hi, he, ?_⟩
    refine ⟨_, _, rfl, rfl, Nat.le_trans (Nat.add_le_add (len11 i) (len10 i)) (by decide), ?_⟩
    refine ⟨_, rfl, a, i, rfl, hi, he, ?_⟩
    exact ⟨_, _, rfl, rfl, Nat.le_trans (Nat.add_le_add (cat_len (len11 i) (len10 i)) (len60 i)) (by decide), q⟩
/-- a new list of the errors 1 to 21 -/
def spMade (A : Nat → Addr) : Sp := fun vs H Q _ => vs = [] ∧ ∀ (p : Addr) (H' : Hp) (l : List Addr), Made A H H' l 21 → H' p = some (.lst (l.map V.ref)) → Q (.ref p) H'
theorem scMade : FnScope ["_law_found"] [] (defScope sMade) := ⟨rfl, rfl, rfl, by decide +kernel, rfl, by decide +kernel, by decide +kernel⟩
theorem ok_made {f : Addr} {fd : FuncData} (F : Fun K "_law_made_all" "_law_made_all" sMade f fd) (T : TxE K mg A I) : FnG P w K mg base CX0 1 f fd [] (spMade A) := by
  refine fnG F scMade (fun vs H Q E h => ?_) (fun cdv Ar fr s H vs Q E hG hr h => ?_)
  · obtain ⟨rfl, _⟩ := h
    rfl
  · obtain ⟨rfl, q⟩ := h
    refine ⟨_, (pss_cons (ps_set (i := 0) scMade.nd rfl (Or.inl rfl) (pe_lst (pa_cons (pe_exc1 PySem.F.excBase_ValueError (T.plain 1 (by decide)) (T.gl 1 (by decide)) (T.kp 1 (by decide)) (by rfl) pe_str) (pa_cons (pe_exc1 PySem.F.excBase_ValueError (T.plain 2 (by decide)) (T.gl 2 (by decide)) (T.kp 2 (by decide)) (by rfl) pe_str) (pa_cons (pe_exc1 PySem.F.excBase_ValueError (T.plain 3 (by decide)) (T.gl 3 (by decide)) (T.kp 3 (by decide)) (by rfl) pe_str) (pa_cons (pe_exc1 PySem.F.excBase_ValueError (T.plain 4 (by decide)) (T.gl 4 (by decide)) (T.kp 4 (by decide)) (by rfl) pe_str) (pa_cons (pe_exc1 PySem.F.excBase_ValueError (T.plain 5 (by decide)) (T.gl 5 (by decide)) (T.kp 5 (by decide)) (by rfl) pe_str) pa_nil)))))))
      (pss_cons (ps_set (i := 0) scMade.nd rfl (Or.inl rfl) (pe_op op_cat (pv 0) (pe_lst (pa_cons (pe_exc1 PySem.F.excBase_ValueError (T.plain 6 (by decide)) (T.gl 6 (by decide)) (T.kp 6 (by decide)) (by rfl) pe_str) (pa_cons (pe_exc1 PySem.F.excBase_ValueError (T.plain 7 (by decide)) (T.gl 7 (by decide)) (T.kp 7 (by decide)) (by rfl) pe_str) (pa_cons (pe_exc1 PySem.F.excBase_ValueError (T.plain 8 (by decide)) (T.gl 8 (by decide)) (T.kp 8 (by decide)) (by rfl) pe_str) (pa_cons (pe_exc1 PySem.F.excBase_ValueError (T.plain 9 (by decide)) (T.gl 9 (by decide)) (T.kp 9 (by decide)) (by rfl) pe_str) (pa_cons (pe_exc1 PySem.F.excBase_ValueError (T.plain 10 (by decide)) (T.gl 10 (by decide)) (T.kp 10 (by decide)) (by rfl) pe_str) pa_nil))))))))
      (pss_cons (ps_set (i := 0) scMade.nd rfl (Or.inl rfl) (pe_op op_cat (pv 0) (pe_lst (pa_cons (pe_exc1 PySem.F.excBase_ValueError (T.plain 11 (by decide)) (T.gl 11 (by decide)) (T.kp 11 (by decide)) (by rfl) pe_str) (pa_cons (pe_exc1 PySem.F.excBase_ValueError (T.plain 12 (by decide)) (T.gl 12 (by decide)) (T.kp 12 (by decide)) (by rfl) pe_str) (pa_cons (pe_exc1 PySem.F.excBase_ValueError (T.plain 13 (by decide)) (T.gl 13 (by decide)) (T.kp 13 (by decide)) (by rfl) pe_str) (pa_cons (pe_exc1 PySem.F.excBase_ValueError (T.plain 14 (by decide)) (T.gl 14 (by decide)) (T.kp 14 (by decide)) (by rfl) pe_str) (pa_cons (pe_exc1 PySem.F.excBase_ValueError (T.plain 15 (by decide)) (T.gl 15 (by decide)) (T.kp 15 (by decide)) (by rfl) pe_str) pa_nil))))))))
      (pss_cons (ps_set (i := 0) scMade.nd rfl (Or.inl rfl) (pe_op op_cat (pv 0) (pe_lst (pa_cons (pe_exc1 PySem.F.excBase_ValueError (T.plain 16 (by decide)) (T.gl 16 (by decide)) (T.kp 16 (by decide)) (by rfl) pe_str) (pa_cons (pe_exc1 PySem.F.excBase_ValueError (T.plain 17 (by decide)) (T.gl 17 (by decide)) (T.kp 17 (by decide)) (by rfl) pe_str) (pa_cons (pe_exc1 PySem.F.excBase_ValueError (T.plain 18 (by decide)) (T.gl 18 (by decide)) (T.kp 18 (by decide)) (by rfl) pe_str) (pa_cons (pe_exc1 PySem.F.excBase_ValueError (T.plain 19 (by decide)) (T.gl 19 (by decide)) (T.kp 19 (by decide)) (by rfl) pe_str) pa_nil)))))))
      (pss_one (ps_ret (pe_op op_cat (pv 0) (pe_lst (pa_cons (pe_exc1 PySem.F.excBase_ValueError (T.plain 20 (by decide)) (T.gl 20 (by decide)) (T.kp 20 (by decide)) (by rfl) pe_str) (pa_cons (pe_exc1 PySem.F.excBase_ValueError (T.plain 21 (by decide)) (T.gl 21 (by decide)) (T.kp 21 (by decide)) (by rfl) pe_str) pa_nil)))))))))), ?_⟩
    have m0 : Made A H H [] 0 := ⟨rfl, fun _ _ e => e, fun _ _ e => by simp at e⟩
    have m := m0
    intro a1 n1
    replace m : Made A H (upd H a1 (ExO (.ref (A 1)) a1)) [a1] 1 := m.add 1 n1 rfl
    generalize upd H a1 (ExO (.ref (A 1)) a1) = h1 at m ⊢
    intro a2 n2
    replace m : Made A H (upd h1 a2 (ExO (.ref (A 2)) a2)) [a1, a2] 2 := m.add 2 n2 rfl
    generalize upd h1 a2 (ExO (.ref (A 2)) a2) = h2 at m ⊢
    intro a3 n3
    replace m : Made A H (upd h2 a3 (ExO (.ref (A 3)) a3)) [a1, a2, a3] 3 := m.add 3 n3 rfl
    generalize upd h2 a3 (ExO (.ref (A 3)) a3) = h3 at m ⊢
    intro a4 n4
    replace m : Made A H (upd h3 a4 (ExO (.ref (A 4)) a4)) [a1, a2, a3, a4] 4 := m.add 4 n4 rfl
    generalize upd h3 a4 (ExO (.ref (A 4)) a4) = h4 at m ⊢
    intro a5 n5
    replace m : Made A H (upd h4 a5 (ExO (.ref (A 5)) a5)) [a1, a2, a3, a4, a5] 5 := m.add 5 n5 rfl
    generalize upd h4 a5 (ExO (.ref (A 5)) a5) = h5 at m ⊢
    refine ⟨(by show 5 ≤ sizeLine; decide), fun p0 np0 => ?_⟩
    replace m := m.new (o := .lst [V.ref a1, V.ref a2, V.ref a3, V.ref a4, V.ref a5]) np0
    have q1 : upd h5 p0 (.lst [V.ref a1, V.ref a2, V.ref a3, V.ref a4, V.ref a5]) p0 = some (.lst [V.ref a1, V.ref a2, V.ref a3, V.ref a4, V.ref a5]) := upd_same
    generalize upd h5 p0 (.lst [V.ref a1, V.ref a2, V.ref a3, V.ref a4, V.ref a5]) = h6 at m q1 ⊢
    have q0 := q1
    refine ⟨_, rfl, ?_⟩
    intro a6 n6
    replace m : Made A H (upd h6 a6 (ExO (.ref (A 6)) a6)) [a1, a2, a3, a4, a5, a6] 6 := m.add 6 n6 rfl
    replace q0 := keep_upd (o := .lst _) (u := ExO (.ref (A 6)) a6) q0 n6
    generalize upd h6 a6 (ExO (.ref (A 6)) a6) = h7 at m q0 ⊢
    intro a7 n7
    replace m : Made A H (upd h7 a7 (ExO (.ref (A 7)) a7)) [a1, a2, a3, a4, a5, a6, a7] 7 := m.add 7 n7 rfl
    replace q0 := keep_upd (o := .lst _) (u := ExO (.ref (A 7)) a7) q0 n7
    generalize upd h7 a7 (ExO (.ref (A 7)) a7) = h8 at m q0 ⊢
    intro a8 n8
    replace m : Made A H (upd h8 a8 (ExO (.ref (A 8)) a8)) [a1, a2, a3, a4, a5, a6, a7, a8] 8 := m.add 8 n8 rfl
    replace q0 := keep_upd (o := .lst _) (u := ExO (.ref (A 8)) a8) q0 n8
    generalize upd h8 a8 (ExO (.ref (A 8)) a8) = h9 at m q0 ⊢
    intro a9 n9
    replace m : Made A H (upd h9 a9 (ExO (.ref (A 9)) a9)) [a1, a2, a3, a4, a5, a6, a7, a8, a9] 9 := m.add 9 n9 rfl
    replace q0 := keep_upd (o := .lst _) (u := ExO (.ref (A 9)) a9) q0 n9
    generalize upd h9 a9 (ExO (.ref (A 9)) a9) = h10 at m q0 ⊢
    intro a10 n10
    replace m : Made A H (upd h10 a10 (ExO (.ref (A 10)) a10)) [a1, a2, a3, a4, a5, a6, a7, a8, a9, a10] 10 := m.add 10 n10 rfl
    replace q0 := keep_upd (o := .lst _) (u := ExO (.ref (A 10)) a10) q0 n10
    generalize upd h10 a10 (ExO (.ref (A 10)) a10) = h11 at m q0 ⊢
    refine ⟨(by show 5 ≤ sizeLine; decide), fun p1 np1 => ?_⟩
    replace m := m.new (o := .lst [V.ref a6, V.ref a7, V.ref a8, V.ref a9, V.ref a10]) np1
    replace q0 := keep_upd (u := .lst [V.ref a6, V.ref a7, V.ref a8, V.ref a9, V.ref a10]) q0 np1
    have q1 : upd h11 p1 (.lst [V.ref a6, V.ref a7, V.ref a8, V.ref a9, V.ref a10]) p1 = some (.lst [V.ref a6, V.ref a7, V.ref a8, V.ref a9, V.ref a10]) := upd_same
    generalize upd h11 p1 (.lst [V.ref a6, V.ref a7, V.ref a8, V.ref a9, V.ref a10]) = h12 at m q1 q0 ⊢
    refine ⟨_, _, _, _, rfl, rfl, q0, q1, (by show 10 ≤ sizeLine; decide), fun r1 nr1 => ?_⟩
    replace m := m.new (o := .lst [V.ref a1, V.ref a2, V.ref a3, V.ref a4, V.ref a5, V.ref a6, V.ref a7, V.ref a8, V.ref a9, V.ref a10]) nr1
    replace q0 : upd h12 r1 (.lst [V.ref a1, V.ref a2, V.ref a3, V.ref a4, V.ref a5, V.ref a6, V.ref a7, V.ref a8, V.ref a9, V.ref a10]) r1 = some (.lst [V.ref a1, V.ref a2, V.ref a3, V.ref a4, V.ref a5, V.ref a6, V.ref a7, V.ref a8, V.ref a9, V.ref a10]) := upd_same
    clear q1
    generalize hh13 : upd h12 r1 (.lst [V.ref a1, V.ref a2, V.ref a3, V.ref a4, V.ref a5, V.ref a6, V.ref a7, V.ref a8, V.ref a9, V.ref a10]) = h13 at m q0
    have hh13' : upd h12 r1 (.lst ([V.ref a1, V.ref a2, V.ref a3, V.ref a4, V.ref a5] ++ [V.ref a6, V.ref a7, V.ref a8, V.ref a9, V.ref a10])) = h13 := hh13
    rw [hh13']
    refine ⟨_, rfl, ?_⟩
    intro a11 n11
    replace m : Made A H (upd h13 a11 (ExO (.ref (A 11)) a11)) [a1, a2, a3, a4, a5, a6, a7, a8, a9, a10, a11] 11 := m.add 11 n11 rfl
    replace q0 := keep_upd (o := .lst _) (u := ExO (.ref (A 11)) a11) q0 n11
    generalize upd h13 a11 (ExO (.ref (A 11)) a11) = h14 at m q0 ⊢
    intro a12 n12
    replace m : Made A H (upd h14 a12 (ExO (.ref (A 12)) a12)) [a1, a2, a3, a4, a5, a6, a7, a8, a9, a10, a11, a12] 12 := m.add 12 n12 rfl
    replace q0 := keep_upd (o := .lst _) (u := ExO (.ref (A 12)) a12) q0 n12
    generalize upd h14 a12 (ExO (.ref (A 12)) a12) = h15 at m q0 ⊢
    intro a13 n13
    replace m : Made A H (upd h15 a13 (ExO (.ref (A 13)) a13)) [a1, a2, a3, a4, a5, a6, a7, a8, a9, a10, a11, a12, a13] 13 := m.add 13 n13 rfl
    replace q0 := keep_upd (o := .lst _) (u := ExO (.ref (A 13)) a13) q0 n13
    generalize upd h15 a13 (ExO (.ref (A 13)) a13) = h16 at m q0 ⊢
    intro a14 n14
    replace m : Made A H (upd h16 a14 (ExO (.ref (A 14)) a14)) [a1, a2, a3, a4, a5, a6, a7, a8, a9, a10, a11, a12, a13, a14] 14 := m.add 14 n14 rfl
    replace q0 := keep_upd (o := .lst _) (u := ExO (.ref (A 14)) a14) q0 n14
    generalize upd h16 a14 (ExO (.ref (A 14)) a14) = h17 at m q0 ⊢
    intro a15 n15
    replace m : Made A H (upd h17 a15 (ExO (.ref (A 15)) a15)) [a1, a2, a3, a4, a5, a6, a7, a8, a9, a10, a11, a12, a13, a14, a15] 15 := m.add 15 n15 rfl
    replace q0 := keep_upd (o := .lst _) (u := ExO (.ref (A 15)) a15) q0 n15
    generalize upd h17 a15 (ExO (.ref (A 15)) a15) = h18 at m q0 ⊢
    refine ⟨(by show 5 ≤ sizeLine; decide), fun p2 np2 => ?_⟩
    replace m := m.new (o := .lst [V.ref a11, V.ref a12, V.ref a13, V.ref a14, V.ref a15]) np2
    replace q0 := keep_upd (u := .lst [V.ref a11, V.ref a12, V.ref a13, V.ref a14, V.ref a15]) q0 np2
    have q1 : upd h18 p2 (.lst [V.ref a11, V.ref a12, V.ref a13, V.ref a14, V.ref a15]) p2 = some (.lst [V.ref a11, V.ref a12, V.ref a13, V.ref a14, V.ref a15]) := upd_same
    generalize upd h18 p2 (.lst [V.ref a11, V.ref a12, V.ref a13, V.ref a14, V.ref a15]) = h19 at m q1 q0 ⊢
    refine ⟨_, _, _, _, rfl, rfl, q0, q1, (by show 15 ≤ sizeLine; decide), fun r2 nr2 => ?_⟩
    replace m := m.new (o := .lst [V.ref a1, V.ref a2, V.ref a3, V.ref a4, V.ref a5, V.ref a6, V.ref a7, V.ref a8, V.ref a9, V.ref a10, V.ref a11, V.ref a12, V.ref a13, V.ref a14, V.ref a15]) nr2
    replace q0 : upd h19 r2 (.lst [V.ref a1, V.ref a2, V.ref a3, V.ref a4, V.ref a5, V.ref a6, V.ref a7, V.ref a8, V.ref a9, V.ref a10, V.ref a11, V.ref a12, V.ref a13, V.ref a14, V.ref a15]) r2 = some (.lst [V.ref a1, V.ref a2, V.ref a3, V.ref a4, V.ref a5, V.ref a6, V.ref a7, V.ref a8, V.ref a9, V.ref a10, V.ref a11, V.ref a12, V.ref a13, V.ref a14, V.ref a15]) := upd_same
    clear q1
    generalize hh20 : upd h19 r2 (.lst [V.ref a1, V.ref a2, V.ref a3, V.ref a4, V.ref a5, V.ref a6, V.ref a7, V.ref a8, V.ref a9, V.ref a10, V.ref a11, V.ref a12, V.ref a13, V.ref a14, V.ref a15]) = h20 at m q0
    have hh20' : upd h19 r2 (.lst ([V.ref a1, V.ref a2, V.ref a3, V.ref a4, V.ref a5, V.ref a6, V.ref a7, V.ref a8, V.ref a9, V.ref a10] ++ [V.ref a11, V.ref a12, V.ref a13, V.ref a14, V.ref a15])) = h20 := hh20
    rw [hh20']
    refine ⟨_, rfl, ?_⟩
    intro a16 n16
    replace m : Made A H (upd h20 a16 (ExO (.ref (A 16)) a16)) [a1, a2, a3, a4, a5, a6, a7, a8, a9, a10, a11, a12, a13, a14, a15, a16] 16 := m.add 16 n16 rfl
    replace q0 := keep_upd (o := .lst _) (u := ExO (.ref (A 16)) a16) q0 n16
    generalize upd h20 a16 (ExO (.ref (A 16)) a16) = h21 at m q0 ⊢
    intro a17 n17
    replace m : Made A H (upd h21 a17 (ExO (.ref (A 17)) a17)) [a1, a2, a3, a4, a5, a6, a7, a8, a9, a10, a11, a12, a13, a14, a15, a16, a17] 17 := m.add 17 n17 rfl
    replace q0 := keep_upd (o := .lst _) (u := ExO (.ref (A 17)) a17) q0 n17
    generalize upd h21 a17 (ExO (.ref (A 17)) a17) = h22 at m q0 ⊢
    intro a18 n18
    replace m : Made A H (upd h22 a18 (ExO (.ref (A 18)) a18)) [a1, a2, a3, a4, a5, a6, a7, a8, a9, a10, a11, a12, a13, a14, a15, a16, a17, a18] 18 := m.add 18 n18 rfl
    replace q0 := keep_upd (o := .lst _) (u := ExO (.ref (A 18)) a18) q0 n18
    generalize upd h22 a18 (ExO (.ref (A 18)) a18) = h23 at m q0 ⊢
    intro a19 n19
    replace m : Made A H (upd h23 a19 (ExO (.ref (A 19)) a19)) [a1, a2, a3, a4, a5, a6, a7, a8, a9, a10, a11, a12, a13, a14, a15, a16, a17, a18, a19] 19 := m.add 19 n19 rfl
    replace q0 := keep_upd (o := .lst _) (u := ExO (.ref (A 19)) a19) q0 n19
    generalize upd h23 a19 (ExO (.ref (A 19)) a19) = h24 at m q0 ⊢
    refine ⟨(by show 4 ≤ sizeLine; decide), fun p3 np3 => ?_⟩
    replace m := m.new (o := .lst [V.ref a16, V.ref a17, V.ref a18, V.ref a19]) np3
    replace q0 := keep_upd (u := .lst [V.ref a16, V.ref a17, V.ref a18, V.ref a19]) q0 np3
    have q1 : upd h24 p3 (.lst [V.ref a16, V.ref a17, V.ref a18, V.ref a19]) p3 = some (.lst [V.ref a16, V.ref a17, V.ref a18, V.ref a19]) := upd_same
    generalize upd h24 p3 (.lst [V.ref a16, V.ref a17, V.ref a18, V.ref a19]) = h25 at m q1 q0 ⊢
    refine ⟨_, _, _, _, rfl, rfl, q0, q1, (by show 19 ≤ sizeLine; decide), fun r3 nr3 => ?_⟩
    replace m := m.new (o := .lst [V.ref a1, V.ref a2, V.ref a3, V.ref a4, V.ref a5, V.ref a6, V.ref a7, V.ref a8, V.ref a9, V.ref a10, V.ref a11, V.ref a12, V.ref a13, V.ref a14, V.ref a15, V.ref a16, V.ref a17, V.ref a18, V.ref a19]) nr3
    replace q0 : upd h25 r3 (.lst [V.ref a1, V.ref a2, V.ref a3, V.ref a4, V.ref a5, V.ref a6, V.ref a7, V.ref a8, V.ref a9, V.ref a10, V.ref a11, V.ref a12, V.ref a13, V.ref a14, V.ref a15, V.ref a16, V.ref a17, V.ref a18, V.ref a19]) r3 = some (.lst [V.ref a1, V.ref a2, V.ref a3, V.ref a4, V.ref a5, V.ref a6, V.ref a7, V.ref a8, V.ref a9, V.ref a10, V.ref a11, V.ref a12, V.ref a13, V.ref a14, V.ref a15, V.ref a16, V.ref a17, V.ref a18, V.ref a19]) := upd_same
    clear q1
    generalize hh26 : upd h25 r3 (.lst [V.ref a1, V.ref a2, V.ref a3, V.ref a4, V.ref a5, V.ref a6, V.ref a7, V.ref a8, V.ref a9, V.ref a10, V.ref a11, V.ref a12, V.ref a13, V.ref a14, V.ref a15, V.ref a16, V.ref a17, V.ref a18, V.ref a19]) = h26 at m q0
    have hh26' : upd h25 r3 (.lst ([V.ref a1, V.ref a2, V.ref a3, V.ref a4, V.ref a5, V.ref a6, V.ref a7, V.ref a8, V.ref a9, V.ref a10, V.ref a11, V.ref a12, V.ref a13, V.ref a14, V.ref a15] ++ [V.ref a16, V.ref a17, V.ref a18, V.ref a19])) = h26 := hh26
    rw [hh26']
    refine ⟨_, rfl, ?_⟩
    intro a20 n20
    replace m : Made A H (upd h26 a20 (ExO (.ref (A 20)) a20)) [a1, a2, a3, a4, a5, a6, a7, a8, a9, a10, a11, a12, a13, a14, a15, a16, a17, a18, a19, a20] 20 := m.add 20 n20 rfl
    replace q0 := keep_upd (o := .lst _) (u := ExO (.ref (A 20)) a20) q0 n20
    generalize upd h26 a20 (ExO (.ref (A 20)) a20) = h27 at m q0 ⊢
    intro a21 n21
    replace m : Made A H (upd h27 a21 (ExO (.ref (A 21)) a21)) [a1, a2, a3, a4, a5, a6, a7, a8, a9, a10, a11, a12, a13, a14, a15, a16, a17, a18, a19, a20, a21] 21 := m.add 21 n21 rfl
    replace q0 := keep_upd (o := .lst _) (u := ExO (.ref (A 21)) a21) q0 n21
    generalize upd h27 a21 (ExO (.ref (A 21)) a21) = h28 at m q0 ⊢
    refine ⟨(by show 2 ≤ sizeLine; decide), fun p4 np4 => ?_⟩
    replace m := m.new (o := .lst [V.ref a20, V.ref a21]) np4
    replace q0 := keep_upd (u := .lst [V.ref a20, V.ref a21]) q0 np4
    have q1 : upd h28 p4 (.lst [V.ref a20, V.ref a21]) p4 = some (.lst [V.ref a20, V.ref a21]) := upd_same
    generalize upd h28 p4 (.lst [V.ref a20, V.ref a21]) = h29 at m q1 q0 ⊢
    refine ⟨_, _, _, _, rfl, rfl, q0, q1, (by show 21 ≤ sizeLine; decide), fun r4 nr4 => ?_⟩
    replace m := m.new (o := .lst [V.ref a1, V.ref a2, V.ref a3, V.ref a4, V.ref a5, V.ref a6, V.ref a7, V.ref a8, V.ref a9, V.ref a10, V.ref a11, V.ref a12, V.ref a13, V.ref a14, V.ref a15, V.ref a16, V.ref a17, V.ref a18, V.ref a19, V.ref a20, V.ref a21]) nr4
    replace q0 : upd h29 r4 (.lst [V.ref a1, V.ref a2, V.ref a3, V.ref a4, V.ref a5, V.ref a6, V.ref a7, V.ref a8, V.ref a9, V.ref a10, V.ref a11, V.ref a12, V.ref a13, V.ref a14, V.ref a15, V.ref a16, V.ref a17, V.ref a18, V.ref a19, V.ref a20, V.ref a21]) r4 = some (.lst [V.ref a1, V.ref a2, V.ref a3, V.ref a4, V.ref a5, V.ref a6, V.ref a7, V.ref a8, V.ref a9, V.ref a10, V.ref a11, V.ref a12, V.ref a13, V.ref a14, V.ref a15, V.ref a16, V.ref a17, V.ref a18, V.ref a19, V.ref a20, V.ref a21]) := upd_same
    clear q1
    generalize hh30 : upd h29 r4 (.lst [V.ref a1, V.ref a2, V.ref a3, V.ref a4, V.ref a5, V.ref a6, V.ref a7, V.ref a8, V.ref a9, V.ref a10, V.ref a11, V.ref a12, V.ref a13, V.ref a14, V.ref a15, V.ref a16, V.ref a17, V.ref a18, V.ref a19, V.ref a20, V.ref a21]) = h30 at m q0
    have hh30' : upd h29 r4 (.lst ([V.ref a1, V.ref a2, V.ref a3, V.ref a4, V.ref a5, V.ref a6, V.ref a7, V.ref a8, V.ref a9, V.ref a10, V.ref a11, V.ref a12, V.ref a13, V.ref a14, V.ref a15, V.ref a16, V.ref a17, V.ref a18, V.ref a19] ++ [V.ref a20, V.ref a21])) = h30 := hh30
    rw [hh30']
    exact q _ _ _ m q0
end
end Lw

/-! What the errors keep. -/
namespace Lw
open PySem PySem.Spec PyProof.Rows L2 Fw
/-- an error with number j that keeps y -/
def Kd (A : Nat → Addr) (H : Hp) (a : Addr) (j : Nat) (y : V) : Prop := ∃ d, H a = some (ExD (A j) a d) ∧ H d = some (.xd [(fld j, y)])
theorem Kd.same {A : Nat → Addr} {H H' : Hp} {a : Addr} {j : Nat} {y : V} (h : Kd A H a j y) (s : Same H H') : Kd A H' a j y := by
  obtain ⟨d, h1, h2⟩ := h
  exact ⟨d, s _ _ h1, s _ _ h2⟩
theorem Kd.err {A : Nat → Addr} {H : Hp} {a : Addr} {j : Nat} {y : V} (h : Kd A H a j y) : IsErr H a (A j) := by
  obtain ⟨d, h1, h2⟩ := h
  exact .inr ⟨d, _, h1, h2⟩
theorem kd_new {A : Nat → Addr} {H : Hp} {a d : Addr} {j : Nat} {y : V} (nd : H d = none) (ne : d ≠ a) : Kd A (upd (upd H d (.xd [(fld j, y)])) a (ExD (A j) a d)) a j y :=
  ⟨d, upd_same, by rw [upd_ne ne]; exact upd_same⟩
theorem same_two {H : Hp} {a d : Addr} {o u : HO} (na : H a = none) (nd : H d = none) (ne : d ≠ a) : Same H (upd (upd H d u) a o) := fun b z e => by
  rw [upd_ne (ne_of_none e na), upd_ne (ne_of_none e nd)]
  exact e
theorem look1 (f : Str) (y : V) : List.lookup f [(f, y)] = some y := by simp [List.lookup]
/-- at t stands the tuple (x, y) -/
def Pr (H : Hp) (t : Addr) (x : Str) (y : V) : Prop := H t = some (.tup [.str x, y])
theorem Pr.same {H H' : Hp} {t : Addr} {x : Str} {y : V} (h : Pr H t x y) (s : Same H H') : Pr H' t x y := s _ _ h
/-- at p a list of seven pairs: texts x 0, .., x 6; the first one with u, the others with v -/
def Rows7 (H : Hp) (p : Addr) (x : Nat → Str) (u v : V) : Prop := ∃ t0 t1 t2 t3 t4 t5 t6 : Addr, H p = some (.lst [.ref t0, .ref t1, .ref t2, .ref t3, .ref t4, .ref t5, .ref t6]) ∧
  Pr H t0 (x 0) u ∧ Pr H t1 (x 1) v ∧ Pr H t2 (x 2) v ∧ Pr H t3 (x 3) v ∧ Pr H t4 (x 4) v ∧ Pr H t5 (x 5) v ∧ Pr H t6 (x 6) v
theorem Rows7.same {H H' : Hp} {p : Addr} {x : Nat → Str} {u v : V} (h : Rows7 H p x u v) (s : Same H H') : Rows7 H' p x u v := by
  obtain ⟨t0, t1, t2, t3, t4, t5, t6, h, h0, h1, h2, h3, h4, h5, h6⟩ := h
  exact ⟨t0, t1, t2, t3, t4, t5, t6, s _ _ h, h0.same s, h1.same s, h2.same s, h3.same s, h4.same s, h5.same s, h6.same s⟩
def spKept : Sp := fun vs H Q _ => ∃ told index : V, vs = [told, index] ∧ ∀ p H', Same H H' → p ≠ sysModules → Rows7 H' p (fun k => all (22 + k)) index told → Q (.ref p) H'
section
variable {P : Program} {w : World} {K : PySem.W.Frag} {mg : Str → Option Value} {base : Heap} {CX : CXT} {A I : Nat → Addr}
theorem scKept : FnScope ["_law_told", "_law_index", "_law_parse", "_law_unknown", "_law_drawn", "_law_number", "_law_undo", "_law_limit", "_law_refused", "_law_found"] ["_law_told", "_law_index"] (defScope sKept) := ⟨rfl, rfl, rfl, by decide +kernel, rfl, by decide +kernel, by decide +kernel⟩
theorem iO_22 : InitOk (fld 22) := ⟨by intros; rfl, by intros; rfl, by intros; rfl, by intros; rfl, by intros; rfl, by intros; rfl, by decide +kernel⟩
theorem iO_23 : InitOk (fld 23) := ⟨by intros; rfl, by intros; rfl, by intros; rfl, by intros; rfl, by intros; rfl, by intros; rfl, by decide +kernel⟩
theorem iO_24 : InitOk (fld 24) := ⟨by intros; rfl, by intros; rfl, by intros; rfl, by intros; rfl, by intros; rfl, by intros; rfl, by decide +kernel⟩
theorem iO_25 : InitOk (fld 25) := ⟨by intros; rfl, by intros; rfl, by intros; rfl, by intros; rfl, by intros; rfl, by intros; rfl, by decide +kernel⟩
theorem iO_26 : InitOk (fld 26) := ⟨by intros; rfl, by intros; rfl, by intros; rfl, by intros; rfl, by intros; rfl, by intros; rfl, by decide +kernel⟩
theorem iO_27 : InitOk (fld 27) := ⟨by intros; rfl, by intros; rfl, by intros; rfl, by intros; rfl, by intros; rfl, by intros; rfl, by decide +kernel⟩
theorem iO_28 : InitOk (fld 28) := ⟨by intros; rfl, by intros; rfl, by intros; rfl, by intros; rfl, by intros; rfl, by intros; rfl, by decide +kernel⟩
theorem ok_kept {f fA f1 f2 f3 : Addr} {fd dA d1 d2 d3 : FuncData} (F : Fun K "_law_kept" "_law_kept" sKept f fd) (D : TxD mg) (T : TxE K mg A I) (U : TxA K mg f1 f2 f3 d1 d2 d3)
    (mA : mg "_law_all" = some (.ref fA)) (FA : Fun K "_law_all" "_law_all" sAll fA dA) (bA : Binds K dA ["_law_error"] []) : FnG P w K mg base CX0 3 f fd ["_law_told", "_law_index"] spKept := by
  have GA : FnG P w K mg base CX0 2 fA dA ["_law_error"] (spHalf A all) := ok_all FA D T U
  obtain ⟨q22, T22⟩ := T.init 22 (by decide) (by decide)
  obtain ⟨q23, T23⟩ := T.init 23 (by decide) (by decide)
  obtain ⟨q24, T24⟩ := T.init 24 (by decide) (by decide)
  obtain ⟨q25, T25⟩ := T.init 25 (by decide) (by decide)
  obtain ⟨q26, T26⟩ := T.init 26 (by decide) (by decide)
  obtain ⟨q27, T27⟩ := T.init 27 (by decide) (by decide)
  obtain ⟨q28, T28⟩ := T.init 28 (by decide) (by decide)
  refine fnG F scKept (fun vs H Q E h => ?_) (fun cdv Ar fr s H vs Q E hG hr h => ?_)
  · obtain ⟨told, index, rfl, _⟩ := h
    rfl
  · obtain ⟨told, index, rfl, q⟩ := h
    refine ⟨_, (pss_cons (ps_par (i := 2) (j := 3) (by rfl) scKept.nd rfl rfl (by decide) rfl rfl (pa_cons (pe_mkE T22 iO_22 hr (by rfl) (T.gl 22 (by decide)) (pv 1)) (pa_cons (pe_mkE T23 iO_23 hr (by rfl) (T.gl 23 (by decide)) (pv 0)) pa_nil)) (by rfl))
      (pss_cons (ps_par (i := 4) (j := 5) (by rfl) scKept.nd rfl rfl (by decide) rfl rfl (pa_cons (pe_mkE T24 iO_24 hr (by rfl) (T.gl 24 (by decide)) (pv 0)) (pa_cons (pe_mkE T25 iO_25 hr (by rfl) (T.gl 25 (by decide)) (pv 0)) pa_nil)) (by rfl))
      (pss_cons (ps_par3 (i := 6) (j := 7) (l := 8) (by rfl) scKept.nd rfl rfl rfl (by decide) (by decide) (by decide) rfl rfl rfl (pa_cons (pe_mkE T26 iO_26 hr (by rfl) (T.gl 26 (by decide)) (pv 0)) (pa_cons (pe_mkE T27 iO_27 hr (by rfl) (T.gl 27 (by decide)) (pv 0)) (pa_cons (pe_mkE T28 iO_28 hr (by rfl) (T.gl 28 (by decide)) (pv 0)) pa_nil))) (by rfl))
      (pss_cons (ps_set (i := 9) scKept.nd rfl (Or.inl rfl) (pe_lst (pa_cons (pe_tup (pa_cons (pe_callG (E := fun _ _ _ _ => False) hG GA hr (by rfl) mA FA.kp bA .nil (fun _ => passAt0) (pa_cons (pv 2) pa_nil)) (pa_cons (pe_ofE (pv 2)) pa_nil))) (pa_cons (pe_tup (pa_cons (pe_callG (E := fun _ _ _ _ => False) hG GA hr (by rfl) mA FA.kp bA .nil (fun _ => passAt0) (pa_cons (pv 3) pa_nil)) (pa_cons (pe_ofE (pv 3)) pa_nil))) (pa_cons (pe_tup (pa_cons (pe_callG (E := fun _ _ _ _ => False) hG GA hr (by rfl) mA FA.kp bA .nil (fun _ => passAt0) (pa_cons (pv 4) pa_nil)) (pa_cons (pe_ofE (pv 4)) pa_nil))) pa_nil)))))
      (pss_cons (ps_set (i := 9) scKept.nd rfl (Or.inl rfl) (pe_op op_cat (pv 9) (pe_lst (pa_cons (pe_tup (pa_cons (pe_callG (E := fun _ _ _ _ => False) hG GA hr (by rfl) mA FA.kp bA .nil (fun _ => passAt0) (pa_cons (pv 5) pa_nil)) (pa_cons (pe_ofE (pv 5)) pa_nil))) (pa_cons (pe_tup (pa_cons (pe_callG (E := fun _ _ _ _ => False) hG GA hr (by rfl) mA FA.kp bA .nil (fun _ => passAt0) (pa_cons (pv 6) pa_nil)) (pa_cons (pe_ofE (pv 6)) pa_nil))) (pa_cons (pe_tup (pa_cons (pe_callG (E := fun _ _ _ _ => False) hG GA hr (by rfl) mA FA.kp bA .nil (fun _ => passAt0) (pa_cons (pv 7) pa_nil)) (pa_cons (pe_ofE (pv 7)) pa_nil))) pa_nil))))))
      (pss_one (ps_ret (pe_op op_catN (pv 9) (pe_lst (pa_cons (pe_tup (pa_cons (pe_callG (E := fun _ _ _ _ => False) hG GA hr (by rfl) mA FA.kp bA .nil (fun _ => passAt0) (pa_cons (pv 8) pa_nil)) (pa_cons (pe_ofE (pv 8)) pa_nil))) pa_nil)))))))))), ?_⟩
    have S : Same H H := fun _ _ e => e
    refine ⟨_, rfl, ?_⟩
    intro a22 d22 na nd ne
    have z := same_two (o := ExD (A 22) a22 d22) (u := .xd [(fld 22, index)]) na nd ne
    have k22 : Kd A (upd (upd H d22 (.xd [(fld 22, index)])) a22 (ExD (A 22) a22 d22)) a22 22 index := kd_new nd ne
    replace S := same_trans S z
    generalize upd (upd H d22 (.xd [(fld 22, index)])) a22 (ExD (A 22) a22 d22) = h1 at S k22 ⊢
    clear z na nd ne
    refine ⟨_, rfl, ?_⟩
    intro a23 d23 na nd ne
    have z := same_two (o := ExD (A 23) a23 d23) (u := .xd [(fld 23, told)]) na nd ne
    have k23 : Kd A (upd (upd h1 d23 (.xd [(fld 23, told)])) a23 (ExD (A 23) a23 d23)) a23 23 told := kd_new nd ne
    replace k22 := k22.same z
    replace S := same_trans S z
    generalize upd (upd h1 d23 (.xd [(fld 23, told)])) a23 (ExD (A 23) a23 d23) = h2 at S k22 k23 ⊢
    clear z na nd ne
    refine ⟨_, _, rfl, ?_⟩
    refine ⟨_, rfl, ?_⟩
    intro a24 d24 na nd ne
    have z := same_two (o := ExD (A 24) a24 d24) (u := .xd [(fld 24, told)]) na nd ne
    have k24 : Kd A (upd (upd h2 d24 (.xd [(fld 24, told)])) a24 (ExD (A 24) a24 d24)) a24 24 told := kd_new nd ne
    replace k22 := k22.same z
    replace k23 := k23.same z
    replace S := same_trans S z
    generalize upd (upd h2 d24 (.xd [(fld 24, told)])) a24 (ExD (A 24) a24 d24) = h3 at S k22 k23 k24 ⊢
    clear z na nd ne
    refine ⟨_, rfl, ?_⟩
    intro a25 d25 na nd ne
    have z := same_two (o := ExD (A 25) a25 d25) (u := .xd [(fld 25, told)]) na nd ne
    have k25 : Kd A (upd (upd h3 d25 (.xd [(fld 25, told)])) a25 (ExD (A 25) a25 d25)) a25 25 told := kd_new nd ne
    replace k22 := k22.same z
    replace k23 := k23.same z
    replace k24 := k24.same z
    replace S := same_trans S z
    generalize upd (upd h3 d25 (.xd [(fld 25, told)])) a25 (ExD (A 25) a25 d25) = h4 at S k22 k23 k24 k25 ⊢
    clear z na nd ne
    refine ⟨_, _, rfl, ?_⟩
    refine ⟨_, rfl, ?_⟩
    intro a26 d26 na nd ne
    have z := same_two (o := ExD (A 26) a26 d26) (u := .xd [(fld 26, told)]) na nd ne
    have k26 : Kd A (upd (upd h4 d26 (.xd [(fld 26, told)])) a26 (ExD (A 26) a26 d26)) a26 26 told := kd_new nd ne
    replace k22 := k22.same z
    replace k23 := k23.same z
    replace k24 := k24.same z
    replace k25 := k25.same z
    replace S := same_trans S z
    generalize upd (upd h4 d26 (.xd [(fld 26, told)])) a26 (ExD (A 26) a26 d26) = h5 at S k22 k23 k24 k25 k26 ⊢
    clear z na nd ne
    refine ⟨_, rfl, ?_⟩
    intro a27 d27 na nd ne
    have z := same_two (o := ExD (A 27) a27 d27) (u := .xd [(fld 27, told)]) na nd ne
    have k27 : Kd A (upd (upd h5 d27 (.xd [(fld 27, told)])) a27 (ExD (A 27) a27 d27)) a27 27 told := kd_new nd ne
    replace k22 := k22.same z
    replace k23 := k23.same z
    replace k24 := k24.same z
    replace k25 := k25.same z
    replace k26 := k26.same z
    replace S := same_trans S z
    generalize upd (upd h5 d27 (.xd [(fld 27, told)])) a27 (ExD (A 27) a27 d27) = h6 at S k22 k23 k24 k25 k26 k27 ⊢
    clear z na nd ne
    refine ⟨_, rfl, ?_⟩
    intro a28 d28 na nd ne
    have z := same_two (o := ExD (A 28) a28 d28) (u := .xd [(fld 28, told)]) na nd ne
    have k28 : Kd A (upd (upd h6 d28 (.xd [(fld 28, told)])) a28 (ExD (A 28) a28 d28)) a28 28 told := kd_new nd ne
    replace k22 := k22.same z
    replace k23 := k23.same z
    replace k24 := k24.same z
    replace k25 := k25.same z
    replace k26 := k26.same z
    replace k27 := k27.same z
    replace S := same_trans S z
    generalize upd (upd h6 d28 (.xd [(fld 28, told)])) a28 (ExD (A 28) a28 d28) = h7 at S k22 k23 k24 k25 k26 k27 k28 ⊢
    clear z na nd ne
    refine ⟨_, _, _, rfl, ?_⟩
    refine ⟨_, rfl, a22, 22, rfl, by decide, k22.err, ?_⟩
    obtain ⟨e22, x1, x2⟩ := id k22
    refine ⟨_, rfl, a22, A 22, e22, _, index, rfl, x1, x2, T.xf 22 (by decide), T22.noF, look1 (fld 22) index, ?_⟩
    refine ⟨(by show 2 ≤ sizeLine; decide), fun t22 nt => ?_⟩
    clear x1 x2
    have z := same_upd (o := .tup [.str (all 22), index]) nt
    have r22 : Pr (upd h7 t22 (.tup [.str (all 22), index])) t22 (all 22) index := upd_same
    replace k22 := k22.same z
    replace k23 := k23.same z
    replace k24 := k24.same z
    replace k25 := k25.same z
    replace k26 := k26.same z
    replace k27 := k27.same z
    replace k28 := k28.same z
    replace S := same_trans S z
    generalize upd h7 t22 (.tup [.str (all 22), index]) = h8 at S k22 k23 k24 k25 k26 k27 k28 r22 ⊢
    clear z nt
    refine ⟨_, rfl, a23, 23, rfl, by decide, k23.err, ?_⟩
    obtain ⟨e23, x1, x2⟩ := id k23
    refine ⟨_, rfl, a23, A 23, e23, _, told, rfl, x1, x2, T.xf 23 (by decide), T23.noF, look1 (fld 23) told, ?_⟩
    refine ⟨(by show 2 ≤ sizeLine; decide), fun t23 nt => ?_⟩
    clear x1 x2
    have z := same_upd (o := .tup [.str (all 23), told]) nt
    have r23 : Pr (upd h8 t23 (.tup [.str (all 23), told])) t23 (all 23) told := upd_same
    replace k22 := k22.same z
    replace k23 := k23.same z
    replace k24 := k24.same z
    replace k25 := k25.same z
    replace k26 := k26.same z
    replace k27 := k27.same z
    replace k28 := k28.same z
    replace r22 := r22.same z
    replace S := same_trans S z
    generalize upd h8 t23 (.tup [.str (all 23), told]) = h9 at S k22 k23 k24 k25 k26 k27 k28 r22 r23 ⊢
    clear z nt
    refine ⟨_, rfl, a24, 24, rfl, by decide, k24.err, ?_⟩
    obtain ⟨e24, x1, x2⟩ := id k24
    refine ⟨_, rfl, a24, A 24, e24, _, told, rfl, x1, x2, T.xf 24 (by decide), T24.noF, look1 (fld 24) told, ?_⟩
    refine ⟨(by show 2 ≤ sizeLine; decide), fun t24 nt => ?_⟩
    clear x1 x2
    have z := same_upd (o := .tup [.str (all 24), told]) nt
    have r24 : Pr (upd h9 t24 (.tup [.str (all 24), told])) t24 (all 24) told := upd_same
    replace k22 := k22.same z
    replace k23 := k23.same z
    replace k24 := k24.same z
    replace k25 := k25.same z
    replace k26 := k26.same z
    replace k27 := k27.same z
    replace k28 := k28.same z
    replace r22 := r22.same z
    replace r23 := r23.same z
    replace S := same_trans S z
    generalize upd h9 t24 (.tup [.str (all 24), told]) = h10 at S k22 k23 k24 k25 k26 k27 k28 r22 r23 r24 ⊢
    clear z nt
    refine ⟨(by show 3 ≤ sizeLine; decide), fun p0 np => ?_⟩
    have z := same_upd (o := .lst [V.ref t22, V.ref t23, V.ref t24]) np
    have l0 : upd h10 p0 (.lst [V.ref t22, V.ref t23, V.ref t24]) p0 = some (.lst [V.ref t22, V.ref t23, V.ref t24]) := upd_same
    replace k22 := k22.same z
    replace k23 := k23.same z
    replace k24 := k24.same z
    replace k25 := k25.same z
    replace k26 := k26.same z
    replace k27 := k27.same z
    replace k28 := k28.same z
    replace r22 := r22.same z
    replace r23 := r23.same z
    replace r24 := r24.same z
    replace S := same_trans S z
    generalize upd h10 p0 (.lst [V.ref t22, V.ref t23, V.ref t24]) = h11 at S k22 k23 k24 k25 k26 k27 k28 r22 r23 r24 l0 ⊢
    clear z np
    refine ⟨_, rfl, ?_⟩
    refine ⟨_, rfl, a25, 25, rfl, by decide, k25.err, ?_⟩
    obtain ⟨e25, x1, x2⟩ := id k25
    refine ⟨_, rfl, a25, A 25, e25, _, told, rfl, x1, x2, T.xf 25 (by decide), T25.noF, look1 (fld 25) told, ?_⟩
    refine ⟨(by show 2 ≤ sizeLine; decide), fun t25 nt => ?_⟩
    clear x1 x2
    have z := same_upd (o := .tup [.str (all 25), told]) nt
    have r25 : Pr (upd h11 t25 (.tup [.str (all 25), told])) t25 (all 25) told := upd_same
    replace k22 := k22.same z
    replace k23 := k23.same z
    replace k24 := k24.same z
    replace k25 := k25.same z
    replace k26 := k26.same z
    replace k27 := k27.same z
    replace k28 := k28.same z
    replace r22 := r22.same z
    replace r23 := r23.same z
    replace r24 := r24.same z
    replace l0 := z _ _ l0
    replace S := same_trans S z
    generalize upd h11 t25 (.tup [.str (all 25), told]) = h12 at S k22 k23 k24 k25 k26 k27 k28 r22 r23 r24 r25 l0 ⊢
    clear z nt
    refine ⟨_, rfl, a26, 26, rfl, by decide, k26.err, ?_⟩
    obtain ⟨e26, x1, x2⟩ := id k26
    refine ⟨_, rfl, a26, A 26, e26, _, told, rfl, x1, x2, T.xf 26 (by decide), T26.noF, look1 (fld 26) told, ?_⟩
    refine ⟨(by show 2 ≤ sizeLine; decide), fun t26 nt => ?_⟩
    clear x1 x2
    have z := same_upd (o := .tup [.str (all 26), told]) nt
    have r26 : Pr (upd h12 t26 (.tup [.str (all 26), told])) t26 (all 26) told := upd_same
    replace k22 := k22.same z
    replace k23 := k23.same z
    replace k24 := k24.same z
    replace k25 := k25.same z
    replace k26 := k26.same z
    replace k27 := k27.same z
    replace k28 := k28.same z
    replace r22 := r22.same z
    replace r23 := r23.same z
    replace r24 := r24.same z
    replace r25 := r25.same z
    replace l0 := z _ _ l0
    replace S := same_trans S z
    generalize upd h12 t26 (.tup [.str (all 26), told]) = h13 at S k22 k23 k24 k25 k26 k27 k28 r22 r23 r24 r25 r26 l0 ⊢
    clear z nt
    refine ⟨_, rfl, a27, 27, rfl, by decide, k27.err, ?_⟩
    obtain ⟨e27, x1, x2⟩ := id k27
    refine ⟨_, rfl, a27, A 27, e27, _, told, rfl, x1, x2, T.xf 27 (by decide), T27.noF, look1 (fld 27) told, ?_⟩
    refine ⟨(by show 2 ≤ sizeLine; decide), fun t27 nt => ?_⟩
    clear x1 x2
    have z := same_upd (o := .tup [.str (all 27), told]) nt
    have r27 : Pr (upd h13 t27 (.tup [.str (all 27), told])) t27 (all 27) told := upd_same
    replace k22 := k22.same z
    replace k23 := k23.same z
    replace k24 := k24.same z
    replace k25 := k25.same z
    replace k26 := k26.same z
    replace k27 := k27.same z
    replace k28 := k28.same z
    replace r22 := r22.same z
    replace r23 := r23.same z
    replace r24 := r24.same z
    replace r25 := r25.same z
    replace r26 := r26.same z
    replace l0 := z _ _ l0
    replace S := same_trans S z
    generalize upd h13 t27 (.tup [.str (all 27), told]) = h14 at S k22 k23 k24 k25 k26 k27 k28 r22 r23 r24 r25 r26 r27 l0 ⊢
    clear z nt
    refine ⟨(by show 3 ≤ sizeLine; decide), fun p1 np => ?_⟩
    have z := same_upd (o := .lst [V.ref t25, V.ref t26, V.ref t27]) np
    have l1 : upd h14 p1 (.lst [V.ref t25, V.ref t26, V.ref t27]) p1 = some (.lst [V.ref t25, V.ref t26, V.ref t27]) := upd_same
    replace k22 := k22.same z
    replace k23 := k23.same z
    replace k24 := k24.same z
    replace k25 := k25.same z
    replace k26 := k26.same z
    replace k27 := k27.same z
    replace k28 := k28.same z
    replace r22 := r22.same z
    replace r23 := r23.same z
    replace r24 := r24.same z
    replace r25 := r25.same z
    replace r26 := r26.same z
    replace r27 := r27.same z
    replace l0 := z _ _ l0
    replace S := same_trans S z
    generalize upd h14 p1 (.lst [V.ref t25, V.ref t26, V.ref t27]) = h15 at S k22 k23 k24 k25 k26 k27 k28 r22 r23 r24 r25 r26 r27 l0 l1 ⊢
    clear z np
    refine ⟨_, _, _, _, rfl, rfl, l0, l1, (by show 6 ≤ sizeLine; decide), fun g0 ng => ?_⟩
    have z := same_upd (o := .lst [V.ref t22, V.ref t23, V.ref t24, V.ref t25, V.ref t26, V.ref t27]) ng
    have c0 : upd h15 g0 (.lst [V.ref t22, V.ref t23, V.ref t24, V.ref t25, V.ref t26, V.ref t27]) g0 = some (.lst [V.ref t22, V.ref t23, V.ref t24, V.ref t25, V.ref t26, V.ref t27]) := upd_same
    replace k22 := k22.same z
    replace k23 := k23.same z
    replace k24 := k24.same z
    replace k25 := k25.same z
    replace k26 := k26.same z
    replace k27 := k27.same z
    replace k28 := k28.same z
    replace r22 := r22.same z
    replace r23 := r23.same z
    replace r24 := r24.same z
    replace r25 := r25.same z
    replace r26 := r26.same z
    replace r27 := r27.same z
    replace l0 := z _ _ l0
    replace l1 := z _ _ l1
    replace S := same_trans S z
    have hh : upd h15 g0 (.lst ([V.ref t22, V.ref t23, V.ref t24] ++ [V.ref t25, V.ref t26, V.ref t27])) = upd h15 g0 (.lst [V.ref t22, V.ref t23, V.ref t24, V.ref t25, V.ref t26, V.ref t27]) := rfl
    rw [hh]
    generalize upd h15 g0 (.lst [V.ref t22, V.ref t23, V.ref t24, V.ref t25, V.ref t26, V.ref t27]) = h16 at S k22 k23 k24 k25 k26 k27 k28 r22 r23 r24 r25 r26 r27 l0 l1 c0 ⊢
    clear z ng hh
    refine ⟨_, rfl, ?_⟩
    refine ⟨_, rfl, a28, 28, rfl, by decide, k28.err, ?_⟩
    obtain ⟨e28, x1, x2⟩ := id k28
    refine ⟨_, rfl, a28, A 28, e28, _, told, rfl, x1, x2, T.xf 28 (by decide), T28.noF, look1 (fld 28) told, ?_⟩
    refine ⟨(by show 2 ≤ sizeLine; decide), fun t28 nt => ?_⟩
    clear x1 x2
    have z := same_upd (o := .tup [.str (all 28), told]) nt
    have r28 : Pr (upd h16 t28 (.tup [.str (all 28), told])) t28 (all 28) told := upd_same
    replace k22 := k22.same z
    replace k23 := k23.same z
    replace k24 := k24.same z
    replace k25 := k25.same z
    replace k26 := k26.same z
    replace k27 := k27.same z
    replace k28 := k28.same z
    replace r22 := r22.same z
    replace r23 := r23.same z
    replace r24 := r24.same z
    replace r25 := r25.same z
    replace r26 := r26.same z
    replace r27 := r27.same z
    replace l0 := z _ _ l0
    replace l1 := z _ _ l1
    replace c0 := z _ _ c0
    replace S := same_trans S z
    generalize upd h16 t28 (.tup [.str (all 28), told]) = h17 at S k22 k23 k24 k25 k26 k27 k28 r22 r23 r24 r25 r26 r27 r28 l0 l1 c0 ⊢
    clear z nt
    refine ⟨(by show 1 ≤ sizeLine; decide), fun p2 np => ?_⟩
    have z := same_upd (o := .lst [V.ref t28]) np
    have l2 : upd h17 p2 (.lst [V.ref t28]) p2 = some (.lst [V.ref t28]) := upd_same
    replace k22 := k22.same z
    replace k23 := k23.same z
    replace k24 := k24.same z
    replace k25 := k25.same z
    replace k26 := k26.same z
    replace k27 := k27.same z
    replace k28 := k28.same z
    replace r22 := r22.same z
    replace r23 := r23.same z
    replace r24 := r24.same z
    replace r25 := r25.same z
    replace r26 := r26.same z
    replace r27 := r27.same z
    replace r28 := r28.same z
    replace l0 := z _ _ l0
    replace l1 := z _ _ l1
    replace c0 := z _ _ c0
    replace S := same_trans S z
    generalize upd h17 p2 (.lst [V.ref t28]) = h18 at S k22 k23 k24 k25 k26 k27 k28 r22 r23 r24 r25 r26 r27 r28 l0 l1 c0 l2 ⊢
    clear z np
    refine ⟨_, _, _, _, rfl, rfl, c0, l2, (by show 7 ≤ sizeLine; decide), fun g1 ng nsys => ?_⟩
    have z := same_upd (o := .lst [V.ref t22, V.ref t23, V.ref t24, V.ref t25, V.ref t26, V.ref t27, V.ref t28]) ng
    have c1 : upd h18 g1 (.lst [V.ref t22, V.ref t23, V.ref t24, V.ref t25, V.ref t26, V.ref t27, V.ref t28]) g1 = some (.lst [V.ref t22, V.ref t23, V.ref t24, V.ref t25, V.ref t26, V.ref t27, V.ref t28]) := upd_same
    replace k22 := k22.same z
    replace k23 := k23.same z
    replace k24 := k24.same z
    replace k25 := k25.same z
    replace k26 := k26.same z
    replace k27 := k27.same z
    replace k28 := k28.same z
    replace r22 := r22.same z
    replace r23 := r23.same z
    replace r24 := r24.same z
    replace r25 := r25.same z
    replace r26 := r26.same z
    replace r27 := r27.same z
    replace r28 := r28.same z
    replace l0 := z _ _ l0
    replace l1 := z _ _ l1
    replace c0 := z _ _ c0
    replace l2 := z _ _ l2
    replace S := same_trans S z
    have hh : upd h18 g1 (.lst ([V.ref t22, V.ref t23, V.ref t24, V.ref t25, V.ref t26, V.ref t27] ++ [V.ref t28])) = upd h18 g1 (.lst [V.ref t22, V.ref t23, V.ref t24, V.ref t25, V.ref t26, V.ref t27, V.ref t28]) := rfl
    rw [hh]
    generalize upd h18 g1 (.lst [V.ref t22, V.ref t23, V.ref t24, V.ref t25, V.ref t26, V.ref t27, V.ref t28]) = h19 at S k22 k23 k24 k25 k26 k27 k28 r22 r23 r24 r25 r26 r27 r28 l0 l1 c0 l2 c1 ⊢
    clear z ng hh
    exact q _ _ S nsys ⟨t22, t23, t24, t25, t26, t27, t28, c1, r22, r23, r24, r25, r26, r27, r28⟩
end
end Lw

/-! Errors that are caught. -/
namespace Lw
open PySem PySem.Spec PyProof.Rows L2 Fw
def told3 (way : Int) (t : Str) : Str := if way = 0 then "base h" else if way = 1 then ("refused " : Str) ++ t else ("drawn " : Str) ++ t
def spCaught (K : PySem.W.Frag) : Sp := fun vs H Q _ => ∃ (told : V) (dt : PyData) (way : Int), vs = [told, .int way] ∧ Rp K H told dt ∧ dt.showable = true ∧ dt.depth ≤ 40 ∧ dt.shown.length ≤ 1000 ∧ 0 ≤ way ∧ way ≤ 2 ∧
  ∀ H', Same H H' → Q (.str (told3 way dt.shown)) H'
theorem base_h : ("base " : Str) ++ first 8 = ("base h" : Str) := by decide +kernel
theorem len8 {z t : Str} {n : Nat} (hz : z.length ≤ n) (hn : n ≤ 1000) (ht : t.length ≤ 1000) : z.length + t.length ≤ sizeLine := by
  have : (2000 : Nat) ≤ sizeLine := by decide
  omega
section
variable {P : Program} {w : World} {K : PySem.W.Frag} {mg : Str → Option Value} {base : Heap} {CX : CXT} {A I : Nat → Addr}
theorem scCaught : FnScope ["_law_told", "_law_way", "e"] ["_law_told", "_law_way"] (defScope sCaught) := ⟨rfl, rfl, rfl, by decide +kernel, rfl, by decide +kernel, by decide +kernel⟩
theorem TxE.exm (T : TxE K mg A I) {i j : Nat} (hi : i < 29) (hj : j < 29) : PySem.W.exmOne K (.ref (A i)) (.ref (A j)) = some (isA i j) :=
  PySem.W.exm_ref (T.ex j hj).hs (T.ex j hj).hd (T.tyC j hj) (T.sub i j hi hj)
theorem ok_caught {f f1 : Addr} {fd d1 : FuncData} (F : Fun K "_law_caught" "_law_caught" sCaught f fd) (D : TxD mg) (T : TxE K mg A I) (m1 : mg "_law_first_half" = some (.ref f1)) (F1 : Fun K "_law_first_half" "_law_first_half" sFirst f1 d1) (b1 : Binds K d1 ["_law_error"] []) :
    FnG P w K mg base CX0 3 f fd ["_law_told", "_law_way"] (spCaught K) := by
  have G1 : FnE P w K mg base 1 f1 d1 "_law_error" (fun D Q H => ∃ i, i < 29 ∧ D = A i ∧ Q (.str (first i)) H) := hot_first F1 D T
  obtain ⟨q24, T24⟩ := T.init 24 (by decide) (by decide)
  obtain ⟨q28, T28⟩ := T.init 28 (by decide) (by decide)
  refine fnG F scCaught (fun vs H Q E h => ?_) (fun cdv Ar fr s H vs Q E hG hr h => ?_)
  · obtain ⟨told, dt, way, rfl, _⟩ := h
    rfl
  · obtain ⟨told, dt, way, rfl, hR, hs, hdp, hl, w0, w1, q⟩ := h
    have hrH : L2H.RoomH 1 (Ar.deeper (envOfC "_law_caught" (defScope sCaught) s.heap.objs.size f cdv)) := L2H.roomH_of (hr.mono (by decide))
    refine ⟨_, pss_one (ps_try_cls (out := fun _ _ _ _ => False) rfl rfl scCaught.nd takes_none5
      (fun W pn xe tk _ =>
        pss_cons (ps_if (pt_cmpR op_eq (pv 1) pe_int (nomark _)) (pss_one (ps_raise rfl tk (pmk_own PySem.F.excBase_ValueError (T.plain 8 (by decide)) (T.gl 8 (by decide)) (T.kp 8 (by decide)) (raises_own (T.ex 8 (by decide)).hs (T.tyC 8 (by decide))) (by rfl)))) pss_nil)
        (pss_cons (ps_if (pt_cmpR op_eq (pv 1) pe_int (nomark _)) (pss_one (ps_raise rfl tk (pmk_retD (K := K) (H0 := H) rfl rfl rfl (pe_mkE T28 iO_28 hr (by rfl) (T.gl 28 (by decide)) (pv 0))))) pss_nil)
        (pss_one (ps_raise rfl tk (pmk_retD (K := K) (H0 := H) rfl rfl rfl (pe_mkE T24 iO_24 hr (by rfl) (T.gl 24 (by decide)) (pv 0)))))))
      (.named (i := 2) (c := .ref (A 0)) ⟨by rfl, by decide, .inl (T.gl 0 (by decide))⟩ rfl rfl
          (fun a oe cls d pn hz hf => pss_one (ps_ret (pe_op op_add_str pe_str (pe_callE hG G1 hrH (by rfl) m1 F1.kp b1 hz hf (pv 2)))))
        (.named (i := 2) (c := .ref (A 28)) ⟨by rfl, by decide, .inl (T.gl 28 (by decide))⟩ rfl rfl
          (fun a oe cls d pn hz hf => pss_one (ps_ret (pe_op op_add_str pe_str (pe_callB (call_repr (K := K) rfl hG hr.units) (by rfl) T.rpr (by decide +kernel) (pa_cons (pe_xf (T.xf 28 (by decide)) T28.noF hz hf (pv 2)) pa_nil)))))
        (.named (i := 2) (c := .ref (A 24)) ⟨by rfl, by decide, .inl (T.gl 24 (by decide))⟩ rfl rfl
          (fun a oe cls d pn hz hf => pss_one (ps_ret (pe_op op_add_str pe_str (pe_callB (call_repr (K := K) rfl hG hr.units) (by rfl) T.rpr (by decide +kernel) (pa_cons (pe_xf (T.xf 24 (by decide)) T24.noF hz hf (pv 2)) pa_nil)))))
          .nil)))), ?_⟩
    have no : ∀ {P : Prop}, (true = false) → P := fun h => Bool.noConfusion h
    have no' : ∀ {P : Prop}, (false = true) → P := fun h => Bool.noConfusion h
    have big : dt.shown.length ≤ sizeLine := Nat.le_trans hl (by decide)
    refine ⟨_, rfl, rfl, _, rfl, ?_⟩
    refine ite2 (fun c => ?_) (fun c => ?_)
    · have w00 : way = 0 := by simpa using c
      subst w00
      refine ⟨true, T.exm (i := 8) (j := 0) (by decide) (by decide), fun _ a na => ?_, no⟩
      refine ⟨_, rfl, rfl, A 8, rfl, rfl, 8, by decide, rfl, _, _, rfl, rfl, Nat.le_trans (Nat.add_le_add (show ("base " : Str).length ≤ 5 by decide) (len11 8)) (by decide), ?_⟩
      show Q (.str (("base " : Str) ++ first 8)) _
      rw [base_h]
      exact q _ (fun _ _ e => e)
    · have w10 : way ≠ 0 := by simpa using c
      refine ⟨_, rfl, rfl, _, rfl, ?_⟩
      refine ite2 (fun c => ?_) (fun c => ?_)
      · have w11 : way = 1 := by simpa using c
        subst w11
        refine ⟨_, rfl, ?_⟩
        intro a d na nd ne
        have sm : Same H (delH (upd (upd H d (.xd [(fld 28, told)])) a (ExD (A 28) a d)) a) := fun b o e => by
          rw [delH_ne (ne_of_none e na), upd_ne (ne_of_none e na), upd_ne (ne_of_none e nd)]
          exact e
        have at_ : delH (upd (upd H d (.xd [(fld 28, told)])) a (ExD (A 28) a d)) a d = some (.xd [(fld 28, told)]) := by rw [delH_ne ne, upd_ne ne, upd_same]
        refine ⟨a, A 28, d, rfl, upd_same, fr0_none na, (T.ex 28 (by decide)).hs, T.tyC 28 (by decide), ?_⟩
        refine ⟨false, T.exm (i := 28) (j := 0) (by decide) (by decide), no', fun _ => ?_⟩
        refine ⟨true, T.exm (i := 28) (j := 28) (by decide) (by decide), fun _ a2 na2 => ?_, no⟩
        refine ⟨_, rfl, rfl, rfl, d, _, told, rfl, at_, look1 (fld 28) told, told, dt, rfl, hR.same sm, hs, hdp, big, _, _, rfl, rfl, len8 (show ("refused " : Str).length ≤ 8 by decide) (by decide) hl, q _ sm⟩
      · have w12 : way = 2 := by
          have : way ≠ 1 := by simpa using c
          omega
        subst w12
        refine ⟨_, rfl, ?_⟩
        intro a d na nd ne
        have sm : Same H (delH (upd (upd H d (.xd [(fld 24, told)])) a (ExD (A 24) a d)) a) := fun b o e => by
          rw [delH_ne (ne_of_none e na), upd_ne (ne_of_none e na), upd_ne (ne_of_none e nd)]
          exact e
        have at_ : delH (upd (upd H d (.xd [(fld 24, told)])) a (ExD (A 24) a d)) a d = some (.xd [(fld 24, told)]) := by rw [delH_ne ne, upd_ne ne, upd_same]
        refine ⟨a, A 24, d, rfl, upd_same, fr0_none na, (T.ex 24 (by decide)).hs, T.tyC 24 (by decide), ?_⟩
        refine ⟨false, T.exm (i := 24) (j := 0) (by decide) (by decide), no', fun _ => ?_⟩
        refine ⟨false, T.exm (i := 24) (j := 28) (by decide) (by decide), no', fun _ => ?_⟩
        refine ⟨true, T.exm (i := 24) (j := 24) (by decide) (by decide), fun _ a2 na2 => ?_, no⟩
        refine ⟨_, rfl, rfl, rfl, d, _, told, rfl, at_, look1 (fld 24) told, told, dt, rfl, hR.same sm, hs, hdp, big, _, _, rfl, rfl, len8 (show ("drawn " : Str).length ≤ 6 by decide) (by decide) hl, q _ sm⟩
end
end Lw

/-! All told rightly. -/
namespace Lw
open PySem PySem.Spec PyProof.Rows L2 Fw
/-! ### a comprehension over a text's signs -/
theorem lc_signs {x : Str} {g : TG} {tt : TT} {te : TE} {vs : List Nat} {σ : L2.St} {H1 : Hp} {D : Addr} {Qd : Hp → Prop} (Pv : Nat → Hp → Prop) (first_ : Pv 0 (upd H1 D (.lst [])))
    (turn : ∀ i c H, x.cps[i]? = some c → Pv i H → g (.str ⟨#[c]⟩) (wipe σ vs) H fun σ2 H2 => wipe σ2 vs = wipe σ vs ∧ tt σ2 H2 fun b H3 =>
      if b = true then te σ2 H3 fun y H4 => ∃ acc, H4 D = some (.lst acc) ∧ acc.length < sizeLine ∧ Pv (i + 1) (upd H4 D (.lst (acc ++ [y]))) else Pv (i + 1) H3) (last : ∀ H, Pv x.cps.size H → Qd H) :
    ∃ W : Nat → Nat → Hp → Prop, (∃ m, W 0 m (upd H1 D (.lst []))) ∧ ∀ i m H, W i m H →
      ((Its x).stop i H ∧ Qd H) ∨ ((Its x).go i H ∧ ∃ Nx : Hp → Prop, (∀ H', Nx H' → ∃ m', m' < m ∧ W (i + 1) m' H') ∧ ∀ z H', (Its x).yld i H z H' → g z (wipe σ vs) H' fun σ2 H2 => wipe σ2 vs = wipe σ vs ∧ tt σ2 H2 fun b H3 =>
        if b = true then te σ2 H3 fun y H4 => ∃ acc, H4 D = some (.lst acc) ∧ acc.length < sizeLine ∧ Nx (upd H4 D (.lst (acc ++ [y]))) else Nx H3) := by
  refine ⟨fun i m H => m = x.cps.size - i ∧ i ≤ x.cps.size ∧ Pv i H, ⟨x.cps.size, rfl, Nat.zero_le _, first_⟩, fun i m H hW => ?_⟩
  obtain ⟨e, le, p⟩ := hW
  by_cases c : i < x.cps.size
  · refine .inr ⟨c, fun H' => Pv (i + 1) H', fun H' q => ⟨x.cps.size - (i + 1), by omega, rfl, by omega, q⟩, fun z H' hz => ?_⟩
    obtain ⟨eH, k, hk, ez⟩ := hz
    subst eH ez
    exact turn i k _ hk p
  · have ei : i = x.cps.size := by omega
    subst ei
    exact .inl ⟨Nat.le_refl _, last H p⟩
theorem ite_no {c : Bool} {A B : Prop} (h : c = false) (b : B) : if c = true then A else B := by
  rw [h]
  exact b
/-! ### data of texts -/
theorem dpStrs {K : PySem.W.Frag} {H : Hp} : ∀ ys : List Str, DpAll K H (ys.map V.str) (ys.map PyData.str)
  | [] => .nil
  | y :: ys => .cons (.str y) (dpStrs ys)
def tx (t : Nat → Str) (n : Nat) : List Str := (List.range n).map t
theorem tx_succ (t : Nat → Str) (n : Nat) : (tx t (n + 1)).map V.str = (tx t n).map V.str ++ [V.str (t n)] := by
  unfold tx
  rw [List.range_succ]
  simp
def letters : Str := "abcdefghijklmnopqrstu"
def lw (k : Nat) : Str := (⟨#[(letters.cps[k]?).getD 0]⟩ : Str) ++ (" web value" : Str)
theorem all_lw : ∀ k, k < 21 → all (k + 1) = lw k := by decide +kernel
theorem tx_same : tx (fun k => all (k + 1)) 21 = tx lw 21 := by
  unfold tx
  refine List.map_congr_left fun k hk => all_lw k (by simpa using hk)
def due : Nat → Str
  | 0 => "P web value"
  | 1 => "U key lookup"
  | 2 => "D lookup"
  | 3 => "N index lookup"
  | 4 => "Z runtime"
  | 5 => "M overflow arithmetic"
  | _ => "R arithmetic"
theorem all_due : ∀ k, k < 7 → all (22 + k) = due k := by decide +kernel
def rows (t : Nat → Str) (u v : PyData) : PyData := .list [.tuple [.str (t 0), u], .tuple [.str (t 1), v], .tuple [.str (t 2), v], .tuple [.str (t 3), v], .tuple [.str (t 4), v], .tuple [.str (t 5), v], .tuple [.str (t 6), v]]
theorem rows_congr {s t : Nat → Str} {u v : PyData} (h : ∀ k, k < 7 → s k = t k) : rows s u v = rows t u v := by
  unfold rows
  rw [h 0 (by decide), h 1 (by decide), h 2 (by decide), h 3 (by decide), h 4 (by decide), h 5 (by decide), h 6 (by decide)]
theorem rows_same (u v : PyData) : rows (fun k => all (22 + k)) u v = rows due u v := rows_congr all_due
theorem Rows7.rp {K : PySem.W.Frag} {H : Hp} {p : Addr} {t : Nat → Str} {u v : V} {du dv : PyData} (hs : p ≠ sysModules) (h : Rows7 H p t u v) (hu : Rp K H u du) (hv : Rp K H v dv) : Rp K H (.ref p) (rows t du dv) := by
  obtain ⟨t0, t1, t2, t3, t4, t5, t6, h, h0, h1, h2, h3, h4, h5, h6⟩ := h
  have one : ∀ {q : Addr} {x : Str} {y : V} {d : PyData}, Pr H q x y → Rp K H y d → Rp K H (.ref q) (.tuple [.str x, d]) := fun a b => Rp.tup a (.cons (.str _) (.cons b .nil))
  exact Rp.lst hs (SqL.of h) (.cons (one h0 hu) (.cons (one h1 hv) (.cons (one h2 hv) (.cons (one h3 hv) (.cons (one h4 hv) (.cons (one h5 hv) (.cons (one h6 hv) .nil)))))))
/-- what the data told must bear -/
structure Good (dt di : PyData) : Prop where
  s : dt.showable = true
  d : dt.depth ≤ 40
  l : dt.shown.length ≤ 1000
  rs : (rows due di dt).showable = true
  rd : (rows due di dt).depth ≤ 40
  rl : (rows due di dt).shown.length ≤ sizeLine
  sh : SeqAt.shaped (.list ([("base h" : Str), ("refused " : Str) ++ dt.shown, ("drawn " : Str) ++ dt.shown].map PyData.str)) = true
def spRight (K : PySem.W.Frag) : Sp := fun vs H Q _ => ∃ (told index : V) (dt di : PyData), vs = [told, index] ∧ Rp K H told dt ∧ Rp K H index di ∧ Good dt di ∧ ∀ H', Same H H' → Q (.bl true) H'
structure TxR (K : PySem.W.Frag) (mg : Str → Option Value) (f1 f2 f3 fA fM fK fC : Addr) (d1 d2 d3 dA dM dK dC : FuncData) : Prop where
  U : TxA K mg f1 f2 f3 d1 d2 d3
  mA : mg "_law_all" = some (.ref fA)
  mM : mg "_law_made_all" = some (.ref fM)
  mK : mg "_law_kept" = some (.ref fK)
  mC : mg "_law_caught" = some (.ref fC)
  FA : Fun K "_law_all" "_law_all" sAll fA dA
  FM : Fun K "_law_made_all" "_law_made_all" sMade fM dM
  FK : Fun K "_law_kept" "_law_kept" sKept fK dK
  FC : Fun K "_law_caught" "_law_caught" sCaught fC dC
  bA : Binds K dA ["_law_error"] []
  bM : Binds K dM [] []
  bK : Binds K dK ["_law_told", "_law_index"] []
  bC : Binds K dC ["_law_told", "_law_way"] []
section
variable {P : Program} {w : World} {K : PySem.W.Frag} {mg : Str → Option Value} {base : Heap} {CX : CXT} {A I : Nat → Addr}
abbrev nR : List Str := ["_law_told", "_law_index", "_law_letters", "_law_due", "_law_error", "_law_letter", "_law_way"]
theorem scRight : FnScope ["_law_told", "_law_index", "_law_letters", "_law_due", "_law_error", "_law_letter", "_law_way"] ["_law_told", "_law_index"] (defScope sRight) := ⟨rfl, rfl, rfl, by decide +kernel, rfl, by decide +kernel, by decide +kernel⟩
theorem ok_right {f f1 f2 f3 fA fM fK fC : Addr} {fd d1 d2 d3 dA dM dK dC : FuncData} (F : Fun K "_law_right" "_law_right" sRight f fd) (D : TxD mg) (T : TxE K mg A I) (R : TxR K mg f1 f2 f3 fA fM fK fC d1 d2 d3 dA dM dK dC) :
    FnG P w K mg base CX0 4 f fd ["_law_told", "_law_index"] (spRight K) := by
  have GA : FnG P w K mg base CX0 2 fA dA ["_law_error"] (spHalf A all) := ok_all R.FA D T R.U
  have GM : FnG P w K mg base CX0 1 fM dM [] (spMade A) := ok_made R.FM T
  have GK : FnG P w K mg base CX0 3 fK dK ["_law_told", "_law_index"] spKept := ok_kept R.FK D T R.U R.mA R.FA R.bA
  have GC : FnG P w K mg base CX0 3 fC dC ["_law_told", "_law_way"] (spCaught K) := ok_caught R.FC D T R.U.m1 R.U.F1 R.U.b1
  refine fnG F scRight (fun vs H Q E h => ?_) (fun cdv Ar fr s H vs Q E hG hr h => ?_)
  · obtain ⟨told, index, dt, di, rfl, _⟩ := h
    rfl
  · obtain ⟨told, index, dt, di, rfl, hR, hI, gd, q⟩ := h
    have hr1 := hr.mono (show 1 ≤ 3 by decide)
    have hr2 := hr.mono (show 2 ≤ 3 by decide)
    refine ⟨_, pss_cons (ps_set (i := 2) scRight.nd rfl (Or.inl rfl) pe_str)
      (pss_cons (ps_if (pt_cmpR (op_neD hr.units)
          (pe_lc (own := [("_law_error", 4)]) (g := gName 4) (by rfl) scRight.nd (pi_list (pe_callG0 (E := fun _ _ _ _ => False) hG GM hr1 (by rfl) R.mM R.FM.kp R.bM .nil (fun _ => passAt0)))
            (blkOk_by (N := nR) (sc := defScope sRight) (own := [("_law_error", 4)]) (by decide +kernel)) (fun _ _ _ _ _ => pg_name (i := 4) scRight.nd rfl (Or.inl rfl)) (fun _ _ _ _ _ => pts_nil)
            (fun _ _ _ _ _ => pe_callG (E := fun _ _ _ _ => False) hG GA hr2 (by rfl) R.mA R.FA.kp R.bA .nil (fun _ => passAt0) (pa_cons (pv 4) pa_nil)))
          (pe_lc (own := [("_law_letter", 5)]) (g := gName 5) (by rfl) scRight.nd (pi_str (pv 2))
            (blkOk_by (N := nR) (sc := defScope sRight) (own := [("_law_letter", 5)]) (by decide +kernel)) (fun _ _ _ _ _ => pg_name (i := 5) scRight.nd rfl (Or.inl rfl)) (fun _ _ _ _ _ => pts_nil)
            (fun _ _ _ _ _ => pe_op op_add_str (pv 5) pe_str)) (nomark _)) (pss_one (ps_ret pe_bl)) pss_nil)
      (pss_cons (ps_set (i := 3) scRight.nd rfl (Or.inl rfl) (pe_lst (pa_cons (pe_tup (pa_cons pe_str (pa_cons (pv 1) pa_nil))) (pa_cons (pe_tup (pa_cons pe_str (pa_cons (pv 0) pa_nil))) (pa_cons (pe_tup (pa_cons pe_str (pa_cons (pv 0) pa_nil))) (pa_cons (pe_tup (pa_cons pe_str (pa_cons (pv 0) pa_nil))) pa_nil))))))
      (pss_cons (ps_set (i := 3) scRight.nd rfl (Or.inl rfl) (pe_op op_catN (pv 3) (pe_lst (pa_cons (pe_tup (pa_cons pe_str (pa_cons (pv 0) pa_nil))) (pa_cons (pe_tup (pa_cons pe_str (pa_cons (pv 0) pa_nil))) (pa_cons (pe_tup (pa_cons pe_str (pa_cons (pv 0) pa_nil))) pa_nil))))))
      (pss_cons (ps_if (PW.pt (pw_or (pt_cmpR op_ne (pe_callB (call_repr (K := K) rfl hG hr.units) (by rfl) T.rpr (by decide +kernel) (pa_cons (pe_callG (E := fun _ _ _ _ => False) hG GK hr (by rfl) R.mK R.FK.kp R.bK .nil (fun _ => passAt0) (pa_cons (pv 0) (pa_cons (pv 1) pa_nil))) pa_nil))
            (pe_callB (call_repr (K := K) rfl hG hr.units) (by rfl) T.rpr (by decide +kernel) (pa_cons (pv 3) pa_nil)) (nomark _))
          (pw_or1 (pt_cmpR op_ne (pe_callG (E := fun _ _ _ _ => False) hG GA hr2 (by rfl) R.mA R.FA.kp R.bA .nil (fun _ => passAt0) (pa_cons (pe_exc1 PySem.F.excBase_ValueError (T.plain 0 (by decide)) (T.gl 0 (by decide)) (T.kp 0 (by decide)) (by rfl) pe_str) pa_nil)) pe_str (nomark _)))))
          (pss_one (ps_ret pe_bl)) pss_nil)
      (pss_one (ps_ret (pe_cmpR (op_eqD hr.units)
        (pe_lc (own := [("_law_way", 6)]) (g := gName 6) (by rfl) scRight.nd (pi_range1 (by rfl) T.rng (pa_cons pe_int pa_nil))
            (blkOk_by (N := nR) (sc := defScope sRight) (own := [("_law_way", 6)]) (by decide +kernel)) (fun _ _ _ _ _ => pg_name (i := 6) scRight.nd rfl (Or.inl rfl)) (fun _ _ _ _ _ => pts_nil)
            (fun _ _ _ _ _ => pe_callG (E := fun _ _ _ _ => False) hG GC hr (by rfl) R.mC R.FC.kp R.bC .nil (fun _ => passAt0) (pa_cons (pv 0) (pa_cons (pv 6) pa_nil))))
        (pe_lst (pa_cons pe_str (pa_cons (pe_op op_add_str pe_str (pe_callB (call_repr (K := K) rfl hG hr.units) (by rfl) T.rpr (by decide +kernel) (pa_cons (pv 0) pa_nil)))
          (pa_cons (pe_op op_add_str pe_str (pe_callB (call_repr (K := K) rfl hG hr.units) (by rfl) T.rpr (by decide +kernel) (pa_cons (pv 0) pa_nil))) pa_nil)))) (nomark _)))))))), ?_⟩
    have room : sizeLine = 16777216 := sizeLine_eq
    have refl : ∀ {H : Hp}, Same H H := fun _ _ e => e
    refine ⟨rfl, fun p1 H1 l m hp => ⟨p1, rfl, ⟨_, SqL.of hp⟩, fun D1 hD1 => ?_⟩⟩
    refine lc_list (K := K) (a := p1) (xs := l.map V.ref) (fun i Hc => Same H1 Hc ∧ Hc D1 = some (.lst ((tx (fun k => all (k + 1)) i).map V.str))) ⟨same_upd hD1, upd_same⟩ (fun i Hc _ z => z.1.seq (SqL.of hp)) ?_ ?_
    · rintro i x Hc hx ⟨sm, hD⟩
      obtain ⟨a, ha, rfl⟩ : ∃ a, l[i]? = some a ∧ x = .ref a := by
        rw [List.getElem?_map] at hx
        cases e : l[i]? with
        | none =>
          rw [e] at hx
          cases hx
        | some a =>
          rw [e] at hx
          exact ⟨a, rfl, (Option.some.inj hx).symm⟩
      have i21 : i < 21 := by
        have := (List.getElem?_eq_some_iff.mp ha).1
        rw [m.len] at this
        exact this
      refine ⟨rfl, _, rfl, a, i + 1, rfl, by omega, (m.errs i a ha).same sm, _, hD, ?_, fun b o e => ?_, ?_⟩
      · rw [List.length_map]
        unfold tx
        rw [List.length_map, List.length_range, room]
        omega
      · have ne : b ≠ D1 := ne_of_none e hD1
        rw [upd_ne ne]
        exact sm _ _ e
      · rw [upd_same, tx_succ]
    rintro H2 ⟨sm2, hT⟩
    rw [List.length_map, m.len] at hT
    replace sm2 := same_trans m.same sm2
    clear hp m hD1
    refine ⟨_, rfl, _, rfl, fun D2 hD2 => ?_⟩
    refine lc_signs (x := letters) (fun i Hc => Same H2 Hc ∧ Hc D2 = some (.lst ((tx lw i).map V.str))) ⟨same_upd hD2, upd_same⟩ ?_ ?_
    · rintro i c Hc hc ⟨sm, hD⟩
      have i21 : i < 21 := by
        have := (Array.getElem?_eq_some_iff.mp hc).1
        exact Nat.lt_of_lt_of_le this (by decide +kernel)
      have el : lw i = (⟨#[c]⟩ : Str) ++ (" web value" : Str) := by
        unfold lw
        rw [hc]
        rfl
      refine ⟨rfl, _, rfl, _, _, rfl, rfl, ?_, _, hD, ?_, fun b o e => ?_, ?_⟩
      · show 1 + (" web value" : Str).length ≤ sizeLine
        rw [room]
        decide
      · rw [List.length_map]
        unfold tx
        rw [List.length_map, List.length_range, room]
        omega
      · have ne : b ≠ D2 := ne_of_none e hD2
        rw [upd_ne ne]
        exact sm _ _ e
      · rw [upd_same, tx_succ, el]
    rintro H3 ⟨sm3, hD⟩
    have n21 : letters.cps.size = 21 := by decide +kernel
    rw [n21] at hD
    replace hT := sm3 _ _ hT
    replace sm3 := same_trans sm2 sm3
    clear sm2 hD2
    refine ⟨_, _, .lst (SqL.of hT) (dpStrs _), .lst (SqL.of hD) (dpStrs _), by decide +kernel, by decide +kernel, _, rfl, ?_⟩
    have same1 : (!PyData.eqv (.list ((tx (fun k => all (k + 1)) 21).map PyData.str)) (.list ((tx lw 21).map PyData.str))) = false := by
      rw [tx_same, SeqAt.eqv_refl _ (by decide +kernel)]
      rfl
    refine ite_no same1 ?_
    have S : Same H H3 := sm3
    clear sm3 hT hD same1
    refine ⟨_, rfl, (by show 2 ≤ sizeLine; decide), fun t0 nt => ?_⟩
    have z := same_upd (o := .tup [.str ("P web value" : Str), index]) nt
    have r0 : Pr (upd H3 t0 (.tup [.str ("P web value" : Str), index])) t0 (due 0) index := upd_same
    replace S := same_trans S z
    generalize upd H3 t0 (.tup [.str ("P web value" : Str), index]) = h4 at S r0 ⊢
    clear z nt
    refine ⟨_, rfl, (by show 2 ≤ sizeLine; decide), fun t1 nt => ?_⟩
    have z := same_upd (o := .tup [.str ("U key lookup" : Str), told]) nt
    have r1 : Pr (upd h4 t1 (.tup [.str ("U key lookup" : Str), told])) t1 (due 1) told := upd_same
    replace r0 := r0.same z
    replace S := same_trans S z
    generalize upd h4 t1 (.tup [.str ("U key lookup" : Str), told]) = h5 at S r0 r1 ⊢
    clear z nt
    refine ⟨_, rfl, (by show 2 ≤ sizeLine; decide), fun t2 nt => ?_⟩
    have z := same_upd (o := .tup [.str ("D lookup" : Str), told]) nt
    have r2 : Pr (upd h5 t2 (.tup [.str ("D lookup" : Str), told])) t2 (due 2) told := upd_same
    replace r0 := r0.same z
    replace r1 := r1.same z
    replace S := same_trans S z
    generalize upd h5 t2 (.tup [.str ("D lookup" : Str), told]) = h6 at S r0 r1 r2 ⊢
    clear z nt
    refine ⟨_, rfl, (by show 2 ≤ sizeLine; decide), fun t3 nt => ?_⟩
    have z := same_upd (o := .tup [.str ("N index lookup" : Str), told]) nt
    have r3 : Pr (upd h6 t3 (.tup [.str ("N index lookup" : Str), told])) t3 (due 3) told := upd_same
    replace r0 := r0.same z
    replace r1 := r1.same z
    replace r2 := r2.same z
    replace S := same_trans S z
    generalize upd h6 t3 (.tup [.str ("N index lookup" : Str), told]) = h7 at S r0 r1 r2 r3 ⊢
    clear z nt
    refine ⟨(by show 4 ≤ sizeLine; decide), fun pa np => ?_⟩
    have z := same_upd (o := .lst [V.ref t0, V.ref t1, V.ref t2, V.ref t3]) np
    have l_pa : upd h7 pa (.lst [V.ref t0, V.ref t1, V.ref t2, V.ref t3]) pa = some (.lst [V.ref t0, V.ref t1, V.ref t2, V.ref t3]) := upd_same
    replace r0 := r0.same z
    replace r1 := r1.same z
    replace r2 := r2.same z
    replace r3 := r3.same z
    replace S := same_trans S z
    generalize upd h7 pa (.lst [V.ref t0, V.ref t1, V.ref t2, V.ref t3]) = h8 at S r0 r1 r2 r3 l_pa ⊢
    clear z np
    refine ⟨_, rfl, ?_⟩
    refine ⟨_, rfl, (by show 2 ≤ sizeLine; decide), fun t4 nt => ?_⟩
    have z := same_upd (o := .tup [.str ("Z runtime" : Str), told]) nt
    have r4 : Pr (upd h8 t4 (.tup [.str ("Z runtime" : Str), told])) t4 (due 4) told := upd_same
    replace r0 := r0.same z
    replace r1 := r1.same z
    replace r2 := r2.same z
    replace r3 := r3.same z
    replace l_pa := z _ _ l_pa
    replace S := same_trans S z
    generalize upd h8 t4 (.tup [.str ("Z runtime" : Str), told]) = h9 at S r0 r1 r2 r3 r4 l_pa ⊢
    clear z nt
    refine ⟨_, rfl, (by show 2 ≤ sizeLine; decide), fun t5 nt => ?_⟩
    have z := same_upd (o := .tup [.str ("M overflow arithmetic" : Str), told]) nt
    have r5 : Pr (upd h9 t5 (.tup [.str ("M overflow arithmetic" : Str), told])) t5 (due 5) told := upd_same
    replace r0 := r0.same z
    replace r1 := r1.same z
    replace r2 := r2.same z
    replace r3 := r3.same z
    replace r4 := r4.same z
    replace l_pa := z _ _ l_pa
    replace S := same_trans S z
    generalize upd h9 t5 (.tup [.str ("M overflow arithmetic" : Str), told]) = h10 at S r0 r1 r2 r3 r4 r5 l_pa ⊢
    clear z nt
    refine ⟨_, rfl, (by show 2 ≤ sizeLine; decide), fun t6 nt => ?_⟩
    have z := same_upd (o := .tup [.str ("R arithmetic" : Str), told]) nt
    have r6 : Pr (upd h10 t6 (.tup [.str ("R arithmetic" : Str), told])) t6 (due 6) told := upd_same
    replace r0 := r0.same z
    replace r1 := r1.same z
    replace r2 := r2.same z
    replace r3 := r3.same z
    replace r4 := r4.same z
    replace r5 := r5.same z
    replace l_pa := z _ _ l_pa
    replace S := same_trans S z
    generalize upd h10 t6 (.tup [.str ("R arithmetic" : Str), told]) = h11 at S r0 r1 r2 r3 r4 r5 r6 l_pa ⊢
    clear z nt
    refine ⟨(by show 3 ≤ sizeLine; decide), fun pb np => ?_⟩
    have z := same_upd (o := .lst [V.ref t4, V.ref t5, V.ref t6]) np
    have l_pb : upd h11 pb (.lst [V.ref t4, V.ref t5, V.ref t6]) pb = some (.lst [V.ref t4, V.ref t5, V.ref t6]) := upd_same
    replace r0 := r0.same z
    replace r1 := r1.same z
    replace r2 := r2.same z
    replace r3 := r3.same z
    replace r4 := r4.same z
    replace r5 := r5.same z
    replace r6 := r6.same z
    replace l_pa := z _ _ l_pa
    replace S := same_trans S z
    generalize upd h11 pb (.lst [V.ref t4, V.ref t5, V.ref t6]) = h12 at S r0 r1 r2 r3 r4 r5 r6 l_pa l_pb ⊢
    clear z np
    refine ⟨_, _, _, _, rfl, rfl, l_pa, l_pb, (by show 7 ≤ sizeLine; decide), fun pd np nsys => ?_⟩
    have z := same_upd (o := .lst [V.ref t0, V.ref t1, V.ref t2, V.ref t3, V.ref t4, V.ref t5, V.ref t6]) np
    have rr : Rows7 (upd h12 pd (.lst [V.ref t0, V.ref t1, V.ref t2, V.ref t3, V.ref t4, V.ref t5, V.ref t6])) pd due index told := ⟨t0, t1, t2, t3, t4, t5, t6, upd_same, r0.same z, r1.same z, r2.same z, r3.same z, r4.same z, r5.same z, r6.same z⟩
    replace S := same_trans S z
    have hh : upd h12 pd (.lst ([V.ref t0, V.ref t1, V.ref t2, V.ref t3] ++ [V.ref t4, V.ref t5, V.ref t6])) = upd h12 pd (.lst [V.ref t0, V.ref t1, V.ref t2, V.ref t3, V.ref t4, V.ref t5, V.ref t6]) := rfl
    rw [hh]
    generalize upd h12 pd (.lst [V.ref t0, V.ref t1, V.ref t2, V.ref t3, V.ref t4, V.ref t5, V.ref t6]) = H4 at S rr ⊢
    clear z np hh r0 r1 r2 r3 r4 r5 r6 l_pa l_pb
    refine ⟨_, rfl, _, rfl, told, index, rfl, fun pK HK smK nsysK rK => ?_⟩
    have hR1 := hR.same (same_trans S smK)
    have hI1 := hI.same (same_trans S smK)
    have rp1 : Rp K HK (.ref pK) (rows due di dt) := by
      rw [← rows_same]
      exact rK.rp nsysK hI1 hR1
    have rp2 : Rp K HK (.ref pd) (rows due di dt) := (rr.same smK).rp nsys hI1 hR1
    replace S := same_trans S smK
    refine ⟨_, _, rfl, rp1, gd.rs, gd.rd, gd.rl, _, rfl, _, _, rfl, rp2, gd.rs, gd.rd, gd.rl, rfl, _, rfl, ?_⟩
    refine ite_no (by simp) ?_
    intro aW naW
    refine ⟨aW, 0, rfl, by decide, .inl upd_same, rfl, _, rfl, ?_⟩
    have e0 : (!decide (V.str (all 0) = V.str (" web value" : Str))) = false := by
      have : all 0 = (" web value" : Str) := by decide +kernel
      rw [this]
      simp
    refine ite_no e0 ?_
    have zW := same_upd (o := ExO (.ref (A 0)) aW) naW
    replace S := same_trans S zW
    replace hR1 := hR1.same zW
    clear rp1 rp2 rK rr hI1 smK
    refine ⟨3, rfl, by decide, by decide, fun D3 hD3 => ?_⟩
    refine lc_range (lo := 0) (n := 3) (fun i Hc => Same (upd HK aW (ExO (.ref (A 0)) aW)) Hc ∧ Hc D3 = some (.lst ((tx (fun k => told3 (k : Int) dt.shown) i).map V.str))) ⟨same_upd hD3, upd_same⟩ ?_ ?_
    · rintro i Hc hi ⟨sm, hD⟩
      refine ⟨rfl, _, rfl, _, rfl, told, dt, 0 + (i : Int), rfl, hR1.same sm, gd.s, gd.d, gd.l, by omega, by omega, fun H' sm' => ⟨_, sm' _ _ hD, ?_, fun b o e => ?_, ?_⟩⟩
      · rw [List.length_map]
        unfold tx
        rw [List.length_map, List.length_range, room]
        omega
      · have ne : b ≠ D3 := ne_of_none e hD3
        rw [upd_ne ne]
        exact sm' _ _ (sm _ _ e)
      · rw [upd_same, tx_succ, Int.zero_add]
    rintro H5 ⟨sm5, hD⟩
    replace hR1 := hR1.same sm5
    replace S := same_trans S sm5
    have len_ : ∀ {z : Str} {n : Nat}, z.length ≤ n → n ≤ 1000 → z.length + dt.shown.length ≤ sizeLine := fun a b => len8 a b gd.l
    have big : dt.shown.length ≤ sizeLine := Nat.le_trans gd.l (by decide)
    refine ⟨_, rfl, told, dt, rfl, hR1, gd.s, gd.d, big, _, _, rfl, rfl, len_ (show ("refused " : Str).length ≤ 8 by decide) (by decide), ?_⟩
    refine ⟨_, rfl, told, dt, rfl, hR1, gd.s, gd.d, big, _, _, rfl, rfl, len_ (show ("drawn " : Str).length ≤ 6 by decide) (by decide), ?_⟩
    refine ⟨(by show 3 ≤ sizeLine; decide), fun pe np => ?_⟩
    have z := same_upd (o := .lst [V.str ("base h" : Str), V.str (("refused " : Str) ++ dt.shown), V.str (("drawn " : Str) ++ dt.shown)]) np
    have sh := gd.sh
    refine ⟨_, _, .lst (SqL.of (z _ _ hD)) (dpStrs _), .lst (SqL.of upd_same) (dpStrs [("base h" : Str), ("refused " : Str) ++ dt.shown, ("drawn " : Str) ++ dt.shown]), sh, sh, ?_⟩
    have eq3 : PyData.eqv (.list ((tx (fun k => told3 (k : Int) dt.shown) 3).map PyData.str)) (.list ([("base h" : Str), ("refused " : Str) ++ dt.shown, ("drawn " : Str) ++ dt.shown].map PyData.str)) = true :=
      SeqAt.eqv_refl (.list ([("base h" : Str), ("refused " : Str) ++ dt.shown, ("drawn " : Str) ++ dt.shown].map PyData.str)) (SeqAt.canLay_of_shaped sh)
    show Q (.bl (PyData.eqv (.list ((tx (fun k => told3 (k : Int) dt.shown) 3).map PyData.str)) (.list ([("base h" : Str), ("refused " : Str) ++ dt.shown, ("drawn " : Str) ++ dt.shown].map PyData.str)))) _
    rw [eq3]
    exact q _ (same_trans S z)
end
end Lw

/-! The law's own def. -/
namespace Lw
open PySem PySem.Spec PyProof.Rows L2 Fw
/-- a dict of one int under one int -/
theorem rp_dict1 {K : PySem.W.Frag} {H : Hp} {a : Addr} {k v : Int} (h : H a = some (.dK [(Sum.inl k, .int v)])) : Rp K H (.ref a) (.dict [(.int k, .int v)]) := fun H' X pins σ s u sm e I r => by
  cases r
  have ok : ObjOk X.prog X.w H' s.heap a (.dK [(Sum.inl k, .int v)]) := I.hok a _ (sm _ _ h)
  obtain ⟨_, hs, vs, kv, o, es, ep, ho, hx, hd, _, hp, _⟩ := ok
  cases kv with
  | @cons p q _ _ r1 r2 =>
    cases r2
    obtain ⟨h1, h2⟩ := r1
    obtain ⟨q1, q2⟩ := q
    dsimp only at h1 h2
    subst h1
    obtain ⟨t2, rfl⟩ := h2
    generalize hl : es.toList = l at hp
    cases hp with
    | @cons e _ l' _ i1 v1 rest =>
      cases rest
      obtain ⟨t1, ek⟩ := Value.isInt_shape (k := k) (v := e.key) i1
      have r1 : ReadsAll s.heap (es.toList.map (·.key)) ([(PyData.int k, PyData.int v)].map (·.1)) ([] ++ []) := by
        rw [hl]
        show ReadsAll s.heap [e.key] [PyData.int k] _
        rw [ek]
        exact ReadsAll.cons (Reads.int k t1) ReadsAll.nil
      have r2 : ReadsAll s.heap (es.toList.map (·.val)) ([(PyData.int k, PyData.int v)].map (·.2)) ([] ++ []) := by
        rw [hl]
        show ReadsAll s.heap [e.val] [PyData.int v] _
        rw [v1]
        exact ReadsAll.cons (Reads.int v t2) ReadsAll.nil
      refine ⟨_, Reads.dict ho hx.1 hd r1 r2, fun m => ?_⟩
      have ne : a ≠ sysModules := by simpa using hs
      rcases List.mem_cons.mp m with z | z
      · exact ne z.symm
      · simp at z
def dts : List PyData := [.none, .bool true, .int 0, .str "7", .str "", .tuple [.int 4, .int 6], .list [.int 7], .dict [(.int 7, .int 7)], .tuple [.tuple [], .tuple [.str "a", .int 1]], .str "tie a b", .int (10 ^ Int.toNat 40)]
def dis : List PyData := [.none, .int 0, .int 3, .int (10 ^ Int.toNat 30)]
def goodB (dt di : PyData) : Bool := dt.showable && (decide (dt.depth ≤ 40) && (decide (dt.shown.length ≤ 1000) && ((rows due di dt).showable && (decide ((rows due di dt).depth ≤ 40) && (decide ((rows due di dt).shown.length ≤ 10000) &&
  SeqAt.shaped (.list ([("base h" : Str), ("refused " : Str) ++ dt.shown, ("drawn " : Str) ++ dt.shown].map PyData.str)))))))
theorem good_of {dt di : PyData} (h : goodB dt di = true) : Good dt di := by
  simp only [goodB, Bool.and_eq_true, decide_eq_true_eq] at h
  obtain ⟨h1, h2, h3, h4, h5, h6, h7⟩ := h
  exact ⟨h1, h2, h3, h4, h5, Nat.le_trans h6 (by decide), h7⟩
theorem good_all : (dts.all fun dt => dis.all fun di => goodB dt di) = true := by decide +kernel
theorem good_in {dt di : PyData} (h1 : dt ∈ dts) (h2 : di ∈ dis) : Good dt di := good_of (List.all_eq_true.mp (List.all_eq_true.mp good_all dt h1) di h2)
end Lw

/-! The law's own def, walked. -/
namespace Lw
open PySem PySem.Spec PyProof.Rows L2 Fw
def spLaw (K : PySem.W.Frag) : Sp := fun vs H Q _ => ∃ (a : Addr) (ns : List Int), vs = [.ref a] ∧ SqL K H a (ns.map V.int) ∧ ns.length ≤ 63 ∧ ∀ H', Q (.bl true) H'
structure TxL (K : PySem.W.Frag) (mg : Str → Option Value) (gD gR gP gT : Addr) (eD eR eP eT : FuncData) : Prop where
  mD : mg "_law_dice" = some (.ref gD)
  mR : mg "_law_roll" = some (.ref gR)
  mP : mg "_law_pick" = some (.ref gP)
  mT : mg "_law_right" = some (.ref gT)
  FD : Fun K "_law_dice" "_law_dice" sDice gD eD
  FR : Fun K "_law_roll" "_law_roll" sRoll gR eR
  FP : Fun K "_law_pick" "_law_pick" sPick gP eP
  FT : Fun K "_law_right" "_law_right" sRight gT eT
  bD : Binds K eD ["_law_script", "_law_spot"] []
  bR : Binds K eR ["_law_dice_here", "_law_total"] []
  bP : Binds K eP ["_law_dice_here", "_law_items"] []
  bT : Binds K eT ["_law_told", "_law_index"] []
section
variable {P : Program} {w : World} {K : PySem.W.Frag} {mg : Str → Option Value} {base : Heap} {CX : CXT} {A I : Nat → Addr}
theorem scLaw : FnScope ["_law_script", "_law_spot", "_law_dice_here", "_law_some"] ["_law_script"] (defScope sLaw) := ⟨rfl, rfl, rfl, by decide +kernel, rfl, by decide +kernel, by decide +kernel⟩
theorem ok_law {f f1 f2 f3 fA fM fK fC gD gR gP gT : Addr} {fd d1 d2 d3 dA dM dK dC eD eR eP eT : FuncData} (F : Fun K "law" "law" sLaw f fd) (D : TxD mg) (T : TxE K mg A I) (R : TxR K mg f1 f2 f3 fA fM fK fC d1 d2 d3 dA dM dK dC)
    (L : TxL K mg gD gR gP gT eD eR eP eT) : FnG P w K mg base CX0 5 f fd ["_law_script"] (spLaw K) := by
  have GD : FnG P w K mg base CX0 1 gD eD ["_law_script", "_law_spot"] (spDice K) := ok_dice L.FD D
  have GP : FnG P w K mg base CX0 2 gP eP ["_law_dice_here", "_law_items"] (spPick K) := ok_pick L.FP D L.mR L.FR L.bR
  have GT : FnG P w K mg base CX0 4 gT eT ["_law_told", "_law_index"] (spRight K) := ok_right L.FT D T R
  refine fnG F scLaw (fun vs H Q E h => ?_) (fun cdv Ar fr s H vs Q E hG hr h => ?_)
  · obtain ⟨a, ns, rfl, _⟩ := h
    rfl
  · obtain ⟨a, ns, rfl, hS, hl, q⟩ := h
    have hr1 := hr.mono (show 1 ≤ 4 by decide)
    have hr2 := hr.mono (show 2 ≤ 4 by decide)
    refine ⟨_, pss_cons (ps_for (passes_of rfl) rfl (pi_range1 (by rfl) T.rng (pa_cons (pe_callB (call_max2 rfl) (by rfl) D.max (by decide +kernel) (pa_cons pe_int (pa_cons (pe_callB (call_min2 rfl) (by rfl) T.min (by decide +kernel)
            (pa_cons pe_int (pa_cons (pe_callB call_len_seq (by rfl) D.len PySem.boot_len (pa_cons (pv 0) pa_nil)) pa_nil))) pa_nil))) pa_nil)) (pg_name (i := 1) scLaw.nd rfl (Or.inl rfl))
        (pss_cons (ps_set (i := 2) scLaw.nd rfl (Or.inl rfl) (pe_callG (E := fun _ _ _ _ => False) hG GD hr1 (by rfl) L.mD L.FD.kp L.bD .nil (fun _ => passAt0) (pa_cons (pv 0) (pa_cons (pv 1) pa_nil))))
        (pss_cons (ps_set (i := 3) scLaw.nd rfl (Or.inl rfl) (pe_lst (pa_cons pe_non (pa_cons pe_bl (pa_cons pe_int (pa_cons pe_str (pa_cons pe_str (pa_cons (pe_tup (pa_cons pe_int (pa_cons pe_int pa_nil))) (pa_cons (pe_lstN (pa_cons pe_int pa_nil))
            (pa_cons (pe_disp (pps_cons pe_int pe_int pps_nil) (by rfl) (by rfl) (fun z => by cases z) (by decide)) (pa_cons (pe_tup (pa_cons (pe_tup pa_nil) (pa_cons (pe_tup (pa_cons pe_str (pa_cons pe_int pa_nil))) pa_nil))) (pa_cons pe_str (pa_cons (pe_op op_pow pe_int pe_int) pa_nil)))))))))))))
        (pss_one (ps_if (pt_not (pt_val (pe_callG (E := fun _ _ _ _ => False) hG GT hr (by rfl) L.mT L.FT.kp L.bT .nil (fun _ => passAt0)
            (pa_cons (pe_callG (E := fun _ _ _ _ => False) hG GP hr2 (by rfl) L.mP L.FP.kp L.bP .nil (fun _ => passAt0) (pa_cons (pv 2) (pa_cons (pv 3) pa_nil)))
            (pa_cons (pe_callG (E := fun _ _ _ _ => False) hG GP hr2 (by rfl) L.mP L.FP.kp L.bP .nil (fun _ => passAt0) (pa_cons (pv 2) (pa_cons (pe_lst (pa_cons pe_non (pa_cons pe_int (pa_cons pe_int (pa_cons (pe_op op_pow pe_int pe_int) pa_nil))))) pa_nil))) pa_nil)))))
          (pss_one (ps_ret pe_bl)) pss_nil)))))
      (pss_one (ps_ret pe_bl)), ?_⟩
    have lenE : ((ns.map V.int).length : Int) = (ns.length : Int) := by rw [List.length_map]
    have pw : ∀ k : Nat, k ≤ 100 → CPow 10 (k : Int) := fun k hk => ⟨by omega, by omega, by decide⟩
    refine ⟨_, rfl, a, _, rfl, .inl hS, _, _, rfl, _, _, rfl, _, rfl, ?_⟩
    generalize hj : (if (if ((ns.map V.int).length : Int) < 2 then ((ns.map V.int).length : Int) else 2) > 1 then (if ((ns.map V.int).length : Int) < 2 then ((ns.map V.int).length : Int) else 2) else 1) = j
    have j1 : 1 ≤ j := by
      rw [← hj]
      split <;> omega
    have j2 : j ≤ 2 := by
      rw [← hj]
      split
      · split <;> omega
      · omega
    refine ⟨by omega, by omega, ?_⟩
    refine for_range (lo := 0) (n := j.toNat) (fun i σ Hc => ∃ v1 v2 v3 : Option V, σ = [some (.ref a), v1, v2, v3] ∧ Same H Hc) ⟨none, none, none, rfl, fun _ _ e => e⟩ ?_ (fun σ Hc _ => q Hc)
    rintro i σ Hc hi ⟨v1, v2, v3, rfl, sm⟩
    refine ⟨_, rfl, _, rfl, a, ns, 0 + (i : Int), rfl, sm.seq hS, hl, by omega, by omega, fun p H1 s1 np dd => ?_⟩
    have nop : ∀ o, H p = some o → False := fun o e => by
      have y := sm _ _ e
      rw [np] at y
      cases y
    have S := same_trans sm s1
    clear sm s1
    refine ⟨(by show 2 ≤ sizeLine; decide), fun t1 n1 => ?_⟩
    have z := same_upd (o := .tup [.int 4, .int 6]) n1
    have f1 : upd H1 t1 (.tup [.int 4, .int 6]) t1 = some (.tup [.int 4, .int 6]) := upd_same
    have e_f1 : t1 ≠ p := fun c => by obtain ⟨x1, x2, x3, x4⟩ := id dd; rw [c, x4] at n1; cases n1
    replace S := same_trans S z
    replace dd := dd.same z
    generalize upd H1 t1 (.tup [.int 4, .int 6]) = k1 at S dd f1 ⊢
    clear z n1
    refine ⟨(by show 1 ≤ sizeLine; decide), fun t2 n2 nsys => ?_⟩
    have z := same_upd (o := .lst [.int 7]) n2
    have f2 : upd k1 t2 (.lst [.int 7]) t2 = some (.lst [.int 7]) := upd_same
    have e_f2 : t2 ≠ p := fun c => by obtain ⟨x1, x2, x3, x4⟩ := id dd; rw [c, x4] at n2; cases n2
    replace f1 := z _ _ f1
    replace S := same_trans S z
    replace dd := dd.same z
    generalize upd k1 t2 (.lst [.int 7]) = k2 at S dd f1 f2 ⊢
    clear z n2
    intro t3 n3
    refine ⟨upd_same, [(Sum.inl 7, .int 7)], rfl, by decide, ?_⟩
    rw [upd_upd]
    have hh : upd k2 t3 (.dK (mergeK [] [(Sum.inl 7, .int 7)])) = upd k2 t3 (.dK [(Sum.inl 7, .int 7)]) := rfl
    rw [hh]
    clear hh
    have z := same_upd (o := .dK [(Sum.inl 7, .int 7)]) n3
    have f3 : upd k2 t3 (.dK [(Sum.inl 7, .int 7)]) t3 = some (.dK [(Sum.inl 7, .int 7)]) := upd_same
    have e_f3 : t3 ≠ p := fun c => by obtain ⟨x1, x2, x3, x4⟩ := id dd; rw [c, x4] at n3; cases n3
    replace f1 := z _ _ f1
    replace f2 := z _ _ f2
    replace S := same_trans S z
    replace dd := dd.same z
    generalize upd k2 t3 (.dK [(Sum.inl 7, .int 7)]) = k3 at S dd f1 f2 f3 ⊢
    clear z n3
    refine ⟨(by show 0 ≤ sizeLine; decide), fun t4 n4 => ?_⟩
    have z := same_upd (o := .tup []) n4
    have f4 : upd k3 t4 (.tup []) t4 = some (.tup []) := upd_same
    have e_f4 : t4 ≠ p := fun c => by obtain ⟨x1, x2, x3, x4⟩ := id dd; rw [c, x4] at n4; cases n4
    replace f1 := z _ _ f1
    replace f2 := z _ _ f2
    replace f3 := z _ _ f3
    replace S := same_trans S z
    replace dd := dd.same z
    generalize upd k3 t4 (.tup []) = k4 at S dd f1 f2 f3 f4 ⊢
    clear z n4
    refine ⟨(by show 2 ≤ sizeLine; decide), fun t5 n5 => ?_⟩
    have z := same_upd (o := .tup [.str ("a" : Str), .int 1]) n5
    have f5 : upd k4 t5 (.tup [.str ("a" : Str), .int 1]) t5 = some (.tup [.str ("a" : Str), .int 1]) := upd_same
    have e_f5 : t5 ≠ p := fun c => by obtain ⟨x1, x2, x3, x4⟩ := id dd; rw [c, x4] at n5; cases n5
    replace f1 := z _ _ f1
    replace f2 := z _ _ f2
    replace f3 := z _ _ f3
    replace f4 := z _ _ f4
    replace S := same_trans S z
    replace dd := dd.same z
    generalize upd k4 t5 (.tup [.str ("a" : Str), .int 1]) = k5 at S dd f1 f2 f3 f4 f5 ⊢
    clear z n5
    refine ⟨(by show 2 ≤ sizeLine; decide), fun t6 n6 => ?_⟩
    have z := same_upd (o := .tup [.ref t4, .ref t5]) n6
    have f6 : upd k5 t6 (.tup [.ref t4, .ref t5]) t6 = some (.tup [.ref t4, .ref t5]) := upd_same
    have e_f6 : t6 ≠ p := fun c => by obtain ⟨x1, x2, x3, x4⟩ := id dd; rw [c, x4] at n6; cases n6
    replace f1 := z _ _ f1
    replace f2 := z _ _ f2
    replace f3 := z _ _ f3
    replace f4 := z _ _ f4
    replace f5 := z _ _ f5
    replace S := same_trans S z
    replace dd := dd.same z
    generalize upd k5 t6 (.tup [.ref t4, .ref t5]) = k6 at S dd f1 f2 f3 f4 f5 f6 ⊢
    clear z n6
    refine ⟨_, _, rfl, rfl, pw 40 (by decide), (by show 11 ≤ sizeLine; decide), fun t7 n7 => ?_⟩
    have z := same_upd (o := .lst [.non, .bl true, .int 0, .str ("7" : Str), .str ("" : Str), .ref t1, .ref t2, .ref t3, .ref t6, .str ("tie a b" : Str), .int (10 ^ Int.toNat 40)]) n7
    have f7 : upd k6 t7 (.lst [.non, .bl true, .int 0, .str ("7" : Str), .str ("" : Str), .ref t1, .ref t2, .ref t3, .ref t6, .str ("tie a b" : Str), .int (10 ^ Int.toNat 40)]) t7 = some (.lst [.non, .bl true, .int 0, .str ("7" : Str), .str ("" : Str), .ref t1, .ref t2, .ref t3, .ref t6, .str ("tie a b" : Str), .int (10 ^ Int.toNat 40)]) := upd_same
    have e_f7 : t7 ≠ p := fun c => by obtain ⟨x1, x2, x3, x4⟩ := id dd; rw [c, x4] at n7; cases n7
    replace f1 := z _ _ f1
    replace f2 := z _ _ f2
    replace f3 := z _ _ f3
    replace f4 := z _ _ f4
    replace f5 := z _ _ f5
    replace f6 := z _ _ f6
    replace S := same_trans S z
    replace dd := dd.same z
    generalize upd k6 t7 (.lst [.non, .bl true, .int 0, .str ("7" : Str), .str ("" : Str), .ref t1, .ref t2, .ref t3, .ref t6, .str ("tie a b" : Str), .int (10 ^ Int.toNat 40)]) = k7 at S dd f1 f2 f3 f4 f5 f6 f7 ⊢
    clear z n7
    refine ⟨_, rfl, _, rfl, p, t7, [.non, .bl true, .int 0, .str ("7" : Str), .str ("" : Str), .ref t1, .ref t2, .ref t3, .ref t6, .str ("tie a b" : Str), .int (10 ^ Int.toNat 40)], rfl, dd, SqL.of f7, e_f7.symm, (by show 0 < 11; decide), (by show 11 < 1000000; decide), fun r1 x1 H2 hx1 but1 d2 => ?_⟩
    refine ⟨_, rfl, _, _, rfl, rfl, pw 30 (by decide), (by show 4 ≤ sizeLine; decide), fun t8 n8 => ?_⟩
    have ne8 : p ≠ t8 := fun c => by
      obtain ⟨y1, y2, y3, y4⟩ := id d2
      rw [← c, y4] at n8
      cases n8
    refine ⟨p, t8, [.non, .int 0, .int 3, .int (10 ^ Int.toNat 30)], rfl, d2.same (same_upd n8), SqL.of upd_same, ne8, (by show 0 < 4; decide), (by show 4 < 1000000; decide), fun r2 x2 H3 hx2 but2 d3 => ?_⟩
    have mv : ∀ {b : Addr} {o : HO}, k7 b = some o → b ≠ p → H3 b = some o := fun e n => but2 _ _ n (same_upd n8 _ _ (but1 _ _ n e))
    have X1 : ∃ dt, dt ∈ dts ∧ Rp K H3 x1 dt := by
      match r1, hx1 with
      | 0, h => cases (Option.some.inj h); exact ⟨_, List.mem_of_getElem? (i := 0) rfl, Rp.non⟩
      | 1, h => cases (Option.some.inj h); exact ⟨_, List.mem_of_getElem? (i := 1) rfl, Rp.bl _⟩
      | 2, h => cases (Option.some.inj h); exact ⟨_, List.mem_of_getElem? (i := 2) rfl, Rp.int _⟩
      | 3, h => cases (Option.some.inj h); exact ⟨_, List.mem_of_getElem? (i := 3) rfl, Rp.str _⟩
      | 4, h => cases (Option.some.inj h); exact ⟨_, List.mem_of_getElem? (i := 4) rfl, Rp.str _⟩
      | 5, h => cases (Option.some.inj h); exact ⟨_, List.mem_of_getElem? (i := 5) rfl, Rp.tup (mv f1 e_f1) (.cons (.int _) (.cons (.int _) .nil))⟩
      | 6, h => cases (Option.some.inj h); exact ⟨_, List.mem_of_getElem? (i := 6) rfl, Rp.lst nsys (SqL.of (mv f2 e_f2)) (.cons (.int _) .nil)⟩
      | 7, h => cases (Option.some.inj h); exact ⟨_, List.mem_of_getElem? (i := 7) rfl, rp_dict1 (mv f3 e_f3)⟩
      | 8, h => cases (Option.some.inj h); exact ⟨_, List.mem_of_getElem? (i := 8) rfl, Rp.tup (mv f6 e_f6) (.cons (Rp.tup (mv f4 e_f4) .nil) (.cons (Rp.tup (mv f5 e_f5) (.cons (.str _) (.cons (.int _) .nil))) .nil))⟩
      | 9, h => cases (Option.some.inj h); exact ⟨_, List.mem_of_getElem? (i := 9) rfl, Rp.str _⟩
      | 10, h => cases (Option.some.inj h); exact ⟨_, List.mem_of_getElem? (i := 10) rfl, Rp.int _⟩
      | n + 11, h => simp at h
    have X2 : ∃ di, di ∈ dis ∧ Rp K H3 x2 di := by
      match r2, hx2 with
      | 0, h => cases (Option.some.inj h); exact ⟨_, List.mem_of_getElem? (i := 0) rfl, Rp.non⟩
      | 1, h => cases (Option.some.inj h); exact ⟨_, List.mem_of_getElem? (i := 1) rfl, Rp.int _⟩
      | 2, h => cases (Option.some.inj h); exact ⟨_, List.mem_of_getElem? (i := 2) rfl, Rp.int _⟩
      | 3, h => cases (Option.some.inj h); exact ⟨_, List.mem_of_getElem? (i := 3) rfl, Rp.int _⟩
      | n + 4, h => simp at h
    obtain ⟨dt, m1, R1⟩ := X1
    obtain ⟨di, m2, R2⟩ := X2
    refine ⟨x1, x2, dt, di, rfl, R1, R2, good_in m1 m2, fun H4 s4 => ⟨_, rfl, ?_⟩⟩
    refine ite_no rfl ⟨_, _, _, rfl, fun b o e => s4 _ _ ?_⟩
    have nb : b ≠ p := fun c => by
      rw [c] at e
      exact (nop _ e).elim
    exact mv (S _ _ e) nb
end
end Lw

/-! What the top has written. -/
namespace Lw
open PySem PySem.Spec PyProof.Rows L2 Fw
/-- of a class, what the written part says -/
structure CF (K : PySem.W.Frag) (mg : Str → Option Value) (C : Addr) (x : Str) (bm : List Value) (newId : String) : Prop where
  gl : mg x = some (.ref C)
  lk : ∃ nm q N bs sn sub ab col dd k0 k1 k2 k3 k5, K.lookup C = some (excClassObj nm q C N bs bm true sn sub ab col dd k0 k1 k2 k3 k5 newId)
  ga : PySem.W.findIn K (.ref C) "__getattribute__" = some (some (.builtin "BaseException.__getattribute__"))
  gg : PySem.W.findIn K (.ref C) "__getattr__" = some none
  cl : PySem.W.findIn K (.ref C) "__class__" = some (some (.builtin "object.__class__"))
  kp : PySem.W.keepIn K (.ref C) = true
/-- the built-in classes behind -/
def tl : Nat → List Value
  | 23 => [.type "KeyError", .type "LookupError", .type "Exception", .type "BaseException", .type "object"]
  | 24 => [.type "LookupError", .type "Exception", .type "BaseException", .type "object"]
  | 25 => [.type "IndexError", .type "LookupError", .type "Exception", .type "BaseException", .type "object"]
  | 26 => [.type "RuntimeError", .type "Exception", .type "BaseException", .type "object"]
  | 27 => [.type "OverflowError", .type "ArithmeticError", .type "Exception", .type "BaseException", .type "object"]
  | 28 => [.type "ArithmeticError", .type "Exception", .type "BaseException", .type "object"]
  | _ => veB
def bmOf (A : Nat → Addr) (i : Nat) : List Value := if 1 ≤ i ∧ i ≤ 22 then .ref (A 0) :: tl i else tl i
def nid : Nat → String
  | 23 => "LookupError.__new__"
  | 24 => "LookupError.__new__"
  | 25 => "IndexError.__new__"
  | 26 => "RuntimeError.__new__"
  | 27 => "OverflowError.__new__"
  | 28 => "ArithmeticError.__new__"
  | _ => "ValueError.__new__"
def noRef : Value → Bool
  | .type _ => true
  | _ => false
theorem no_ref : ∀ (l : List Value) (a : Addr), l.all noRef = true → l.contains (.ref a) = false
  | [], _, _ => rfl
  | v :: l, a, h => by
    simp only [List.all_cons, Bool.and_eq_true] at h
    rw [List.contains_cons, no_ref l a h.2, Bool.or_false]
    cases v <;> first | rfl | cases h.1
theorem tl_types : ∀ i, i < 29 → (tl i).all noRef = true := by decide +kernel
theorem tl_has : ∀ i, i < 29 → ∀ k, k < 7 → (tl i).contains (.type (ty k)) = isT i k := by decide +kernel
theorem tl_base : ∀ i, i < 29 → (tl i).contains (.type "BaseException") = true := by decide +kernel
theorem tl_obj : ∀ i, i < 29 → (tl i).contains (.type "object") = true := by decide +kernel
theorem kit_ok : ∀ k, k < 7 → PySem.W.kitMeta (ty k) = true := by decide +kernel
section
variable {K : PySem.W.Frag} {mg : Str → Option Value} {A : Nat → Addr}
theorem bm_type (i : Nat) (T : String) : (bmOf A i).contains (.type T) = (tl i).contains (.type T) := by
  unfold bmOf
  split
  · rw [List.contains_cons]
    rfl
  · rfl
theorem bm_ref (inj : ∀ i j, i < 29 → j < 29 → A i = A j → i = j) {i j : Nat} (hi : i < 29) (hj : j < 29) : (Value.ref (A i) :: bmOf A i).contains (.ref (A j)) = isA i j := by
  have eq : ∀ {k l : Nat}, k < 29 → l < 29 → ((Value.ref (A k) == Value.ref (A l)) = (k == l)) := fun {k l} hk hl => by
    by_cases c : k = l
    · subst c
      simp
    · have : A k ≠ A l := fun e => c (inj k l hk hl e)
      have h1 : (Value.ref (A k) == Value.ref (A l)) = false := beq_eq_false_iff_ne.mpr fun e => this (Value.ref.inj e)
      have h2 : (k == l) = false := beq_eq_false_iff_ne.mpr c
      rw [h1, h2]
  rw [List.contains_cons, eq hj hi]
  unfold bmOf
  split
  · rename_i c
    rw [List.contains_cons, eq hj (by decide), no_ref _ _ (tl_types i hi), Bool.or_false]
    have b : Nat.ble i 22 = true := Nat.ble_eq.mpr c.2
    unfold isA
    rw [b, Bool.and_true]
    have : (j == i) = (i == j) := by
      by_cases e : i = j
      · subst e; rfl
      · rw [beq_eq_false_iff_ne.mpr e, beq_eq_false_iff_ne.mpr (fun z => e z.symm)]
    rw [this]
  · rename_i c
    rw [no_ref _ _ (tl_types i hi), Bool.or_false]
    unfold isA
    by_cases e : i = j
    · subst e; simp
    · have h1 : (j == i) = false := beq_eq_false_iff_ne.mpr fun z => e z.symm
      have h2 : (i == j) = false := beq_eq_false_iff_ne.mpr e
      rw [h1, h2, Bool.false_or]
      by_cases z : j = 0
      · have i0 : ¬ i = 0 := fun q => e (q.trans z.symm)
        have : Nat.ble i 22 = false := by
          cases q : Nat.ble i 22 with
          | false => rfl
          | true => exact absurd ⟨by omega, Nat.ble_eq.mp q⟩ c
        rw [this, Bool.and_false]
      · rw [beq_eq_false_iff_ne.mpr z, Bool.false_and]
theorem cf_cls {C : Addr} {x : Str} {bm : List Value} {n : String} (h : CF K mg C x bm n) : ∃ cd, PySem.W.clsIn K C = some cd ∧ cd.mro = .ref C :: bm ∧ cd.hasDict = true := by
  obtain ⟨nm, q, N, bs, sn, sub, ab, col, dd, k0, k1, k2, k3, k5, e⟩ := h.lk
  refine ⟨_, by unfold PySem.W.clsIn; rw [e], rfl, rfl⟩
theorem cf_sub {C : Addr} {x : Str} {bm : List Value} {n : String} (h : CF K mg C x bm n) (v : Value) : PySem.W.subIn K (.ref C) v = some ((.ref C :: bm).contains v) := by
  obtain ⟨cd, e, m, _⟩ := cf_cls h
  show PySem.W.mroIn K C v = _
  unfold PySem.W.mroIn
  rw [e, Option.bind_some, m]
  rfl
theorem cf_type {C : Addr} {x : Str} {bm : List Value} {n : String} (h : CF K mg C x bm n) : PySem.W.typeIn K (.ref C) = some (.type "type") := by
  obtain ⟨nm, q, N, bs, sn, sub, ab, col, dd, k0, k1, k2, k3, k5, e⟩ := h.lk
  show (K.lookup C).map (·.cls) = _
  rw [e]
  rfl
theorem cf_dict {C : Addr} {x : Str} {bm : List Value} {n : String} (h : CF K mg C x bm n) : PySem.W.hasDictIn K C = true := by
  obtain ⟨cd, e, _, d⟩ := cf_cls h
  unfold PySem.W.hasDictIn
  rw [e]
  exact d
/-- what all classes have in common -/
structure CC (K : PySem.W.Frag) : Prop where
  hn : PySem.W.specialIn K (.builtin "object.__class__") "__get__" = some (some (.builtin "getset_descriptor.__get__"))
  ht : PySem.W.takesIn K (.builtin "object.__class__") = some true
theorem txE {I : Nat → Addr} (inj : ∀ i j, i < 29 → j < 29 → A i = A j → i = j) (cf : ∀ i, i < 29 → CF K mg (A i) (nm i) (bmOf A i) (nid i)) (cc : CC K) (plain : ∀ i, i < 22 → PySem.W.excIn K (A i) veB "ValueError.__new__" = true)
    (init : ∀ i, 22 ≤ i → i < 29 → ∃ q, InitC K (A i) (I i) q (fld i)) (tyN : ∀ k, k < 7 → mg (Str.ofString (ty k)) = none) (isi : mg "isinstance" = none) (rpr : mg "repr" = none) (rng : mg "range" = none) (min : mg "min" = none) :
    TxE K mg A I := by
  have sub : ∀ i j, i < 29 → j < 29 → PySem.W.subIn K (.ref (A i)) (.ref (A j)) = some (isA i j) := fun i j hi hj => by rw [cf_sub (cf i hi), bm_ref inj hi hj]
  have subT : ∀ i (T : String), i < 29 → PySem.W.subIn K (.ref (A i)) (.type T) = some ((tl i).contains (.type T)) := fun i T hi => by
    rw [cf_sub (cf i hi), List.contains_cons, bm_type]
    rfl
  have cls : ∀ i, i < 29 → (PySem.W.clsIn K (A i)).isSome = true := fun i hi => by
    obtain ⟨cd, e, _⟩ := cf_cls (cf i hi)
    rw [e]
    rfl
  refine { gl := fun i hi => (cf i hi).gl, ex := fun i hi => ?_, own := fun i j hi hj => ?_, typ := fun i k hi hk => ?_, kp := fun i hi => (cf i hi).kp, plain := plain, xf := fun i hi => ?_, init := init, tyN := tyN, sub := sub, tyC := fun i hi => cf_type (cf i hi), isi := isi, rpr := rpr, rng := rng, min := min }
  · refine ⟨(cf i hi).ga, (cf i hi).gg, ?_, cf_dict (cf i hi), (cf i hi).cl, cc.hn, cc.ht, ?_⟩
    · rw [subT i _ hi, tl_base i hi]
    · show PySem.W.subIn K (.ref (A i)) (.type "object") = _
      rw [subT i _ hi, tl_obj i hi]
  · unfold PySem.W.kitOne
    by_cases e : i = j
    · subst e
      rw [if_pos (by simp)]
      unfold isA
      simp
    · have ne : ¬ ((Value.ref (A i) == Value.ref (A j)) = true) := fun z => e (inj i j hi hj (Value.ref.inj (beq_iff_eq.mp z)))
      rw [if_neg ne]
      show (if ((PySem.W.clsIn K (A j)).isSome && PySem.W.typeIn K (.ref (A j)) == some (.type "type")) = true then PySem.W.subIn K (.ref (A i)) (.ref (A j)) else none) = _
      rw [cls j hj, cf_type (cf j hj), if_pos (by decide), sub i j hi hj]
  · unfold PySem.W.kitOne
    rw [if_neg (by intro z; have := beq_iff_eq.mp z; cases this)]
    show (if PySem.W.kitMeta (ty k) = true then PySem.W.subIn K (.ref (A i)) (.type (ty k)) else none) = _
    rw [if_pos (kit_ok k hk), subT i _ hi, tl_has i hi k hk]
  · refine ⟨(cf i hi).ga, (cf i hi).gg, ?_, cf_dict (cf i hi)⟩
    rw [subT i _ hi, tl_base i hi]
end
end Lw

/-! The end. -/
namespace Lw
open PySem PySem.Spec PyProof.Rows L2 Fw
theorem behind {A : Nat → Addr} {i : Nat} {B : String} (hi : i < 29) (h : (tl i).contains (.type B) = true) (h1 : (tl i).contains (.type "AttributeError") = false) (h2 : (tl i).contains (.type "NameError") = false)
    (hs : ∀ self : Value, refuseLoop self "__setattr__" (tl i) = pure ()) : Behind (bmOf A i) B := by
  refine ⟨by rw [bm_type]; exact h, by rw [bm_type]; exact h1, by rw [bm_type]; exact h2, by rw [bm_type]; exact tl_obj i hi, fun self => ?_⟩
  unfold bmOf
  split
  · rw [refuseLoop_ref]
    exact hs self
  · exact hs self
/-- of an own __init__ -/
structure CI (K : PySem.W.Frag) (C I : Addr) (q f : Str) : Prop where
  sa : PySem.W.findIn K (.ref C) "__setattr__" = some (some (.builtin "object.__setattr__"))
  nf : PySem.W.findIn K (.ref C) f = some none
  ic : PySem.W.findIn K (.ref C) "__init__" = some (some (.ref I))
  ti : PySem.W.typeIn K (.ref I) = some (.type "function")
  fn : ∃ (oc : Value) (od : Option Addr) (doc pm : Value) (an : Option Addr) (cdv ct : Value) (osl : Array (Option Value)) (p1 p2 q1 q2 q3 q4 : Pos),
    K.lookup I = some ⟨oc, od, .func (PySem.W.fnOf "__init__" q (inA f p1 p2) (inB f q1 q2 q3 q4) (inS f) .none .none doc pm an cdv ct), osl⟩ ∧ PySem.W.codeIn K cdv q = true
theorem initC {K : PySem.W.Frag} {mg : Str → Option Value} {A : Nat → Addr} {i : Nat} {I : Addr} {q f x : Str} {n : String} {B initId : String} {bmB : List Value} (h : CF K mg (A i) x (bmOf A i) n) (c : CI K (A i) I q f) (F : ExcBaseFacts B n initId bmB) (Z : Behind (bmOf A i) B) : InitC K (A i) I q f := by
  obtain ⟨nm, qn, N, bs, sn, sub, ab, col, dd, k0, k1, k2, k3, k5, e⟩ := h.lk
  exact ⟨⟨nm, qn, N, bs, _, sn, sub, ab, col, dd, k0, k1, k2, k3, k5, B, n, initId, bmB, e, F, Z⟩, c.sa, c.nf, c.ic, c.ti, h.kp, c.fn⟩
set_option maxHeartbeats 20000000 in
theorem all_mk {l : PySem.W.OpenLaw} {w : World} {K : PySem.W.Frag} {h : Heap} {mg : Str → Option Value} {fa C0 C1 C2 C3 C4 C5 C6 C7 C8 C9 C10 C11 C12 C13 C14 C15 C16 C17 C18 C19 C20 C21 C22 C23 C24 C25 C26 C27 C28 I22 I23 I24 I25 I26 I27 I28 f0 f1 f2 f3 f4 f5 f6 f7 f8 f9 f10 f11 : Addr} (X : K.In h) (G : h.Ns mainGlobals mg) (hfa : mg "law" = some (.ref fa))
    (a0 : PySem.W.nsIn K mainGlobals "WebError" = some (some (.ref C0)))
    (a1 : PySem.W.nsIn K mainGlobals "InvalidPlace" = some (some (.ref C1)))
    (a2 : PySem.W.nsIn K mainGlobals "InvalidTie" = some (some (.ref C2)))
    (a3 : PySem.W.nsIn K mainGlobals "InvalidWeb" = some (some (.ref C3)))
    (a4 : PySem.W.nsIn K mainGlobals "InvalidTable" = some (some (.ref C4)))
    (a5 : PySem.W.nsIn K mainGlobals "InvalidDrawing" = some (some (.ref C5)))
    (a6 : PySem.W.nsIn K mainGlobals "InvalidRoute" = some (some (.ref C6)))
    (a7 : PySem.W.nsIn K mainGlobals "InvalidRim" = some (some (.ref C7)))
    (a8 : PySem.W.nsIn K mainGlobals "InvalidBar" = some (some (.ref C8)))
    (a9 : PySem.W.nsIn K mainGlobals "InvalidParting" = some (some (.ref C9)))
    (a10 : PySem.W.nsIn K mainGlobals "InvalidPart" = some (some (.ref C10)))
    (a11 : PySem.W.nsIn K mainGlobals "InvalidFlip" = some (some (.ref C11)))
    (a12 : PySem.W.nsIn K mainGlobals "InvalidNoose" = some (some (.ref C12)))
    (a13 : PySem.W.nsIn K mainGlobals "InvalidCover" = some (some (.ref C13)))
    (a14 : PySem.W.nsIn K mainGlobals "InvalidOrder" = some (some (.ref C14)))
    (a15 : PySem.W.nsIn K mainGlobals "InvalidEars" = some (some (.ref C15)))
    (a16 : PySem.W.nsIn K mainGlobals "InvalidBeams" = some (some (.ref C16)))
    (a17 : PySem.W.nsIn K mainGlobals "InvalidTrees" = some (some (.ref C17)))
    (a18 : PySem.W.nsIn K mainGlobals "InvalidCorners" = some (some (.ref C18)))
    (a19 : PySem.W.nsIn K mainGlobals "InvalidPicture" = some (some (.ref C19)))
    (a20 : PySem.W.nsIn K mainGlobals "InvalidColours" = some (some (.ref C20)))
    (a21 : PySem.W.nsIn K mainGlobals "InvalidOperation" = some (some (.ref C21)))
    (a22 : PySem.W.nsIn K mainGlobals "ParseError" = some (some (.ref C22)))
    (a23 : PySem.W.nsIn K mainGlobals "UnknownName" = some (some (.ref C23)))
    (a24 : PySem.W.nsIn K mainGlobals "Undrawn" = some (some (.ref C24)))
    (a25 : PySem.W.nsIn K mainGlobals "InvalidNumber" = some (some (.ref C25)))
    (a26 : PySem.W.nsIn K mainGlobals "NothingToUndo" = some (some (.ref C26)))
    (a27 : PySem.W.nsIn K mainGlobals "TooMany" = some (some (.ref C27)))
    (a28 : PySem.W.nsIn K mainGlobals "Refused" = some (some (.ref C28)))
    (l0 : ∃ nm q N bs sn sub ab col dd k0 k1 k2 k3 k5, K.lookup C0 = some (excClassObj nm q C0 N bs veB true sn sub ab col dd k0 k1 k2 k3 k5 (nid 0)))
    (ga0 : PySem.W.findIn K (.ref C0) "__getattribute__" = some (some (.builtin "BaseException.__getattribute__")))
    (gg0 : PySem.W.findIn K (.ref C0) "__getattr__" = some none)
    (cl0 : PySem.W.findIn K (.ref C0) "__class__" = some (some (.builtin "object.__class__")))
    (kp0 : PySem.W.keepIn K (.ref C0) = true)
    (x0 : PySem.W.excIn K C0 [.type "ValueError", .type "Exception", .type "BaseException", .type "object"] "ValueError.__new__" = true)
    (l1 : ∃ nm q N bs sn sub ab col dd k0 k1 k2 k3 k5, K.lookup C1 = some (excClassObj nm q C1 N bs (.ref C0 :: veB) true sn sub ab col dd k0 k1 k2 k3 k5 (nid 1)))
    (ga1 : PySem.W.findIn K (.ref C1) "__getattribute__" = some (some (.builtin "BaseException.__getattribute__")))
    (gg1 : PySem.W.findIn K (.ref C1) "__getattr__" = some none)
    (cl1 : PySem.W.findIn K (.ref C1) "__class__" = some (some (.builtin "object.__class__")))
    (kp1 : PySem.W.keepIn K (.ref C1) = true)
    (x1 : PySem.W.excIn K C1 [.type "ValueError", .type "Exception", .type "BaseException", .type "object"] "ValueError.__new__" = true)
    (l2 : ∃ nm q N bs sn sub ab col dd k0 k1 k2 k3 k5, K.lookup C2 = some (excClassObj nm q C2 N bs (.ref C0 :: veB) true sn sub ab col dd k0 k1 k2 k3 k5 (nid 2)))
    (ga2 : PySem.W.findIn K (.ref C2) "__getattribute__" = some (some (.builtin "BaseException.__getattribute__")))
    (gg2 : PySem.W.findIn K (.ref C2) "__getattr__" = some none)
    (cl2 : PySem.W.findIn K (.ref C2) "__class__" = some (some (.builtin "object.__class__")))
    (kp2 : PySem.W.keepIn K (.ref C2) = true)
    (x2 : PySem.W.excIn K C2 [.type "ValueError", .type "Exception", .type "BaseException", .type "object"] "ValueError.__new__" = true)
    (l3 : ∃ nm q N bs sn sub ab col dd k0 k1 k2 k3 k5, K.lookup C3 = some (excClassObj nm q C3 N bs (.ref C0 :: veB) true sn sub ab col dd k0 k1 k2 k3 k5 (nid 3)))
    (ga3 : PySem.W.findIn K (.ref C3) "__getattribute__" = some (some (.builtin "BaseException.__getattribute__")))
    (gg3 : PySem.W.findIn K (.ref C3) "__getattr__" = some none)
    (cl3 : PySem.W.findIn K (.ref C3) "__class__" = some (some (.builtin "object.__class__")))
    (kp3 : PySem.W.keepIn K (.ref C3) = true)
    (x3 : PySem.W.excIn K C3 [.type "ValueError", .type "Exception", .type "BaseException", .type "object"] "ValueError.__new__" = true)
    (l4 : ∃ nm q N bs sn sub ab col dd k0 k1 k2 k3 k5, K.lookup C4 = some (excClassObj nm q C4 N bs (.ref C0 :: veB) true sn sub ab col dd k0 k1 k2 k3 k5 (nid 4)))
    (ga4 : PySem.W.findIn K (.ref C4) "__getattribute__" = some (some (.builtin "BaseException.__getattribute__")))
    (gg4 : PySem.W.findIn K (.ref C4) "__getattr__" = some none)
    (cl4 : PySem.W.findIn K (.ref C4) "__class__" = some (some (.builtin "object.__class__")))
    (kp4 : PySem.W.keepIn K (.ref C4) = true)
    (x4 : PySem.W.excIn K C4 [.type "ValueError", .type "Exception", .type "BaseException", .type "object"] "ValueError.__new__" = true)
    (l5 : ∃ nm q N bs sn sub ab col dd k0 k1 k2 k3 k5, K.lookup C5 = some (excClassObj nm q C5 N bs (.ref C0 :: veB) true sn sub ab col dd k0 k1 k2 k3 k5 (nid 5)))
    (ga5 : PySem.W.findIn K (.ref C5) "__getattribute__" = some (some (.builtin "BaseException.__getattribute__")))
    (gg5 : PySem.W.findIn K (.ref C5) "__getattr__" = some none)
    (cl5 : PySem.W.findIn K (.ref C5) "__class__" = some (some (.builtin "object.__class__")))
    (kp5 : PySem.W.keepIn K (.ref C5) = true)
    (x5 : PySem.W.excIn K C5 [.type "ValueError", .type "Exception", .type "BaseException", .type "object"] "ValueError.__new__" = true)
    (l6 : ∃ nm q N bs sn sub ab col dd k0 k1 k2 k3 k5, K.lookup C6 = some (excClassObj nm q C6 N bs (.ref C0 :: veB) true sn sub ab col dd k0 k1 k2 k3 k5 (nid 6)))
    (ga6 : PySem.W.findIn K (.ref C6) "__getattribute__" = some (some (.builtin "BaseException.__getattribute__")))
    (gg6 : PySem.W.findIn K (.ref C6) "__getattr__" = some none)
    (cl6 : PySem.W.findIn K (.ref C6) "__class__" = some (some (.builtin "object.__class__")))
    (kp6 : PySem.W.keepIn K (.ref C6) = true)
    (x6 : PySem.W.excIn K C6 [.type "ValueError", .type "Exception", .type "BaseException", .type "object"] "ValueError.__new__" = true)
    (l7 : ∃ nm q N bs sn sub ab col dd k0 k1 k2 k3 k5, K.lookup C7 = some (excClassObj nm q C7 N bs (.ref C0 :: veB) true sn sub ab col dd k0 k1 k2 k3 k5 (nid 7)))
    (ga7 : PySem.W.findIn K (.ref C7) "__getattribute__" = some (some (.builtin "BaseException.__getattribute__")))
    (gg7 : PySem.W.findIn K (.ref C7) "__getattr__" = some none)
    (cl7 : PySem.W.findIn K (.ref C7) "__class__" = some (some (.builtin "object.__class__")))
    (kp7 : PySem.W.keepIn K (.ref C7) = true)
    (x7 : PySem.W.excIn K C7 [.type "ValueError", .type "Exception", .type "BaseException", .type "object"] "ValueError.__new__" = true)
    (l8 : ∃ nm q N bs sn sub ab col dd k0 k1 k2 k3 k5, K.lookup C8 = some (excClassObj nm q C8 N bs (.ref C0 :: veB) true sn sub ab col dd k0 k1 k2 k3 k5 (nid 8)))
    (ga8 : PySem.W.findIn K (.ref C8) "__getattribute__" = some (some (.builtin "BaseException.__getattribute__")))
    (gg8 : PySem.W.findIn K (.ref C8) "__getattr__" = some none)
    (cl8 : PySem.W.findIn K (.ref C8) "__class__" = some (some (.builtin "object.__class__")))
    (kp8 : PySem.W.keepIn K (.ref C8) = true)
    (x8 : PySem.W.excIn K C8 [.type "ValueError", .type "Exception", .type "BaseException", .type "object"] "ValueError.__new__" = true)
    (l9 : ∃ nm q N bs sn sub ab col dd k0 k1 k2 k3 k5, K.lookup C9 = some (excClassObj nm q C9 N bs (.ref C0 :: veB) true sn sub ab col dd k0 k1 k2 k3 k5 (nid 9)))
    (ga9 : PySem.W.findIn K (.ref C9) "__getattribute__" = some (some (.builtin "BaseException.__getattribute__")))
    (gg9 : PySem.W.findIn K (.ref C9) "__getattr__" = some none)
    (cl9 : PySem.W.findIn K (.ref C9) "__class__" = some (some (.builtin "object.__class__")))
    (kp9 : PySem.W.keepIn K (.ref C9) = true)
    (x9 : PySem.W.excIn K C9 [.type "ValueError", .type "Exception", .type "BaseException", .type "object"] "ValueError.__new__" = true)
    (l10 : ∃ nm q N bs sn sub ab col dd k0 k1 k2 k3 k5, K.lookup C10 = some (excClassObj nm q C10 N bs (.ref C0 :: veB) true sn sub ab col dd k0 k1 k2 k3 k5 (nid 10)))
    (ga10 : PySem.W.findIn K (.ref C10) "__getattribute__" = some (some (.builtin "BaseException.__getattribute__")))
    (gg10 : PySem.W.findIn K (.ref C10) "__getattr__" = some none)
    (cl10 : PySem.W.findIn K (.ref C10) "__class__" = some (some (.builtin "object.__class__")))
    (kp10 : PySem.W.keepIn K (.ref C10) = true)
    (x10 : PySem.W.excIn K C10 [.type "ValueError", .type "Exception", .type "BaseException", .type "object"] "ValueError.__new__" = true)
    (l11 : ∃ nm q N bs sn sub ab col dd k0 k1 k2 k3 k5, K.lookup C11 = some (excClassObj nm q C11 N bs (.ref C0 :: veB) true sn sub ab col dd k0 k1 k2 k3 k5 (nid 11)))
    (ga11 : PySem.W.findIn K (.ref C11) "__getattribute__" = some (some (.builtin "BaseException.__getattribute__")))
    (gg11 : PySem.W.findIn K (.ref C11) "__getattr__" = some none)
    (cl11 : PySem.W.findIn K (.ref C11) "__class__" = some (some (.builtin "object.__class__")))
    (kp11 : PySem.W.keepIn K (.ref C11) = true)
    (x11 : PySem.W.excIn K C11 [.type "ValueError", .type "Exception", .type "BaseException", .type "object"] "ValueError.__new__" = true)
    (l12 : ∃ nm q N bs sn sub ab col dd k0 k1 k2 k3 k5, K.lookup C12 = some (excClassObj nm q C12 N bs (.ref C0 :: veB) true sn sub ab col dd k0 k1 k2 k3 k5 (nid 12)))
    (ga12 : PySem.W.findIn K (.ref C12) "__getattribute__" = some (some (.builtin "BaseException.__getattribute__")))
    (gg12 : PySem.W.findIn K (.ref C12) "__getattr__" = some none)
    (cl12 : PySem.W.findIn K (.ref C12) "__class__" = some (some (.builtin "object.__class__")))
    (kp12 : PySem.W.keepIn K (.ref C12) = true)
    (x12 : PySem.W.excIn K C12 [.type "ValueError", .type "Exception", .type "BaseException", .type "object"] "ValueError.__new__" = true)
    (l13 : ∃ nm q N bs sn sub ab col dd k0 k1 k2 k3 k5, K.lookup C13 = some (excClassObj nm q C13 N bs (.ref C0 :: veB) true sn sub ab col dd k0 k1 k2 k3 k5 (nid 13)))
    (ga13 : PySem.W.findIn K (.ref C13) "__getattribute__" = some (some (.builtin "BaseException.__getattribute__")))
    (gg13 : PySem.W.findIn K (.ref C13) "__getattr__" = some none)
    (cl13 : PySem.W.findIn K (.ref C13) "__class__" = some (some (.builtin "object.__class__")))
    (kp13 : PySem.W.keepIn K (.ref C13) = true)
    (x13 : PySem.W.excIn K C13 [.type "ValueError", .type "Exception", .type "BaseException", .type "object"] "ValueError.__new__" = true)
    (l14 : ∃ nm q N bs sn sub ab col dd k0 k1 k2 k3 k5, K.lookup C14 = some (excClassObj nm q C14 N bs (.ref C0 :: veB) true sn sub ab col dd k0 k1 k2 k3 k5 (nid 14)))
    (ga14 : PySem.W.findIn K (.ref C14) "__getattribute__" = some (some (.builtin "BaseException.__getattribute__")))
    (gg14 : PySem.W.findIn K (.ref C14) "__getattr__" = some none)
    (cl14 : PySem.W.findIn K (.ref C14) "__class__" = some (some (.builtin "object.__class__")))
    (kp14 : PySem.W.keepIn K (.ref C14) = true)
    (x14 : PySem.W.excIn K C14 [.type "ValueError", .type "Exception", .type "BaseException", .type "object"] "ValueError.__new__" = true)
    (l15 : ∃ nm q N bs sn sub ab col dd k0 k1 k2 k3 k5, K.lookup C15 = some (excClassObj nm q C15 N bs (.ref C0 :: veB) true sn sub ab col dd k0 k1 k2 k3 k5 (nid 15)))
    (ga15 : PySem.W.findIn K (.ref C15) "__getattribute__" = some (some (.builtin "BaseException.__getattribute__")))
    (gg15 : PySem.W.findIn K (.ref C15) "__getattr__" = some none)
    (cl15 : PySem.W.findIn K (.ref C15) "__class__" = some (some (.builtin "object.__class__")))
    (kp15 : PySem.W.keepIn K (.ref C15) = true)
    (x15 : PySem.W.excIn K C15 [.type "ValueError", .type "Exception", .type "BaseException", .type "object"] "ValueError.__new__" = true)
    (l16 : ∃ nm q N bs sn sub ab col dd k0 k1 k2 k3 k5, K.lookup C16 = some (excClassObj nm q C16 N bs (.ref C0 :: veB) true sn sub ab col dd k0 k1 k2 k3 k5 (nid 16)))
    (ga16 : PySem.W.findIn K (.ref C16) "__getattribute__" = some (some (.builtin "BaseException.__getattribute__")))
    (gg16 : PySem.W.findIn K (.ref C16) "__getattr__" = some none)
    (cl16 : PySem.W.findIn K (.ref C16) "__class__" = some (some (.builtin "object.__class__")))
    (kp16 : PySem.W.keepIn K (.ref C16) = true)
    (x16 : PySem.W.excIn K C16 [.type "ValueError", .type "Exception", .type "BaseException", .type "object"] "ValueError.__new__" = true)
    (l17 : ∃ nm q N bs sn sub ab col dd k0 k1 k2 k3 k5, K.lookup C17 = some (excClassObj nm q C17 N bs (.ref C0 :: veB) true sn sub ab col dd k0 k1 k2 k3 k5 (nid 17)))
    (ga17 : PySem.W.findIn K (.ref C17) "__getattribute__" = some (some (.builtin "BaseException.__getattribute__")))
    (gg17 : PySem.W.findIn K (.ref C17) "__getattr__" = some none)
    (cl17 : PySem.W.findIn K (.ref C17) "__class__" = some (some (.builtin "object.__class__")))
    (kp17 : PySem.W.keepIn K (.ref C17) = true)
    (x17 : PySem.W.excIn K C17 [.type "ValueError", .type "Exception", .type "BaseException", .type "object"] "ValueError.__new__" = true)
    (l18 : ∃ nm q N bs sn sub ab col dd k0 k1 k2 k3 k5, K.lookup C18 = some (excClassObj nm q C18 N bs (.ref C0 :: veB) true sn sub ab col dd k0 k1 k2 k3 k5 (nid 18)))
    (ga18 : PySem.W.findIn K (.ref C18) "__getattribute__" = some (some (.builtin "BaseException.__getattribute__")))
    (gg18 : PySem.W.findIn K (.ref C18) "__getattr__" = some none)
    (cl18 : PySem.W.findIn K (.ref C18) "__class__" = some (some (.builtin "object.__class__")))
    (kp18 : PySem.W.keepIn K (.ref C18) = true)
    (x18 : PySem.W.excIn K C18 [.type "ValueError", .type "Exception", .type "BaseException", .type "object"] "ValueError.__new__" = true)
    (l19 : ∃ nm q N bs sn sub ab col dd k0 k1 k2 k3 k5, K.lookup C19 = some (excClassObj nm q C19 N bs (.ref C0 :: veB) true sn sub ab col dd k0 k1 k2 k3 k5 (nid 19)))
    (ga19 : PySem.W.findIn K (.ref C19) "__getattribute__" = some (some (.builtin "BaseException.__getattribute__")))
    (gg19 : PySem.W.findIn K (.ref C19) "__getattr__" = some none)
    (cl19 : PySem.W.findIn K (.ref C19) "__class__" = some (some (.builtin "object.__class__")))
    (kp19 : PySem.W.keepIn K (.ref C19) = true)
    (x19 : PySem.W.excIn K C19 [.type "ValueError", .type "Exception", .type "BaseException", .type "object"] "ValueError.__new__" = true)
    (l20 : ∃ nm q N bs sn sub ab col dd k0 k1 k2 k3 k5, K.lookup C20 = some (excClassObj nm q C20 N bs (.ref C0 :: veB) true sn sub ab col dd k0 k1 k2 k3 k5 (nid 20)))
    (ga20 : PySem.W.findIn K (.ref C20) "__getattribute__" = some (some (.builtin "BaseException.__getattribute__")))
    (gg20 : PySem.W.findIn K (.ref C20) "__getattr__" = some none)
    (cl20 : PySem.W.findIn K (.ref C20) "__class__" = some (some (.builtin "object.__class__")))
    (kp20 : PySem.W.keepIn K (.ref C20) = true)
    (x20 : PySem.W.excIn K C20 [.type "ValueError", .type "Exception", .type "BaseException", .type "object"] "ValueError.__new__" = true)
    (l21 : ∃ nm q N bs sn sub ab col dd k0 k1 k2 k3 k5, K.lookup C21 = some (excClassObj nm q C21 N bs (.ref C0 :: veB) true sn sub ab col dd k0 k1 k2 k3 k5 (nid 21)))
    (ga21 : PySem.W.findIn K (.ref C21) "__getattribute__" = some (some (.builtin "BaseException.__getattribute__")))
    (gg21 : PySem.W.findIn K (.ref C21) "__getattr__" = some none)
    (cl21 : PySem.W.findIn K (.ref C21) "__class__" = some (some (.builtin "object.__class__")))
    (kp21 : PySem.W.keepIn K (.ref C21) = true)
    (x21 : PySem.W.excIn K C21 [.type "ValueError", .type "Exception", .type "BaseException", .type "object"] "ValueError.__new__" = true)
    (l22 : ∃ nm q N bs sn sub ab col dd k0 k1 k2 k3 k5, K.lookup C22 = some (excClassObj nm q C22 N bs (.ref C0 :: veB) true sn sub ab col dd k0 k1 k2 k3 k5 (nid 22)))
    (ga22 : PySem.W.findIn K (.ref C22) "__getattribute__" = some (some (.builtin "BaseException.__getattribute__")))
    (gg22 : PySem.W.findIn K (.ref C22) "__getattr__" = some none)
    (cl22 : PySem.W.findIn K (.ref C22) "__class__" = some (some (.builtin "object.__class__")))
    (kp22 : PySem.W.keepIn K (.ref C22) = true)
    (sa22 : PySem.W.findIn K (.ref C22) "__setattr__" = some (some (.builtin "object.__setattr__")))
    (nf22 : PySem.W.findIn K (.ref C22) "number" = some none)
    (ic22 : PySem.W.findIn K (.ref C22) "__init__" = some (some (.ref I22)))
    (ti22 : PySem.W.typeIn K (.ref I22) = some (.type "function"))
    (fn22 : ∃ (oc : Value) (od : Option Addr) (doc pm : Value) (an : Option Addr) (cdv ct : Value) (osl : Array (Option Value)) (p1 p2 q1 q2 q3 q4 : Pos), K.lookup I22 = some ⟨oc, od, .func (PySem.W.fnOf "__init__" "ParseError.__init__" (inA "number" p1 p2) (inB "number" q1 q2 q3 q4) (inS "number") .none .none doc pm an cdv ct), osl⟩ ∧ PySem.W.codeIn K cdv "ParseError.__init__" = true)
    (l23 : ∃ nm q N bs sn sub ab col dd k0 k1 k2 k3 k5, K.lookup C23 = some (excClassObj nm q C23 N bs (tl 23) true sn sub ab col dd k0 k1 k2 k3 k5 (nid 23)))
    (ga23 : PySem.W.findIn K (.ref C23) "__getattribute__" = some (some (.builtin "BaseException.__getattribute__")))
    (gg23 : PySem.W.findIn K (.ref C23) "__getattr__" = some none)
    (cl23 : PySem.W.findIn K (.ref C23) "__class__" = some (some (.builtin "object.__class__")))
    (kp23 : PySem.W.keepIn K (.ref C23) = true)
    (sa23 : PySem.W.findIn K (.ref C23) "__setattr__" = some (some (.builtin "object.__setattr__")))
    (nf23 : PySem.W.findIn K (.ref C23) "word" = some none)
    (ic23 : PySem.W.findIn K (.ref C23) "__init__" = some (some (.ref I23)))
    (ti23 : PySem.W.typeIn K (.ref I23) = some (.type "function"))
    (fn23 : ∃ (oc : Value) (od : Option Addr) (doc pm : Value) (an : Option Addr) (cdv ct : Value) (osl : Array (Option Value)) (p1 p2 q1 q2 q3 q4 : Pos), K.lookup I23 = some ⟨oc, od, .func (PySem.W.fnOf "__init__" "UnknownName.__init__" (inA "word" p1 p2) (inB "word" q1 q2 q3 q4) (inS "word") .none .none doc pm an cdv ct), osl⟩ ∧ PySem.W.codeIn K cdv "UnknownName.__init__" = true)
    (l24 : ∃ nm q N bs sn sub ab col dd k0 k1 k2 k3 k5, K.lookup C24 = some (excClassObj nm q C24 N bs (tl 24) true sn sub ab col dd k0 k1 k2 k3 k5 (nid 24)))
    (ga24 : PySem.W.findIn K (.ref C24) "__getattribute__" = some (some (.builtin "BaseException.__getattribute__")))
    (gg24 : PySem.W.findIn K (.ref C24) "__getattr__" = some none)
    (cl24 : PySem.W.findIn K (.ref C24) "__class__" = some (some (.builtin "object.__class__")))
    (kp24 : PySem.W.keepIn K (.ref C24) = true)
    (sa24 : PySem.W.findIn K (.ref C24) "__setattr__" = some (some (.builtin "object.__setattr__")))
    (nf24 : PySem.W.findIn K (.ref C24) "bar" = some none)
    (ic24 : PySem.W.findIn K (.ref C24) "__init__" = some (some (.ref I24)))
    (ti24 : PySem.W.typeIn K (.ref I24) = some (.type "function"))
    (fn24 : ∃ (oc : Value) (od : Option Addr) (doc pm : Value) (an : Option Addr) (cdv ct : Value) (osl : Array (Option Value)) (p1 p2 q1 q2 q3 q4 : Pos), K.lookup I24 = some ⟨oc, od, .func (PySem.W.fnOf "__init__" "Undrawn.__init__" (inA "bar" p1 p2) (inB "bar" q1 q2 q3 q4) (inS "bar") .none .none doc pm an cdv ct), osl⟩ ∧ PySem.W.codeIn K cdv "Undrawn.__init__" = true)
    (l25 : ∃ nm q N bs sn sub ab col dd k0 k1 k2 k3 k5, K.lookup C25 = some (excClassObj nm q C25 N bs (tl 25) true sn sub ab col dd k0 k1 k2 k3 k5 (nid 25)))
    (ga25 : PySem.W.findIn K (.ref C25) "__getattribute__" = some (some (.builtin "BaseException.__getattribute__")))
    (gg25 : PySem.W.findIn K (.ref C25) "__getattr__" = some none)
    (cl25 : PySem.W.findIn K (.ref C25) "__class__" = some (some (.builtin "object.__class__")))
    (kp25 : PySem.W.keepIn K (.ref C25) = true)
    (sa25 : PySem.W.findIn K (.ref C25) "__setattr__" = some (some (.builtin "object.__setattr__")))
    (nf25 : PySem.W.findIn K (.ref C25) "value" = some none)
    (ic25 : PySem.W.findIn K (.ref C25) "__init__" = some (some (.ref I25)))
    (ti25 : PySem.W.typeIn K (.ref I25) = some (.type "function"))
    (fn25 : ∃ (oc : Value) (od : Option Addr) (doc pm : Value) (an : Option Addr) (cdv ct : Value) (osl : Array (Option Value)) (p1 p2 q1 q2 q3 q4 : Pos), K.lookup I25 = some ⟨oc, od, .func (PySem.W.fnOf "__init__" "InvalidNumber.__init__" (inA "value" p1 p2) (inB "value" q1 q2 q3 q4) (inS "value") .none .none doc pm an cdv ct), osl⟩ ∧ PySem.W.codeIn K cdv "InvalidNumber.__init__" = true)
    (l26 : ∃ nm q N bs sn sub ab col dd k0 k1 k2 k3 k5, K.lookup C26 = some (excClassObj nm q C26 N bs (tl 26) true sn sub ab col dd k0 k1 k2 k3 k5 (nid 26)))
    (ga26 : PySem.W.findIn K (.ref C26) "__getattribute__" = some (some (.builtin "BaseException.__getattribute__")))
    (gg26 : PySem.W.findIn K (.ref C26) "__getattr__" = some none)
    (cl26 : PySem.W.findIn K (.ref C26) "__class__" = some (some (.builtin "object.__class__")))
    (kp26 : PySem.W.keepIn K (.ref C26) = true)
    (sa26 : PySem.W.findIn K (.ref C26) "__setattr__" = some (some (.builtin "object.__setattr__")))
    (nf26 : PySem.W.findIn K (.ref C26) "many" = some none)
    (ic26 : PySem.W.findIn K (.ref C26) "__init__" = some (some (.ref I26)))
    (ti26 : PySem.W.typeIn K (.ref I26) = some (.type "function"))
    (fn26 : ∃ (oc : Value) (od : Option Addr) (doc pm : Value) (an : Option Addr) (cdv ct : Value) (osl : Array (Option Value)) (p1 p2 q1 q2 q3 q4 : Pos), K.lookup I26 = some ⟨oc, od, .func (PySem.W.fnOf "__init__" "NothingToUndo.__init__" (inA "many" p1 p2) (inB "many" q1 q2 q3 q4) (inS "many") .none .none doc pm an cdv ct), osl⟩ ∧ PySem.W.codeIn K cdv "NothingToUndo.__init__" = true)
    (l27 : ∃ nm q N bs sn sub ab col dd k0 k1 k2 k3 k5, K.lookup C27 = some (excClassObj nm q C27 N bs (tl 27) true sn sub ab col dd k0 k1 k2 k3 k5 (nid 27)))
    (ga27 : PySem.W.findIn K (.ref C27) "__getattribute__" = some (some (.builtin "BaseException.__getattribute__")))
    (gg27 : PySem.W.findIn K (.ref C27) "__getattr__" = some none)
    (cl27 : PySem.W.findIn K (.ref C27) "__class__" = some (some (.builtin "object.__class__")))
    (kp27 : PySem.W.keepIn K (.ref C27) = true)
    (sa27 : PySem.W.findIn K (.ref C27) "__setattr__" = some (some (.builtin "object.__setattr__")))
    (nf27 : PySem.W.findIn K (.ref C27) "limit" = some none)
    (ic27 : PySem.W.findIn K (.ref C27) "__init__" = some (some (.ref I27)))
    (ti27 : PySem.W.typeIn K (.ref I27) = some (.type "function"))
    (fn27 : ∃ (oc : Value) (od : Option Addr) (doc pm : Value) (an : Option Addr) (cdv ct : Value) (osl : Array (Option Value)) (p1 p2 q1 q2 q3 q4 : Pos), K.lookup I27 = some ⟨oc, od, .func (PySem.W.fnOf "__init__" "TooMany.__init__" (inA "limit" p1 p2) (inB "limit" q1 q2 q3 q4) (inS "limit") .none .none doc pm an cdv ct), osl⟩ ∧ PySem.W.codeIn K cdv "TooMany.__init__" = true)
    (l28 : ∃ nm q N bs sn sub ab col dd k0 k1 k2 k3 k5, K.lookup C28 = some (excClassObj nm q C28 N bs (tl 28) true sn sub ab col dd k0 k1 k2 k3 k5 (nid 28)))
    (ga28 : PySem.W.findIn K (.ref C28) "__getattribute__" = some (some (.builtin "BaseException.__getattribute__")))
    (gg28 : PySem.W.findIn K (.ref C28) "__getattr__" = some none)
    (cl28 : PySem.W.findIn K (.ref C28) "__class__" = some (some (.builtin "object.__class__")))
    (kp28 : PySem.W.keepIn K (.ref C28) = true)
    (sa28 : PySem.W.findIn K (.ref C28) "__setattr__" = some (some (.builtin "object.__setattr__")))
    (nf28 : PySem.W.findIn K (.ref C28) "pledge" = some none)
    (ic28 : PySem.W.findIn K (.ref C28) "__init__" = some (some (.ref I28)))
    (ti28 : PySem.W.typeIn K (.ref I28) = some (.type "function"))
    (fn28 : ∃ (oc : Value) (od : Option Addr) (doc pm : Value) (an : Option Addr) (cdv ct : Value) (osl : Array (Option Value)) (p1 p2 q1 q2 q3 q4 : Pos), K.lookup I28 = some ⟨oc, od, .func (PySem.W.fnOf "__init__" "Refused.__init__" (inA "pledge" p1 p2) (inB "pledge" q1 q2 q3 q4) (inS "pledge") .none .none doc pm an cdv ct), osl⟩ ∧ PySem.W.codeIn K cdv "Refused.__init__" = true)
    (hn : PySem.W.specialIn K (.builtin "object.__class__") "__get__" = some (some (.builtin "getset_descriptor.__get__")))
    (ht : PySem.W.takesIn K (.builtin "object.__class__") = some true)
    (z_int : PySem.W.nsIn K mainGlobals "int" = some none)
    (z_len : PySem.W.nsIn K mainGlobals "len" = some none)
    (z_max : PySem.W.nsIn K mainGlobals "max" = some none)
    (z_abs : PySem.W.nsIn K mainGlobals "abs" = some none)
    (z_isinstance : PySem.W.nsIn K mainGlobals "isinstance" = some none)
    (z_repr : PySem.W.nsIn K mainGlobals "repr" = some none)
    (z_range : PySem.W.nsIn K mainGlobals "range" = some none)
    (z_min : PySem.W.nsIn K mainGlobals "min" = some none)
    (z_ValueError : PySem.W.nsIn K mainGlobals "ValueError" = some none)
    (z_KeyError : PySem.W.nsIn K mainGlobals "KeyError" = some none)
    (z_IndexError : PySem.W.nsIn K mainGlobals "IndexError" = some none)
    (z_LookupError : PySem.W.nsIn K mainGlobals "LookupError" = some none)
    (z_RuntimeError : PySem.W.nsIn K mainGlobals "RuntimeError" = some none)
    (z_OverflowError : PySem.W.nsIn K mainGlobals "OverflowError" = some none)
    (z_ArithmeticError : PySem.W.nsIn K mainGlobals "ArithmeticError" = some none)
    (nd : ∀ i, i < 29 → ∀ j, j < 29 → ([C0, C1, C2, C3, C4, C5, C6, C7, C8, C9, C10, C11, C12, C13, C14, C15, C16, C17, C18, C19, C20, C21, C22, C23, C24, C25, C26, C27, C28] : List Addr).getD i 0 = ([C0, C1, C2, C3, C4, C5, C6, C7, C8, C9, C10, C11, C12, C13, C14, C15, C16, C17, C18, C19, C20, C21, C22, C23, C24, C25, C26, C27, C28] : List Addr).getD j 0 → i = j)
    (d0 : PySem.W.nsIn K mainGlobals "_law_dice" = some (some (.ref f0)))
    (F0 : ∃ fd, Fun K "_law_dice" "_law_dice" sDice f0 fd)
    (d1 : PySem.W.nsIn K mainGlobals "_law_roll" = some (some (.ref f1)))
    (F1 : ∃ fd, Fun K "_law_roll" "_law_roll" sRoll f1 fd)
    (d2 : PySem.W.nsIn K mainGlobals "_law_pick" = some (some (.ref f2)))
    (F2 : ∃ fd, Fun K "_law_pick" "_law_pick" sPick f2 fd)
    (d3 : PySem.W.nsIn K mainGlobals "_law_made_all" = some (some (.ref f3)))
    (F3 : ∃ fd, Fun K "_law_made_all" "_law_made_all" sMade f3 fd)
    (d4 : PySem.W.nsIn K mainGlobals "_law_first_half" = some (some (.ref f4)))
    (F4 : ∃ fd, Fun K "_law_first_half" "_law_first_half" sFirst f4 fd)
    (d5 : PySem.W.nsIn K mainGlobals "_law_second_half" = some (some (.ref f5)))
    (F5 : ∃ fd, Fun K "_law_second_half" "_law_second_half" sSecond f5 fd)
    (d6 : PySem.W.nsIn K mainGlobals "_law_kinds" = some (some (.ref f6)))
    (F6 : ∃ fd, Fun K "_law_kinds" "_law_kinds" sKinds f6 fd)
    (d7 : PySem.W.nsIn K mainGlobals "_law_all" = some (some (.ref f7)))
    (F7 : ∃ fd, Fun K "_law_all" "_law_all" sAll f7 fd)
    (d8 : PySem.W.nsIn K mainGlobals "_law_kept" = some (some (.ref f8)))
    (F8 : ∃ fd, Fun K "_law_kept" "_law_kept" sKept f8 fd)
    (d9 : PySem.W.nsIn K mainGlobals "_law_caught" = some (some (.ref f9)))
    (F9 : ∃ fd, Fun K "_law_caught" "_law_caught" sCaught f9 fd)
    (d10 : PySem.W.nsIn K mainGlobals "_law_right" = some (some (.ref f10)))
    (F10 : ∃ fd, Fun K "_law_right" "_law_right" sRight f10 fd)
    (d11 : PySem.W.nsIn K mainGlobals "law" = some (some (.ref f11)))
    (F11 : ∃ fd, Fun K "law" "law" sLaw f11 fd)
    : ∃ fd : FuncData, (∀ (s : Shared) (u : Value), BindsTo s fd ⟨[u], []⟩ [("_law_script", u)]) ∧ ∀ base : Heap, K.In base → base.Ns mainGlobals mg → FnG l.prog w K mg base CX0 5 fa fd ["_law_script"] (spLaw K) := by
  have e := hfa.symm.trans (PySem.W.mg_of X G d11)
  cases e
  let A : Nat → Addr := fun i => [C0, C1, C2, C3, C4, C5, C6, C7, C8, C9, C10, C11, C12, C13, C14, C15, C16, C17, C18, C19, C20, C21, C22, C23, C24, C25, C26, C27, C28].getD i 0
  let I : Nat → Addr := fun i => [0, 0, 0, 0, 0, 0, 0, 0, 0, 0, 0, 0, 0, 0, 0, 0, 0, 0, 0, 0, 0, 0, I22, I23, I24, I25, I26, I27, I28].getD i 0
  have c0 : CF K mg (A 0) (nm 0) (bmOf A 0) (nid 0) := ⟨PySem.W.mg_of X G a0, l0, ga0, gg0, cl0, kp0⟩
  have c1 : CF K mg (A 1) (nm 1) (bmOf A 1) (nid 1) := ⟨PySem.W.mg_of X G a1, l1, ga1, gg1, cl1, kp1⟩
  have c2 : CF K mg (A 2) (nm 2) (bmOf A 2) (nid 2) := ⟨PySem.W.mg_of X G a2, l2, ga2, gg2, cl2, kp2⟩
  have c3 : CF K mg (A 3) (nm 3) (bmOf A 3) (nid 3) := ⟨PySem.W.mg_of X G a3, l3, ga3, gg3, cl3, kp3⟩
  have c4 : CF K mg (A 4) (nm 4) (bmOf A 4) (nid 4) := ⟨PySem.W.mg_of X G a4, l4, ga4, gg4, cl4, kp4⟩
  have c5 : CF K mg (A 5) (nm 5) (bmOf A 5) (nid 5) := ⟨PySem.W.mg_of X G a5, l5, ga5, gg5, cl5, kp5⟩
  have c6 : CF K mg (A 6) (nm 6) (bmOf A 6) (nid 6) := ⟨PySem.W.mg_of X G a6, l6, ga6, gg6, cl6, kp6⟩
  have c7 : CF K mg (A 7) (nm 7) (bmOf A 7) (nid 7) := ⟨PySem.W.mg_of X G a7, l7, ga7, gg7, cl7, kp7⟩
  have c8 : CF K mg (A 8) (nm 8) (bmOf A 8) (nid 8) := ⟨PySem.W.mg_of X G a8, l8, ga8, gg8, cl8, kp8⟩
  have c9 : CF K mg (A 9) (nm 9) (bmOf A 9) (nid 9) := ⟨PySem.W.mg_of X G a9, l9, ga9, gg9, cl9, kp9⟩
  have c10 : CF K mg (A 10) (nm 10) (bmOf A 10) (nid 10) := ⟨PySem.W.mg_of X G a10, l10, ga10, gg10, cl10, kp10⟩
  have c11 : CF K mg (A 11) (nm 11) (bmOf A 11) (nid 11) := ⟨PySem.W.mg_of X G a11, l11, ga11, gg11, cl11, kp11⟩
  have c12 : CF K mg (A 12) (nm 12) (bmOf A 12) (nid 12) := ⟨PySem.W.mg_of X G a12, l12, ga12, gg12, cl12, kp12⟩
  have c13 : CF K mg (A 13) (nm 13) (bmOf A 13) (nid 13) := ⟨PySem.W.mg_of X G a13, l13, ga13, gg13, cl13, kp13⟩
  have c14 : CF K mg (A 14) (nm 14) (bmOf A 14) (nid 14) := ⟨PySem.W.mg_of X G a14, l14, ga14, gg14, cl14, kp14⟩
  have c15 : CF K mg (A 15) (nm 15) (bmOf A 15) (nid 15) := ⟨PySem.W.mg_of X G a15, l15, ga15, gg15, cl15, kp15⟩
  have c16 : CF K mg (A 16) (nm 16) (bmOf A 16) (nid 16) := ⟨PySem.W.mg_of X G a16, l16, ga16, gg16, cl16, kp16⟩
  have c17 : CF K mg (A 17) (nm 17) (bmOf A 17) (nid 17) := ⟨PySem.W.mg_of X G a17, l17, ga17, gg17, cl17, kp17⟩
  have c18 : CF K mg (A 18) (nm 18) (bmOf A 18) (nid 18) := ⟨PySem.W.mg_of X G a18, l18, ga18, gg18, cl18, kp18⟩
  have c19 : CF K mg (A 19) (nm 19) (bmOf A 19) (nid 19) := ⟨PySem.W.mg_of X G a19, l19, ga19, gg19, cl19, kp19⟩
  have c20 : CF K mg (A 20) (nm 20) (bmOf A 20) (nid 20) := ⟨PySem.W.mg_of X G a20, l20, ga20, gg20, cl20, kp20⟩
  have c21 : CF K mg (A 21) (nm 21) (bmOf A 21) (nid 21) := ⟨PySem.W.mg_of X G a21, l21, ga21, gg21, cl21, kp21⟩
  have c22 : CF K mg (A 22) (nm 22) (bmOf A 22) (nid 22) := ⟨PySem.W.mg_of X G a22, l22, ga22, gg22, cl22, kp22⟩
  have c23 : CF K mg (A 23) (nm 23) (bmOf A 23) (nid 23) := ⟨PySem.W.mg_of X G a23, l23, ga23, gg23, cl23, kp23⟩
  have c24 : CF K mg (A 24) (nm 24) (bmOf A 24) (nid 24) := ⟨PySem.W.mg_of X G a24, l24, ga24, gg24, cl24, kp24⟩
  have c25 : CF K mg (A 25) (nm 25) (bmOf A 25) (nid 25) := ⟨PySem.W.mg_of X G a25, l25, ga25, gg25, cl25, kp25⟩
  have c26 : CF K mg (A 26) (nm 26) (bmOf A 26) (nid 26) := ⟨PySem.W.mg_of X G a26, l26, ga26, gg26, cl26, kp26⟩
  have c27 : CF K mg (A 27) (nm 27) (bmOf A 27) (nid 27) := ⟨PySem.W.mg_of X G a27, l27, ga27, gg27, cl27, kp27⟩
  have c28 : CF K mg (A 28) (nm 28) (bmOf A 28) (nid 28) := ⟨PySem.W.mg_of X G a28, l28, ga28, gg28, cl28, kp28⟩
  have cf : ∀ i, i < 29 → CF K mg (A i) (nm i) (bmOf A i) (nid i) := by
    intro i hi
    match i, hi with
    | 0, _ => exact c0
    | 1, _ => exact c1
    | 2, _ => exact c2
    | 3, _ => exact c3
    | 4, _ => exact c4
    | 5, _ => exact c5
    | 6, _ => exact c6
    | 7, _ => exact c7
    | 8, _ => exact c8
    | 9, _ => exact c9
    | 10, _ => exact c10
    | 11, _ => exact c11
    | 12, _ => exact c12
    | 13, _ => exact c13
    | 14, _ => exact c14
    | 15, _ => exact c15
    | 16, _ => exact c16
    | 17, _ => exact c17
    | 18, _ => exact c18
    | 19, _ => exact c19
    | 20, _ => exact c20
    | 21, _ => exact c21
    | 22, _ => exact c22
    | 23, _ => exact c23
    | 24, _ => exact c24
    | 25, _ => exact c25
    | 26, _ => exact c26
    | 27, _ => exact c27
    | 28, _ => exact c28
    | n + 29, h => exact absurd h (by omega)
  have plain : ∀ i, i < 22 → PySem.W.excIn K (A i) veB "ValueError.__new__" = true := by
    intro i hi
    match i, hi with
    | 0, _ => exact x0
    | 1, _ => exact x1
    | 2, _ => exact x2
    | 3, _ => exact x3
    | 4, _ => exact x4
    | 5, _ => exact x5
    | 6, _ => exact x6
    | 7, _ => exact x7
    | 8, _ => exact x8
    | 9, _ => exact x9
    | 10, _ => exact x10
    | 11, _ => exact x11
    | 12, _ => exact x12
    | 13, _ => exact x13
    | 14, _ => exact x14
    | 15, _ => exact x15
    | 16, _ => exact x16
    | 17, _ => exact x17
    | 18, _ => exact x18
    | 19, _ => exact x19
    | 20, _ => exact x20
    | 21, _ => exact x21
    | n + 22, h => exact absurd h (by omega)
  have i22 : InitC K (A 22) (I 22) "ParseError.__init__" (fld 22) := initC c22 ⟨sa22, nf22, ic22, ti22, fn22⟩ PySem.F.excBase_ValueError (behind (B := "ValueError") (by decide) (by decide +kernel) (by decide +kernel) (by decide +kernel) (fun self => by kernel_rfl))
  have i23 : InitC K (A 23) (I 23) "UnknownName.__init__" (fld 23) := initC c23 ⟨sa23, nf23, ic23, ti23, fn23⟩ PySem.F.excBase_LookupError (behind (B := "LookupError") (by decide) (by decide +kernel) (by decide +kernel) (by decide +kernel) (fun self => by kernel_rfl))
  have i24 : InitC K (A 24) (I 24) "Undrawn.__init__" (fld 24) := initC c24 ⟨sa24, nf24, ic24, ti24, fn24⟩ PySem.F.excBase_LookupError (behind (B := "LookupError") (by decide) (by decide +kernel) (by decide +kernel) (by decide +kernel) (fun self => by kernel_rfl))
  have i25 : InitC K (A 25) (I 25) "InvalidNumber.__init__" (fld 25) := initC c25 ⟨sa25, nf25, ic25, ti25, fn25⟩ PySem.F.excBase_IndexError (behind (B := "IndexError") (by decide) (by decide +kernel) (by decide +kernel) (by decide +kernel) (fun self => by kernel_rfl))
  have i26 : InitC K (A 26) (I 26) "NothingToUndo.__init__" (fld 26) := initC c26 ⟨sa26, nf26, ic26, ti26, fn26⟩ PySem.F.excBase_RuntimeError (behind (B := "RuntimeError") (by decide) (by decide +kernel) (by decide +kernel) (by decide +kernel) (fun self => by kernel_rfl))
  have i27 : InitC K (A 27) (I 27) "TooMany.__init__" (fld 27) := initC c27 ⟨sa27, nf27, ic27, ti27, fn27⟩ PySem.F.excBase_OverflowError (behind (B := "OverflowError") (by decide) (by decide +kernel) (by decide +kernel) (by decide +kernel) (fun self => by kernel_rfl))
  have i28 : InitC K (A 28) (I 28) "Refused.__init__" (fld 28) := initC c28 ⟨sa28, nf28, ic28, ti28, fn28⟩ PySem.F.excBase_ArithmeticError (behind (B := "ArithmeticError") (by decide) (by decide +kernel) (by decide +kernel) (by decide +kernel) (fun self => by kernel_rfl))
  have init : ∀ i, 22 ≤ i → i < 29 → ∃ q, InitC K (A i) (I i) q (fld i) := by
    intro i lo hi
    match i, lo, hi with
    | 0, lo, _ => exact absurd lo (by decide)
    | 1, lo, _ => exact absurd lo (by decide)
    | 2, lo, _ => exact absurd lo (by decide)
    | 3, lo, _ => exact absurd lo (by decide)
    | 4, lo, _ => exact absurd lo (by decide)
    | 5, lo, _ => exact absurd lo (by decide)
    | 6, lo, _ => exact absurd lo (by decide)
    | 7, lo, _ => exact absurd lo (by decide)
    | 8, lo, _ => exact absurd lo (by decide)
    | 9, lo, _ => exact absurd lo (by decide)
    | 10, lo, _ => exact absurd lo (by decide)
    | 11, lo, _ => exact absurd lo (by decide)
    | 12, lo, _ => exact absurd lo (by decide)
    | 13, lo, _ => exact absurd lo (by decide)
    | 14, lo, _ => exact absurd lo (by decide)
    | 15, lo, _ => exact absurd lo (by decide)
    | 16, lo, _ => exact absurd lo (by decide)
    | 17, lo, _ => exact absurd lo (by decide)
    | 18, lo, _ => exact absurd lo (by decide)
    | 19, lo, _ => exact absurd lo (by decide)
    | 20, lo, _ => exact absurd lo (by decide)
    | 21, lo, _ => exact absurd lo (by decide)
    | 22, _, _ => exact ⟨_, i22⟩
    | 23, _, _ => exact ⟨_, i23⟩
    | 24, _, _ => exact ⟨_, i24⟩
    | 25, _, _ => exact ⟨_, i25⟩
    | 26, _, _ => exact ⟨_, i26⟩
    | 27, _, _ => exact ⟨_, i27⟩
    | 28, _, _ => exact ⟨_, i28⟩
    | n + 29, _, h => exact absurd h (by omega)
  have tyN : ∀ k, k < 7 → mg (Str.ofString (ty k)) = none := by
    intro k hk
    match k, hk with
    | 0, _ => exact PySem.W.mg_none_of X G z_ValueError
    | 1, _ => exact PySem.W.mg_none_of X G z_KeyError
    | 2, _ => exact PySem.W.mg_none_of X G z_IndexError
    | 3, _ => exact PySem.W.mg_none_of X G z_LookupError
    | 4, _ => exact PySem.W.mg_none_of X G z_RuntimeError
    | 5, _ => exact PySem.W.mg_none_of X G z_OverflowError
    | 6, _ => exact PySem.W.mg_none_of X G z_ArithmeticError
    | n + 7, h => exact absurd h (by omega)
  have inj : ∀ i j, i < 29 → j < 29 → A i = A j → i = j := fun i j hi hj e => nd i hi j hj e
  have T : TxE K mg A I := txE inj cf ⟨hn, ht⟩ plain init tyN (PySem.W.mg_none_of X G z_isinstance) (PySem.W.mg_none_of X G z_repr) (PySem.W.mg_none_of X G z_range) (PySem.W.mg_none_of X G z_min)
  have D : TxD mg := ⟨PySem.W.mg_none_of X G z_int, PySem.W.mg_none_of X G z_len, PySem.W.mg_none_of X G z_max, PySem.W.mg_none_of X G z_abs⟩
  obtain ⟨e0, F0⟩ := F0
  obtain ⟨e1, F1⟩ := F1
  obtain ⟨e2, F2⟩ := F2
  obtain ⟨e3, F3⟩ := F3
  obtain ⟨e4, F4⟩ := F4
  obtain ⟨e5, F5⟩ := F5
  obtain ⟨e6, F6⟩ := F6
  obtain ⟨e7, F7⟩ := F7
  obtain ⟨e8, F8⟩ := F8
  obtain ⟨e9, F9⟩ := F9
  obtain ⟨e10, F10⟩ := F10
  obtain ⟨e11, F11⟩ := F11
  have b0 : Binds K e0 ["_law_script", "_law_spot"] [] := F0.binds (ps := ["_law_script", "_law_spot"]) fun _ _ _ _ _ _ us hl => match us, hl with | [_, _], _ => rfl
  have b1 : Binds K e1 ["_law_dice_here", "_law_total"] [] := F1.binds (ps := ["_law_dice_here", "_law_total"]) fun _ _ _ _ _ _ us hl => match us, hl with | [_, _], _ => rfl
  have b2 : Binds K e2 ["_law_dice_here", "_law_items"] [] := F2.binds (ps := ["_law_dice_here", "_law_items"]) fun _ _ _ _ _ _ us hl => match us, hl with | [_, _], _ => rfl
  have b3 : Binds K e3 [] [] := F3.binds (ps := []) fun _ _ _ _ _ _ us hl => match us, hl with | [], _ => rfl
  have b4 : Binds K e4 ["_law_error"] [] := F4.binds (ps := ["_law_error"]) fun _ _ _ _ _ _ us hl => match us, hl with | [_], _ => rfl
  have b5 : Binds K e5 ["_law_error"] [] := F5.binds (ps := ["_law_error"]) fun _ _ _ _ _ _ us hl => match us, hl with | [_], _ => rfl
  have b6 : Binds K e6 ["_law_error"] [] := F6.binds (ps := ["_law_error"]) fun _ _ _ _ _ _ us hl => match us, hl with | [_], _ => rfl
  have b7 : Binds K e7 ["_law_error"] [] := F7.binds (ps := ["_law_error"]) fun _ _ _ _ _ _ us hl => match us, hl with | [_], _ => rfl
  have b8 : Binds K e8 ["_law_told", "_law_index"] [] := F8.binds (ps := ["_law_told", "_law_index"]) fun _ _ _ _ _ _ us hl => match us, hl with | [_, _], _ => rfl
  have b9 : Binds K e9 ["_law_told", "_law_way"] [] := F9.binds (ps := ["_law_told", "_law_way"]) fun _ _ _ _ _ _ us hl => match us, hl with | [_, _], _ => rfl
  have b10 : Binds K e10 ["_law_told", "_law_index"] [] := F10.binds (ps := ["_law_told", "_law_index"]) fun _ _ _ _ _ _ us hl => match us, hl with | [_, _], _ => rfl
  have b11 : Binds K e11 ["_law_script"] [] := F11.binds (ps := ["_law_script"]) fun _ _ _ _ _ _ us hl => match us, hl with | [_], _ => rfl
  have U : TxA K mg f4 f5 f6 e4 e5 e6 := ⟨PySem.W.mg_of X G d4, PySem.W.mg_of X G d5, PySem.W.mg_of X G d6, F4, F5, F6, b4, b5, b6⟩
  have R : TxR K mg f4 f5 f6 f7 f3 f8 f9 e4 e5 e6 e7 e3 e8 e9 := ⟨U, PySem.W.mg_of X G d7, PySem.W.mg_of X G d3, PySem.W.mg_of X G d8, PySem.W.mg_of X G d9, F7, F3, F8, F9, b7, b3, b8, b9⟩
  have L : TxL K mg f0 f1 f2 f10 e0 e1 e2 e10 := ⟨PySem.W.mg_of X G d0, PySem.W.mg_of X G d1, PySem.W.mg_of X G d2, PySem.W.mg_of X G d10, F0, F1, F2, F10, b0, b1, b2, b10⟩
  refine ⟨e11, fun s u => ?_, fun base _ _ => ok_law F11 D T R L⟩
  obtain ⟨oc, od, kV, doc, pm, an, cdv, ct, osl, ef, _⟩ := F11.ex
  rw [ef]
  exact .of_eq rfl
end Lw
open PySem PySem.W PyProof.Rows in
set_option maxRecDepth 100000 in
set_option maxHeartbeats 0 in
theorem PySem.Challenge.cw_flatwebs_k01_errors_and_what_they_keep_holds : PySem.Challenge.rw_flatwebs_k01_errors_and_what_they_keep.Holds := by
  w_on; o_law; k_head; (case hw => w_witness2)
  k_fill
  refine Fw.walkG (l := PySem.Challenge.rw_flatwebs_k01_errors_and_what_they_keep) (n := 63) (k := 5) (x := "_law_script") (CX := fun _ => L2.CX0) (sp := fun w => Lw.spLaw _) rfl (by decide) rfl ⟨rfl, by decide, by decide⟩ (fun w h Y => PySem.W.kIn_of Y) ?F (fun w H a ns hl hS => ⟨a, ns, rfl, hS, hl, fun _ => rfl⟩) (fun _ _ _ _ _ z => z)
  case F =>
    intro w mg fa h KX G hmg
    refine' Lw.all_mk KX G hmg ?a0 ?a1 ?a2 ?a3 ?a4 ?a5 ?a6 ?a7 ?a8 ?a9 ?a10 ?a11 ?a12 ?a13 ?a14 ?a15 ?a16 ?a17 ?a18 ?a19 ?a20 ?a21 ?a22 ?a23 ?a24 ?a25 ?a26 ?a27 ?a28 ?l0 ?ga0 ?gg0 ?cl0 ?kp0 ?x0 ?l1 ?ga1 ?gg1 ?cl1 ?kp1 ?x1 ?l2 ?ga2 ?gg2 ?cl2 ?kp2 ?x2 ?l3 ?ga3 ?gg3 ?cl3 ?kp3 ?x3 ?l4 ?ga4 ?gg4 ?cl4 ?kp4 ?x4 ?l5 ?ga5 ?gg5 ?cl5 ?kp5 ?x5 ?l6 ?ga6 ?gg6 ?cl6 ?kp6 ?x6 ?l7 ?ga7 ?gg7 ?cl7 ?kp7 ?x7 ?l8 ?ga8 ?gg8 ?cl8 ?kp8 ?x8 ?l9 ?ga9 ?gg9 ?cl9 ?kp9 ?x9 ?l10 ?ga10 ?gg10 ?cl10 ?kp10 ?x10 ?l11 ?ga11 ?gg11 ?cl11 ?kp11 ?x11 ?l12 ?ga12 ?gg12 ?cl12 ?kp12 ?x12 ?l13 ?ga13 ?gg13 ?cl13 ?kp13 ?x13 ?l14 ?ga14 ?gg14 ?cl14 ?kp14 ?x14 ?l15 ?ga15 ?gg15 ?cl15 ?kp15 ?x15 ?l16 ?ga16 ?gg16 ?cl16 ?kp16 ?x16 ?l17 ?ga17 ?gg17 ?cl17 ?kp17 ?x17 ?l18 ?ga18 ?gg18 ?cl18 ?kp18 ?x18 ?l19 ?ga19 ?gg19 ?cl19 ?kp19 ?x19 ?l20 ?ga20 ?gg20 ?cl20 ?kp20 ?x20 ?l21 ?ga21 ?gg21 ?cl21 ?kp21 ?x21 ?l22 ?ga22 ?gg22 ?cl22 ?kp22 ?sa22 ?nf22 ?ic22 ?ti22 ?fn22 ?l23 ?ga23 ?gg23 ?cl23 ?kp23 ?sa23 ?nf23 ?ic23 ?ti23 ?fn23 ?l24 ?ga24 ?gg24 ?cl24 ?kp24 ?sa24 ?nf24 ?ic24 ?ti24 ?fn24 ?l25 ?ga25 ?gg25 ?cl25 ?kp25 ?sa25 ?nf25 ?ic25 ?ti25 ?fn25 ?l26 ?ga26 ?gg26 ?cl26 ?kp26 ?sa26 ?nf26 ?ic26 ?ti26 ?fn26 ?l27 ?ga27 ?gg27 ?cl27 ?kp27 ?sa27 ?nf27 ?ic27 ?ti27 ?fn27 ?l28 ?ga28 ?gg28 ?cl28 ?kp28 ?sa28 ?nf28 ?ic28 ?ti28 ?fn28 ?hn ?ht ?z_int ?z_len ?z_max ?z_abs ?z_isinstance ?z_repr ?z_range ?z_min ?z_ValueError ?z_KeyError ?z_IndexError ?z_LookupError ?z_RuntimeError ?z_OverflowError ?z_ArithmeticError ?nd ?d0 ?F0 ?d1 ?F1 ?d2 ?F2 ?d3 ?F3 ?d4 ?F4 ?d5 ?F5 ?d6 ?F6 ?d7 ?F7 ?d8 ?F8 ?d9 ?F9 ?d10 ?F10 ?d11 ?F11
    (case a0 => k_is)
    (case a1 => k_is)
    (case a2 => k_is)
    (case a3 => k_is)
    (case a4 => k_is)
    (case a5 => k_is)
    (case a6 => k_is)
    (case a7 => k_is)
    (case a8 => k_is)
    (case a9 => k_is)
    (case a10 => k_is)
    (case a11 => k_is)
    (case a12 => k_is)
    (case a13 => k_is)
    (case a14 => k_is)
    (case a15 => k_is)
    (case a16 => k_is)
    (case a17 => k_is)
    (case a18 => k_is)
    (case a19 => k_is)
    (case a20 => k_is)
    (case a21 => k_is)
    (case a22 => k_is)
    (case a23 => k_is)
    (case a24 => k_is)
    (case a25 => k_is)
    (case a26 => k_is)
    (case a27 => k_is)
    (case a28 => k_is)
    (case l0 => exact ⟨_, _, _, _, _, _, _, _, _, _, _, _, _, _, by k_is⟩)
    (case ga0 => k_is)
    (case gg0 => k_is)
    (case cl0 => k_is)
    (case kp0 => k_is)
    (case x0 => k_exc)
    (case l1 => exact ⟨_, _, _, _, _, _, _, _, _, _, _, _, _, _, by k_is⟩)
    (case ga1 => k_is)
    (case gg1 => k_is)
    (case cl1 => k_is)
    (case kp1 => k_is)
    (case x1 => k_exc)
    (case l2 => exact ⟨_, _, _, _, _, _, _, _, _, _, _, _, _, _, by k_is⟩)
    (case ga2 => k_is)
    (case gg2 => k_is)
    (case cl2 => k_is)
    (case kp2 => k_is)
    (case x2 => k_exc)
    (case l3 => exact ⟨_, _, _, _, _, _, _, _, _, _, _, _, _, _, by k_is⟩)
    (case ga3 => k_is)
    (case gg3 => k_is)
    (case cl3 => k_is)
    (case kp3 => k_is)
    (case x3 => k_exc)
    (case l4 => exact ⟨_, _, _, _, _, _, _, _, _, _, _, _, _, _, by k_is⟩)
    (case ga4 => k_is)
    (case gg4 => k_is)
    (case cl4 => k_is)
    (case kp4 => k_is)
    (case x4 => k_exc)
    (case l5 => exact ⟨_, _, _, _, _, _, _, _, _, _, _, _, _, _, by k_is⟩)
    (case ga5 => k_is)
    (case gg5 => k_is)
    (case cl5 => k_is)
    (case kp5 => k_is)
    (case x5 => k_exc)
    (case l6 => exact ⟨_, _, _, _, _, _, _, _, _, _, _, _, _, _, by k_is⟩)
    (case ga6 => k_is)
    (case gg6 => k_is)
    (case cl6 => k_is)
    (case kp6 => k_is)
    (case x6 => k_exc)
    (case l7 => exact ⟨_, _, _, _, _, _, _, _, _, _, _, _, _, _, by k_is⟩)
    (case ga7 => k_is)
    (case gg7 => k_is)
    (case cl7 => k_is)
    (case kp7 => k_is)
    (case x7 => k_exc)
    (case l8 => exact ⟨_, _, _, _, _, _, _, _, _, _, _, _, _, _, by k_is⟩)
    (case ga8 => k_is)
    (case gg8 => k_is)
    (case cl8 => k_is)
    (case kp8 => k_is)
    (case x8 => k_exc)
    (case l9 => exact ⟨_, _, _, _, _, _, _, _, _, _, _, _, _, _, by k_is⟩)
    (case ga9 => k_is)
    (case gg9 => k_is)
    (case cl9 => k_is)
    (case kp9 => k_is)
    (case x9 => k_exc)
    (case l10 => exact ⟨_, _, _, _, _, _, _, _, _, _, _, _, _, _, by k_is⟩)
    (case ga10 => k_is)
    (case gg10 => k_is)
    (case cl10 => k_is)
    (case kp10 => k_is)
    (case x10 => k_exc)
    (case l11 => exact ⟨_, _, _, _, _, _, _, _, _, _, _, _, _, _, by k_is⟩)
    (case ga11 => k_is)
    (case gg11 => k_is)
    (case cl11 => k_is)
    (case kp11 => k_is)
    (case x11 => k_exc)
    (case l12 => exact ⟨_, _, _, _, _, _, _, _, _, _, _, _, _, _, by k_is⟩)
    (case ga12 => k_is)
    (case gg12 => k_is)
    (case cl12 => k_is)
    (case kp12 => k_is)
    (case x12 => k_exc)
    (case l13 => exact ⟨_, _, _, _, _, _, _, _, _, _, _, _, _, _, by k_is⟩)
    (case ga13 => k_is)
    (case gg13 => k_is)
    (case cl13 => k_is)
    (case kp13 => k_is)
    (case x13 => k_exc)
    (case l14 => exact ⟨_, _, _, _, _, _, _, _, _, _, _, _, _, _, by k_is⟩)
    (case ga14 => k_is)
    (case gg14 => k_is)
    (case cl14 => k_is)
    (case kp14 => k_is)
    (case x14 => k_exc)
    (case l15 => exact ⟨_, _, _, _, _, _, _, _, _, _, _, _, _, _, by k_is⟩)
    (case ga15 => k_is)
    (case gg15 => k_is)
    (case cl15 => k_is)
    (case kp15 => k_is)
    (case x15 => k_exc)
    (case l16 => exact ⟨_, _, _, _, _, _, _, _, _, _, _, _, _, _, by k_is⟩)
    (case ga16 => k_is)
    (case gg16 => k_is)
    (case cl16 => k_is)
    (case kp16 => k_is)
    (case x16 => k_exc)
    (case l17 => exact ⟨_, _, _, _, _, _, _, _, _, _, _, _, _, _, by k_is⟩)
    (case ga17 => k_is)
    (case gg17 => k_is)
    (case cl17 => k_is)
    (case kp17 => k_is)
    (case x17 => k_exc)
    (case l18 => exact ⟨_, _, _, _, _, _, _, _, _, _, _, _, _, _, by k_is⟩)
    (case ga18 => k_is)
    (case gg18 => k_is)
    (case cl18 => k_is)
    (case kp18 => k_is)
    (case x18 => k_exc)
    (case l19 => exact ⟨_, _, _, _, _, _, _, _, _, _, _, _, _, _, by k_is⟩)
    (case ga19 => k_is)
    (case gg19 => k_is)
    (case cl19 => k_is)
    (case kp19 => k_is)
    (case x19 => k_exc)
    (case l20 => exact ⟨_, _, _, _, _, _, _, _, _, _, _, _, _, _, by k_is⟩)
    (case ga20 => k_is)
    (case gg20 => k_is)
    (case cl20 => k_is)
    (case kp20 => k_is)
    (case x20 => k_exc)
    (case l21 => exact ⟨_, _, _, _, _, _, _, _, _, _, _, _, _, _, by k_is⟩)
    (case ga21 => k_is)
    (case gg21 => k_is)
    (case cl21 => k_is)
    (case kp21 => k_is)
    (case x21 => k_exc)
    (case l22 => exact ⟨_, _, _, _, _, _, _, _, _, _, _, _, _, _, by k_is⟩)
    (case ga22 => k_is)
    (case gg22 => k_is)
    (case cl22 => k_is)
    (case kp22 => k_is)
    (case sa22 => k_is)
    (case nf22 => k_is)
    (case ic22 => k_is)
    (case ti22 => k_is)
    (case fn22 => exact ⟨_, _, _, _, _, _, _, _, _, _, _, _, _, _, by k_is, by k_is⟩)
    (case l23 => exact ⟨_, _, _, _, _, _, _, _, _, _, _, _, _, _, by k_is⟩)
    (case ga23 => k_is)
    (case gg23 => k_is)
    (case cl23 => k_is)
    (case kp23 => k_is)
    (case sa23 => k_is)
    (case nf23 => k_is)
    (case ic23 => k_is)
    (case ti23 => k_is)
    (case fn23 => exact ⟨_, _, _, _, _, _, _, _, _, _, _, _, _, _, by k_is, by k_is⟩)
    (case l24 => exact ⟨_, _, _, _, _, _, _, _, _, _, _, _, _, _, by k_is⟩)
    (case ga24 => k_is)
    (case gg24 => k_is)
    (case cl24 => k_is)
    (case kp24 => k_is)
    (case sa24 => k_is)
    (case nf24 => k_is)
    (case ic24 => k_is)
    (case ti24 => k_is)
    (case fn24 => exact ⟨_, _, _, _, _, _, _, _, _, _, _, _, _, _, by k_is, by k_is⟩)
    (case l25 => exact ⟨_, _, _, _, _, _, _, _, _, _, _, _, _, _, by k_is⟩)
    (case ga25 => k_is)
    (case gg25 => k_is)
    (case cl25 => k_is)
    (case kp25 => k_is)
    (case sa25 => k_is)
    (case nf25 => k_is)
    (case ic25 => k_is)
    (case ti25 => k_is)
    (case fn25 => exact ⟨_, _, _, _, _, _, _, _, _, _, _, _, _, _, by k_is, by k_is⟩)
    (case l26 => exact ⟨_, _, _, _, _, _, _, _, _, _, _, _, _, _, by k_is⟩)
    (case ga26 => k_is)
    (case gg26 => k_is)
    (case cl26 => k_is)
    (case kp26 => k_is)
    (case sa26 => k_is)
    (case nf26 => k_is)
    (case ic26 => k_is)
    (case ti26 => k_is)
    (case fn26 => exact ⟨_, _, _, _, _, _, _, _, _, _, _, _, _, _, by k_is, by k_is⟩)
    (case l27 => exact ⟨_, _, _, _, _, _, _, _, _, _, _, _, _, _, by k_is⟩)
    (case ga27 => k_is)
    (case gg27 => k_is)
    (case cl27 => k_is)
    (case kp27 => k_is)
    (case sa27 => k_is)
    (case nf27 => k_is)
    (case ic27 => k_is)
    (case ti27 => k_is)
    (case fn27 => exact ⟨_, _, _, _, _, _, _, _, _, _, _, _, _, _, by k_is, by k_is⟩)
    (case l28 => exact ⟨_, _, _, _, _, _, _, _, _, _, _, _, _, _, by k_is⟩)
    (case ga28 => k_is)
    (case gg28 => k_is)
    (case cl28 => k_is)
    (case kp28 => k_is)
    (case sa28 => k_is)
    (case nf28 => k_is)
    (case ic28 => k_is)
    (case ti28 => k_is)
    (case fn28 => exact ⟨_, _, _, _, _, _, _, _, _, _, _, _, _, _, by k_is, by k_is⟩)
    (case hn => k_is)
    (case ht => k_is)
    (case z_int => k_is)
    (case z_len => k_is)
    (case z_max => k_is)
    (case z_abs => k_is)
    (case z_isinstance => k_is)
    (case z_repr => k_is)
    (case z_range => k_is)
    (case z_min => k_is)
    (case z_ValueError => k_is)
    (case z_KeyError => k_is)
    (case z_IndexError => k_is)
    (case z_LookupError => k_is)
    (case z_RuntimeError => k_is)
    (case z_OverflowError => k_is)
    (case z_ArithmeticError => k_is)
    (case nd => decide +kernel)
    (case d0 => k_is)
    (case F0 => exact ⟨_, ⟨⟨_, _, _, _, _, _, _, _, _, rfl, by k_is, by k_is⟩, by k_is⟩⟩)
    (case d1 => k_is)
    (case F1 => exact ⟨_, ⟨⟨_, _, _, _, _, _, _, _, _, rfl, by k_is, by k_is⟩, by k_is⟩⟩)
    (case d2 => k_is)
    (case F2 => exact ⟨_, ⟨⟨_, _, _, _, _, _, _, _, _, rfl, by k_is, by k_is⟩, by k_is⟩⟩)
    (case d3 => k_is)
    (case F3 => exact ⟨_, ⟨⟨_, _, _, _, _, _, _, _, _, rfl, by k_is, by k_is⟩, by k_is⟩⟩)
    (case d4 => k_is)
    (case F4 => exact ⟨_, ⟨⟨_, _, _, _, _, _, _, _, _, rfl, by k_is, by k_is⟩, by k_is⟩⟩)
    (case d5 => k_is)
    (case F5 => exact ⟨_, ⟨⟨_, _, _, _, _, _, _, _, _, rfl, by k_is, by k_is⟩, by k_is⟩⟩)
    (case d6 => k_is)
    (case F6 => exact ⟨_, ⟨⟨_, _, _, _, _, _, _, _, _, rfl, by k_is, by k_is⟩, by k_is⟩⟩)
    (case d7 => k_is)
    (case F7 => exact ⟨_, ⟨⟨_, _, _, _, _, _, _, _, _, rfl, by k_is, by k_is⟩, by k_is⟩⟩)
    (case d8 => k_is)
    (case F8 => exact ⟨_, ⟨⟨_, _, _, _, _, _, _, _, _, rfl, by k_is, by k_is⟩, by k_is⟩⟩)
    (case d9 => k_is)
    (case F9 => exact ⟨_, ⟨⟨_, _, _, _, _, _, _, _, _, rfl, by k_is, by k_is⟩, by k_is⟩⟩)
    (case d10 => k_is)
    (case F10 => exact ⟨_, ⟨⟨_, _, _, _, _, _, _, _, _, rfl, by k_is, by k_is⟩, by k_is⟩⟩)
    (case d11 => k_is)
    (case F11 => exact ⟨_, ⟨⟨_, _, _, _, _, _, _, _, _, rfl, by k_is, by k_is⟩, by k_is⟩⟩)

