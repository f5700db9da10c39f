import PyProof.Rows.All
import Wide.All
import OpenK.AllK
import Wide.FinOn
import KE.KStateDown
import HandS.ForMost
import HandS.FStr
import HandS.IsInst
import HandS.Wide
import HandS.SlotsOwn
import HandS.Defaults
import HandS.Head0
import HandS.Head1
import HandS.Head2
import HandS.HeadEnd
import HandS.HeadHook1
import HandS.HeadHook2
import HandS.Style
import HandS.DictComp
import PyProof.ReprRoads
import PySem.Challenge.RW_quietedition_k16_first_blocks
import HandS.Walk
set_option Elab.async false
set_option linter.all false
set_option maxRecDepth 100000
set_option maxHeartbeats 0
namespace Cm
open PySem PySem.Spec PyProof.Rows L2

/-! ### defs, methods, makers of the module, each as one fact -/
/-- the module's name x is a def that keeps sp at level k -/
def Cal (P : Program) (w : World) (K : PySem.W.Frag) (mg : Str → Option Value) (base : Heap) (k : Nat) (x : Str) (sp : Sp) : Prop :=
  ∃ f fd ps, FnOk P w K mg base CX0 k f fd ps sp ∧ Binds K fd ps [] ∧ mg x = some (.ref f) ∧ PySem.W.keepIn K (.ref f) = true
/-- the class at C has the method m, which keeps sp at level k -/
def MCal (P : Program) (w : World) (K : PySem.W.Frag) (mg : Str → Option Value) (base : Heap) (k : Nat) (C : Addr) (m : Str) (sp : Sp) : Prop :=
  Cls K C ∧ ∃ f fd ps, FnOk P w K mg base CX0 k f fd ps sp ∧ Binds K fd ps [] ∧ Meth K C m f
/-- the module's name x is the class at C, whose maker keeps sp; dv fills up -/
def KCal (P : Program) (w : World) (K : PySem.W.Frag) (mg : Str → Option Value) (base : Heap) (k : Nat) (x : Str) (C : Addr) (sp : Sp) (dv : List V) : Prop :=
  mg x = some (.ref C) ∧ ∃ f fd ps ds, Mk K C f ∧ FnOk P w K mg base CX0 k f fd ps sp ∧ Binds K fd ps ds ∧ Vals dv ds
section
variable {X : Cx} {j k : Nat} {x m : Str} {C : Addr} {sp : Sp} {dv : List V} {e o : Expr} {es : List Expr} {p pos apos : Pos} {t : TA} {ta : TE}
theorem pe_cal (c : Cal X.prog X.w X.K X.mg X.base k x sp) (hr : Room j X.A) (hk : k ≤ j) (ha : PA X (e :: es) t) (hg : Gl X x := by rfl) (hd : (x == ("__debug__" : Str)) = false := by decide)
    (h1 : starEach (e :: es) X.env = (false, eval e X.env) :: starEach es X.env := by rfl) (h2 : (backTo pos (starEach es X.env)).any (·.1) = false := by rfl) :
    PE X (.Call (.Name x p) (e :: es) [] pos) (tCall sp [] E0 t) := by
  obtain ⟨f, fd, ps, F, b, g, kp⟩ := c
  exact pe_call F (hr.mono hk) hg g kp b .nil pass0 ha hd h1 h2
theorem pe_kal (c : KCal X.prog X.w X.K X.mg X.base k x C sp dv) (hr : Room j X.A) (hk : k + 1 ≤ j) (ha : PA X (e :: es) t) (hg : Gl X x := by rfl) (hd : (x == ("__debug__" : Str)) = false := by decide)
    (h1 : starEach (e :: es) X.env = (false, eval e X.env) :: starEach es X.env := by rfl) (h2 : (backTo pos (starEach es X.env)).any (·.1) = false := by rfl) :
    PE X (.Call (.Name x p) (e :: es) [] pos) (tMake C sp dv E0 t) := by
  obtain ⟨g, f, fd, ps, ds, M, F, b, v⟩ := c
  exact pe_make M F (hr.mono hk) hg g b v pass0 ha hd h1 h2
theorem pe_mcal0 {pl : Sem Bool} (c : MCal X.prog X.w X.K X.mg X.base k C m sp) (hr : Room j X.A) (hk : k ≤ j) (ho : PE X o ta)
    (ht : eval (.Call (.Attribute o m apos) [] [] pos) X.env = (do
      let ov ← eval o X.env
      standAt apos.atName
      let (f, first) ← holding [ov] (getMethod ov m pl)
      callWith pos f first (backTo pos (starEach [] X.env)) (backToKw pos (keywordEach [] X.env))) := by rfl) : PE X (.Call (.Attribute o m apos) [] [] pos) (tMeth C m sp [] E0 ta tNil) := by
  obtain ⟨cl, f, fd, ps, F, b, M⟩ := c
  exact pe_meth0 ho cl M F (hr.mono hk) b .nil pass0 ht
/-- two readings of one expression -/
theorem PE.or2 {t1 t2 : TE} (h1 : PE X e t1) (h2 : PE X e t2) : PE X e (fun σ H Q => t1 σ H Q ∨ t2 σ H Q) :=
  ⟨fun pins s σ H Q I h => h.elim (h1.run pins s σ H Q I) (h2.run pins s σ H Q I)⟩
end
theorem MCal.mono {P : Program} {w : World} {K : PySem.W.Frag} {mg : Str → Option Value} {base : Heap} {j k : Nat} {C : Addr} {m : Str} {sp : Sp} (h : MCal P w K mg base j C m sp) (l : j ≤ k) : MCal P w K mg base k C m sp :=
  let ⟨c, f, fd, ps, F, r⟩ := h; ⟨c, f, fd, ps, F.mono l, r⟩
/-! ### methods and == of an instance whose class the reading tells -/
def tMG (P : Program) (w : World) (K : PySem.W.Frag) (mg : Str → Option Value) (base : Heap) (k : Nat) (m : Str) (ta : TE) : TE := fun σ H Q =>
  ta σ H fun x H1 => ∃ a C dx fs sp, x = .ref a ∧ H1 a = some (.ins C dx fs) ∧ fs.lookup m = none ∧ MCal P w K mg base k C m sp ∧ sp [.ref a] H1 Q E0
def rOwnG (P : Program) (w : World) (K : PySem.W.Frag) (mg : Str → Option Value) (base : Heap) (k : Nat) (m : Str) : R2 := fun x y H Q =>
  ∃ a C dx fs sp, x = .ref a ∧ H a = some (.ins C dx fs) ∧ MCal P w K mg base k C m sp ∧
    ((∃ b D dy gs, y = .ref b ∧ H b = some (.ins D dy gs) ∧ PySem.W.notFirst K C (.ref D) = true) ∨ (∃ z, y = .str z ∧ PySem.W.notFirst K C (.type "str") = true)) ∧ sp [x, y] H Q E0
section
variable {X : Cx} {j k : Nat} {m : Str} {o : Expr} {pos apos : Pos} {ta : TE}
theorem pe_mG {pl : Sem Bool} (hr : Room j X.A) (hk : k ≤ j) (he : PE X o ta)
    (ht : eval (.Call (.Attribute o m apos) [] [] pos) X.env = (do
      let ov ← eval o X.env
      standAt apos.atName
      let (f, first) ← holding [ov] (getMethod ov m pl)
      callWith pos f first (backTo pos (starEach [] X.env)) (backToKw pos (keywordEach [] X.env))) := by rfl) : PE X (.Call (.Attribute o m apos) [] [] pos) (tMG X.prog X.w X.K X.mg X.base k m ta) := by
  constructor
  intro pins s σ H Q I h
  refine PySem.W.methodCall_KW (pl := pl) (thn (he.run pins s σ H _ I h) ?_) ht
  rintro u s1 ⟨x, H1, I1, rx, a, C, dx, fs, sp, ex, ea, l, ⟨c, f, fd, ps, F, b, M⟩, q⟩
  subst ex
  cases (show u = Value.ref a from rx)
  refine getmeth_ok I1 ea c M l ?_
  exact PySem.W.callWith_K0 (first := [.ref a]) I1.kIn M.kp (run_fn (vs := [.ref a]) F (hr.mono hk) b .nil pass0 I1 (.cons rfl .nil) q)
theorem op_ownG (hr : Room j X.A) (hk : k ≤ j) : OpR X (compareOp .Eq) (rOwnG X.prog X.w X.K X.mg X.base k "__eq__") := by
  intro pins s σ H x y v u Q I rx ry h
  obtain ⟨a, C, dx, fs, sp, ex, ha, ⟨c, f, fd, ps, F, b, M⟩, hy, q⟩ := h
  subst ex
  cases (show v = Value.ref a from rx)
  obtain ⟨mA, O, _⟩ := ins_get I.hok ha
  obtain ⟨od, J, _⟩ := O.look
  obtain ⟨mm, hF⟩ := I.fr
  have go : ∀ tb, PySem.W.Looks (model X.prog X.w) s.heap (typeOf u) tb → PySem.W.notFirst X.K C tb = true → wpAny (model X.prog X.w) X.A (compareOp .Eq (.ref a) u) (EP X pins σ Q) X.xe s := by
    intro tb hb hn
    show wpAny _ X.A (richCompare .Eq (.ref a) u) _ _ s
    refine PySem.W.cmp_K (op := .Eq) hr.units0 hF I.ok.mod.kin J hb hn M.at_ M.fn ?_
    refine wpAny_mono (run_fn (us := [.ref a, u]) (vs := [.ref a, y]) F (hr.mono hk) b .nil pass0 I (.cons rfl (.cons ry .nil)) q) ?_ fun _ _ z => z
    rintro r s' ⟨z, H', I', rz, qz⟩
    exact SlX.cmpback rz ⟨z, H', I', rz, qz⟩
  rcases hy with ⟨b', D, dy, gs, ey, hb, hn⟩ | ⟨z, ey, hn⟩
  · subst ey
    cases (show u = Value.ref b' from ry)
    obtain ⟨mB, O', _⟩ := ins_get I.hok hb
    obtain ⟨od', J', _⟩ := O'.look
    exact go _ J'.type hn
  · subst ey
    obtain ⟨t, e⟩ := (show ∃ t, u = Value.str z t from ry)
    cases e
    exact go (.type "str") .now hn
end
/-! ### an instance of a class without a maker of its own -/
section
variable {X : Cx} {x : Str} {C : Addr} {p pos : Pos}
/-- C() where no __init__ stands but object's -/
def tMk0 (C : Addr) : TE := fun _ H Q => ∀ y dx, H y = none → H dx = none → dx ≠ y → Q (.ref y) (upd (upd H dx (.own y)) y (.ins C dx []))
theorem pe_mk0 (hm : PySem.W.makesIn X.K C = true) (hi : PySem.W.findIn X.K (.ref C) "__init__" = some (some (.builtin "object.__init__"))) (kp : PySem.W.keepIn X.K (.ref C) = true) (g : X.mg x = some (.ref C)) (hg : Gl X x := by rfl)
    (hd : (x == ("__debug__" : Str)) = false := by decide) : PE X (.Call (.Name x p) [] [] pos) (tMk0 C) := by
  constructor
  intro pins s σ H Q I h
  refine wpAny_Call_Name_kw (ld_glob I hg g ?_ hd)
  refine PySem.W.callWith_K0 I.kIn kp ?_
  have I2 := Inv.made (C := C) I
  have q := h (s.heap.objs.size + 1) s.heap.objs.size (I.hok.fresh (Nat.le_succ _)) (I.hok.fresh (Nat.le_refl _)) (Nat.ne_of_lt (Nat.lt_succ_self _))
  have Y := PySem.W.makes_of (M := model X.prog X.w) I.kIn hm
  refine wpAny_call (make_map0 I.kIn hm hi (fun self => PySem.W.Looks.of_pure (PySem.W.oi_bind self)) ?_)
  have e2 : ((s.heap.push PySem.W.emptyDict).push (PySem.W.instObj C s.heap.objs.size)).get? (s.heap.objs.size + 1) = some (PySem.W.instObj C s.heap.objs.size) := by
    have z := Heap.get?_push_size (s.heap.push PySem.W.emptyDict) (o := PySem.W.instObj C s.heap.objs.size) rfl
    rwa [Heap.size_push] at z
  have t1 : PySem.W.Looks (model X.prog X.w) ((s.heap.push PySem.W.emptyDict).push (PySem.W.instObj C s.heap.objs.size)) (typeOf (.ref (s.heap.objs.size + 1))) (.ref C) := (PySem.W.Looks.ld e2).andThen .now
  have t2 : PySem.W.Looks (model X.prog X.w) ((s.heap.push PySem.W.emptyDict).push (PySem.W.instObj C s.heap.objs.size)) (isInstance (.ref (s.heap.objs.size + 1)) (.type "object")) true :=
    t1.andThen (Y.top.keeps fun b o e => Heap.get?_push_of_some _ (Heap.get?_push_of_some _ e))
  refine codeAny_call_builtin PySem.W.oi_plain PySem.W.entry_oi (@PySem.W.check_slot (model X.prog X.w) _ _ _ "object.__init__" "object" "__init__" (.ref (s.heap.objs.size + 1)) [] [] _ PySem.W.oi_kind PySem.W.oi_split t2 (PySem.W.oi_args _) ?_)
  rw [PySem.W.oi_run]
  exact wpAny_pure (And.intro rfl ⟨V.ref _, _, I2, rfl, q⟩)
end
/-! ### a def of the text keeps its promise -/
section
variable {P : Program} {w : World} {K : PySem.W.Frag} {mg : Str → Option Value} {base : Heap} {x qual : Str} {a : Arguments} {b : List Stmt} {sc : Scope} {dv : List V} {f : Addr} {fd : FuncData} {N ps : List Str} {k : Nat} {sp : Sp}
theorem fnok (F : FunD K x qual a b sc dv [] f fd) (S : FnScope N ps sc) (len : ∀ vs H Q E, sp vs H Q E → vs.length = ps.length)
    (body : ∀ (cdv : Value) (A : Around) (outer : List Env) (s : Shared) (H : Hp) (vs : List V) (Q : VK) (E : XK), Room k (A.deeper (envOfC qual sc s.heap.objs.size f cdv)) → sp vs H Q E →
      ∃ t, PSs (cxOf CX0 P w K mg base N qual sc f cdv A outer s H E).nox b t ∧ t { nx := fun _ H' => Q .non H', rt := Q } (start N vs) H) : FnOk P w K mg base CX0 (k + 1) f fd ps sp :=
  F.ok S len fun cdv A outer s H vs Q E hr h => let ⟨t, d, q⟩ := body cdv A outer s H vs Q E hr h; ⟨t, d.nox, q⟩
end
/-! ### heaps: all but p is kept -/
def Kp (p : Addr) (H H' : Hp) : Prop := ∀ a o, a ≠ p → H a = some o → H' a = some o
theorem Kp.refl {p : Addr} {H : Hp} : Kp p H H := fun _ _ _ h => h
theorem Kp.trans {p : Addr} {H H1 H2 : Hp} (a : Kp p H H1) (b : Kp p H1 H2) : Kp p H H2 := fun c o n h => b c o n (a c o n h)
theorem Kp.at {p : Addr} {H H' : Hp} {o : HO} (a : Kp p H H') : Kp p H (upd H' p o) := fun c u n h => by rw [upd_ne n]; exact a c u n h
theorem Kp.new {p q : Addr} {H H' : Hp} {o : HO} (a : Kp p H H') (h : H' q = none) : Kp p H (upd H' q o) := fun c u n e => by
  rw [upd_ne (ne_of_none (a c u n e) h)]; exact a c u n e
theorem Kp.rd {p a : Addr} {H H' : Hp} {u : HO} (k : Kp p H H') (n : a ≠ p) (h : Rd H a u) : Rd H' a u := h.elim (fun h => .inl (k _ _ n h)) fun ⟨o, h⟩ => .inr ⟨o, k _ _ n h⟩
theorem Kp.sl {K : PySem.W.Frag} {p a : Addr} {H H' : Hp} {xs : List V} (k : Kp p H H') (n : a ≠ p) (h : SqL K H a xs) : SqL K H' a xs := h.elim (fun h => .inl (k.rd n h)) .inr
theorem Kp.st {K : PySem.W.Frag} {p a : Addr} {H H' : Hp} {xs : List V} (k : Kp p H H') (n : a ≠ p) (h : SqT K H a xs) : SqT K H' a xs := h.elim (fun h => .inl (k.rd n h)) .inr
theorem sz1 {n : Nat} (h : n ≤ 100000) : n ≤ sizeLine := Nat.le_trans h (by decide)
theorem sz2 {n : Nat} (h : n ≤ 100000) : n < sizeLine := Nat.lt_of_le_of_lt h (by decide)
theorem log_of {i : Int} (h : i.natAbs < 2 ^ 1000) : i.natAbs.log2 < 1920 := Nat.lt_of_lt_of_le (PySem.Flt.log2_lt_of (by decide) h) (by decide)
/-! ### texts -/
theorem app_len (a b : Str) : (a ++ b).length = a.length + b.length := by
  show (a.cps ++ b.cps).size = a.cps.size + b.cps.size
  exact Array.size_append
theorem emp_app (a : Str) : Str.empty ++ a = a := by
  show (⟨#[] ++ a.cps⟩ : Str) = a
  rw [Array.empty_append]
theorem app_assoc (a b c : Str) : a ++ b ++ c = a ++ (b ++ c) := by
  show (⟨a.cps ++ b.cps ++ c.cps⟩ : Str) = ⟨a.cps ++ (b.cps ++ c.cps)⟩
  rw [Array.append_assoc]
/-! ### tests -/
theorem tT {c A B : Prop} [Decidable c] (h : c) (a : A) : if decide c = true then A else B := by
  rw [decide_eq_true h]; exact iteT a
theorem tF {c A B : Prop} [Decidable c] (h : ¬ c) (b : B) : if decide c = true then A else B := by
  rw [decide_eq_false h]; exact iteF b
theorem uT {c A B : Prop} [Decidable c] (h : ¬ c) (a : A) : if (!decide c) = true then A else B := by
  rw [decide_eq_false h]; exact iteT a
theorem uF {c A B : Prop} [Decidable c] (h : c) (b : B) : if (!decide c) = true then A else B := by
  rw [decide_eq_true h]; exact iteF b
theorem bT {b : Bool} {A B : Prop} (h : b = true) (a : A) : if b = true then A else B := by rw [h]; exact iteT a
theorem bF {b : Bool} {A B : Prop} (h : b = false) (a : B) : if b = true then A else B := by rw [h]; exact iteF a
theorem dC {c A B : Prop} [Decidable c] (hT : c → A) (hF : ¬ c → B) : if decide c = true then A else B := by
  by_cases h : c
  · exact tT h (hT h)
  · exact tF h (hF h)
theorem uC {c A B : Prop} [Decidable c] (hT : ¬ c → A) (hF : c → B) : if (!decide c) = true then A else B := by
  by_cases h : c
  · exact uF h (hF h)
  · exact uT h (hT h)
theorem bC {b : Bool} {A B : Prop} (hT : b = true → A) (hF : b = false → B) : if b = true then A else B := by
  cases h : b
  · exact iteF (hF h)
  · exact iteT (hT h)
/-! ### attributes -/
theorem fl1 {f : Str} {v : V} {fs : List (Str × V)} : (putF f v fs).lookup f = some v := by rw [lookup_putF, if_pos rfl]
theorem fl2 {f g : Str} {v : V} {fs : List (Str × V)} {o : Option V} (h : ¬ g = f) (e : fs.lookup g = o) : (putF f v fs).lookup g = o := by rw [lookup_putF, if_neg h, e]
theorem fn0 : ([] : List (Str × V)).length < 1000 := by decide
theorem fnS {f : Str} {v : V} {fs : List (Str × V)} (h : fs.length < 900) : (putF f v fs).length < 1000 := by
  have := length_putF f v fs; omega
theorem fs0 : ([] : List (Str × V)).length < 900 := by decide
theorem fs1 {f : Str} {v : V} {fs : List (Str × V)} (h : fs.length < 800) : (putF f v fs).length < 900 := by
  have := length_putF f v fs; omega
end Cm
namespace Cm
open PySem PySem.Spec PyProof.Rows L2
/-! ### a def called where the guards are known (for repr of lists) -/
/-- the def at f keeps sp when it is called at A -/
def At1 (P : Program) (w : World) (K : PySem.W.Frag) (mg : Str → Option Value) (base : Heap) (CX : CXT) (A : Around) (f : Addr) (fd : FuncData) (x : Str) (sp : Sp) : Prop :=
  ∀ (s : Shared) (G : Hp) (u : Value) (v : V) (Q : VK) (E : XK), Env0 P w K mg base A [] s G → BindsTo s fd ⟨[u], []⟩ [(x, u)] → RelV v u → sp [v] G Q E → codeAny (model P w) A (.call (.ref f) ⟨[u], []⟩) (CR CX [] P w G s Q E) s
theorem at1 {CX : CXT} {P : Program} {w : World} {K : PySem.W.Frag} {mg : Str → Option Value} {base : Heap} {k : Nat} {f : Addr} {x qual y : Str} {params : Arguments} {body : List Stmt} {sc : Scope} {dvs : List V} {fd : FuncData} {N : List Str} {sp : Sp} {A : Around}
    (F : FunD K x qual params body sc dvs [] f fd) (S : FnScope N [y] sc) (hA : Room (k + 1) A)
    (hb : ∀ (cdv : Value) (s : Shared) (G : Hp) (v : V) (Q : VK) (E : XK), Room k (A.deeper (envOfC qual sc s.heap.objs.size f cdv)) → sp [v] G Q E →
      ∃ t, PSs (cxOf CX P w K mg base N qual sc f cdv A [] s G E) body t ∧ t { nx := fun _ G' => Q .non G', rt := Q } (start N [v]) G) : At1 P w K mg base CX A f fd y sp := by
  intro s G u v Q E e0 bd rv q
  obtain ⟨oc, od, dV, kV, doc, pm, an, cdv, ct, osl, efd, lk, code, _, _⟩ := F.ex
  subst efd
  have inK : K.In s.heap := e0.mod.kin.keeps fun b o z => (e0.bs b o z).1
  have kinds : ∀ z ∈ [y].zip [u], sc.names.lookup z.1 = some .local ∨ (sc.names.lookup z.1 = some .cell ∧ ((cellsFrom (s.heap.objs.size + 1) sc.names []).lookup z.1).isSome = true) := by
    rintro ⟨n, z⟩ hz
    exact (S.par n (List.of_mem_zip hz).1).imp id fun q => ⟨q, PySem.W.cellsFrom_some _ _ _ (.inl q)⟩
  refine codeAny_call_function hA.depth (inK _ _ lk) rfl S.co S.gen rfl (PySem.W.codeRec_of inK code) (bd _ _ _ _ ?_)
  refine wpAny_newFunctionEnv_cells S.kind kinds fun env ee s1 hx => ?_
  subst ee
  refine ⟨(e0.mod.nolimit.keeps fun b o z => (e0.bs b o z).1).keeps hx.toInCall.keep, codeAny_func ?_⟩
  obtain ⟨t, d, dq⟩ := hb cdv s G v Q E (hA.deeper _) q
  have I : Inv (cxOf CX P w K mg base N qual sc f cdv A [] s G E) [] (start N [v]) G s1 := inv_start S hA.hd e0 rfl (.cons rv .nil) hx
  refine wpAny_mono (d.run [] s1 (start N [v]) G _ I dq) (fun fl s2 z => ?_) fun e s2 z => z
  cases fl with
  | ret r =>
    obtain ⟨y, σ, G2, J, ry, qy⟩ := z
    exact ⟨y, G2, J.os, J.bare, J.base, J.hok, ry, qy⟩
  | next =>
    obtain ⟨σ, G2, J, qy⟩ := z
    exact ⟨V.non, G2, J.os, J.bare, J.base, J.hok, rfl, qy⟩
  | brk => obtain ⟨_, _, _, z⟩ := z; exact z.elim
  | cont => obtain ⟨_, _, _, z⟩ := z; exact z.elim
theorem law_at {P : Program} {w : World} {K : PySem.W.Frag} {mg mb : Str → Option Value} {CX : CXT} {fa p : Addr} {fd : FuncData} {x : Str} {sp : Sp} {s : Shared} {us : List Value} {ns : List Int}
    (inK : K.In s.heap) (gs : s.heap.Ns mainGlobals mg) (bs : s.heap.Ns builtinsNs mb) (bb : ∀ x : Str, x ≠ "__name__" → mb x = bootBuiltins x) (lim : s.heap.NoLimit) (ge : s.gens = #[])
    (hp : s.heap.get? p = some { cls := .type "list", data := .seq us.toArray }) (hi : IntsAre us ns) (sz : ns.length ≤ sizeLine)
    (F : ∀ base : Heap, K.In base → base.Ns mainGlobals mg → At1 P w K mg base CX callerA fa fd x sp) (bd : ∀ (s : Shared) (u : Value), BindsTo s fd ⟨[u], []⟩ [(x, u)])
    (hs : ∀ G : Hp, Only G → SqL K G p (ns.map V.int) → sp [.ref p] G (fun v _ => v = .bl true) fun _ _ _ => False)
    (hx : ∀ G e s', CX [] G s (fun _ _ _ => False) e s' → False) :
    codeAny (model P w) callerA (.call (.ref fa) ⟨[.ref p], []⟩) (fun r s' => r = .ok (.ret (.bool true)) ∧ OldK s.heap s'.heap ∧ s'.os = s.os ∧ AllBare s'.gens) s := by
  have rv := vals_ints hi
  have lv := hi.length
  have main : ∀ G : Hp, Only G → SqL K G p (ns.map V.int) → HOk P w G s.heap → (∀ b, G b ≠ none → b = p) → (G p ≠ none → K.lookup p = none) →
      codeAny (model P w) callerA (.call (.ref fa) ⟨[.ref p], []⟩) (fun r s' => r = .ok (.ret (.bool true)) ∧ OldK s.heap s'.heap ∧ s'.os = s.os ∧ AllBare s'.gens) s := by
    intro G only sq ok own away
    have only1 : ∀ {b : Addr}, G b ≠ none → s.heap.get? b = some { cls := .type "list", data := .seq us.toArray } := fun n => by rw [own _ n]; exact hp
    have nod : ∀ {b : Addr} {o : Obj} {es : Array DictEntry} {ep : Nat}, s.heap.get? b = some o → o.data = .dict es ep → G b = none := by
      intro b o es ep e d
      cases g : G b with
      | none => rfl
      | some u =>
        have e2 := only1 (b := b) (by rw [g]; exact nofun)
        rw [e] at e2
        cases e2
        cases (show Data.seq us.toArray _ = Data.dict es ep from d)
    have ns2 : ∀ {b : Addr} {m : Str → Option Value}, s.heap.Ns b m → (hidT s.heap G).Ns b m := by
      rintro b m ⟨o, es, ep, e, d, r⟩
      exact ⟨o, es, ep, hidT_get e (nod e d), d, r⟩
    have inH : K.In (hidT s.heap G) := by
      intro b o e
      refine hidT_get (inK b o e) ?_
      cases g : G b with
      | none => rfl
      | some u =>
        have n : G b ≠ none := by rw [g]; exact nofun
        have eb := own b n
        subst eb
        rw [away n] at e
        cases e
    have md : Mod K mg (hidT s.heap G) := by
      obtain ⟨mc, l1, l2⟩ := lim
      exact ⟨inH, ns2 gs, ⟨mb, ns2 bs, bb⟩, ⟨mc, ns2 l1, l2⟩⟩
    have e0 : Env0 P w K mg (hidT s.heap G) callerA [] s G :=
      ⟨rfl, md, fun b o z => of_hidT z, Nat.le_of_eq (hidT_size _ _), trivial, fun b z => absurd (show b ∈ ([] : List Addr) from z) (by simp), ok, .of_eq ge⟩
    refine codeAny_mono (F _ inH (ns2 gs) s G (.ref p) (.ref p) _ _ e0 (bd s (.ref p)) rfl (hs G only sq)) fun r s2 z => ?_
    match r, z with
    | .error e, z => exact (hx G e s2 z).elim
    | .ok .next, z => exact (show False from z).elim
    | .ok .brk, z => exact (show False from z).elim
    | .ok .cont, z => exact (show False from z).elim
    | .ok (.ret u), z =>
      obtain ⟨v, G2, os, bare, un, ok2, ru, q⟩ := z
      obtain rfl : v = .bl true := q
      obtain rfl : u = Value.bool true := ru
      refine ⟨rfl, OldK.of_keep fun b o e => ?_, os, bare⟩
      cases g : G b with
      | none => exact un.keep b o e g (fun c => absurd (show b ∈ ([] : List Addr) from c) (by simp)) (by simp)
      | some u =>
        rcases only b with c | ⟨ob, xs, c⟩
        · rw [g] at c; cases c
        · have y1 := (ok b _ c).1
          have y2 := (ok2 b _ (un.frzs b ob _ c)).1
          rw [e] at y1; cases y1
          exact y2
  cases lk : K.lookup p with
  | some o =>
    have e := inK p o lk
    rw [hp] at e
    cases e
    exact main (fun _ => none) (fun _ => .inl rfl) (.inr ⟨_, us.toArray, _, lk, rfl, rfl, rfl, by rw [List.size_toArray, lv]; exact sz, by simpa using rv⟩) (fun _ _ z => by cases (show (none : Option HO) = some _ from z)) (fun _ z => absurd rfl z) fun z => absurd rfl z
  | none =>
    have i1 : ∀ {b : Addr}, b = p → (if b = p then some (HO.frz { cls := .type "list", data := .seq us.toArray } (.lst (ns.map V.int))) else none) = some (HO.frz { cls := .type "list", data := .seq us.toArray } (.lst (ns.map V.int))) := fun e => if_pos e
    refine main (fun b => if b = p then some (.frz { cls := .type "list", data := .seq us.toArray } (.lst (ns.map V.int))) else none) (fun b => ?_) (.inl (.inr ⟨_, if_pos rfl⟩)) (fun b u z => ?_) (fun b z => ?_) fun _ => lk
    · by_cases e : b = p
      · exact .inr ⟨_, _, i1 e⟩
      · exact .inl (if_neg e)
    · by_cases e : b = p
      · cases (i1 e).symm.trans z
        subst e
        exact ⟨hp, by rw [List.length_map]; exact sz, us, _, rv, hp⟩
      · cases (if_neg e).symm.trans z
    · exact Decidable.byContradiction fun e => z (if_neg e)
theorem walk_at {l : PySem.W.OpenLaw} {n : Nat} {q : Program} {loose : List Str} {XP : (Str → Option Value) → Heap → Prop} {YP : World → Heap → Prop} {d : DefRec} {CX : CXT} {x : Str}
    (hn : l.most = some n) (hn2 : n ≤ sizeLine) (hdf : d.params.defaults = [])
    (F : ∀ (w : World) (mg : Str → Option Value) (fa : Addr) (h : Heap), YP w h → h.Ns mainGlobals mg → mg d.name = some (.ref fa) →
      ∃ (K : PySem.W.Frag) (fd : FuncData) (sp : Sp), K.In h ∧ (∀ (s : Shared) (u : Value), BindsTo s fd ⟨[u], []⟩ [(x, u)]) ∧
        (∀ (G : Hp) (p : Addr) (ns : List Int), ns.length ≤ n → Only G → SqL K G p (ns.map V.int) → sp [.ref p] G (fun v _ => v = .bl true) fun _ _ _ => False) ∧
        ∀ base : Heap, K.In base → base.Ns mainGlobals mg → At1 l.prog w K mg base CX callerA fa fd x sp)
    (hx : ∀ (G : Hp) (s : Shared) (e : Value) (s' : Shared), CX [] G s (fun _ _ _ => False) e s' → False) : PySem.W.WalkO q loose XP YP l.row.toRowW d [] (fun f vs => PySem.call f vs) := by
  refine Att.attach_call hn hdf fun w s0 s mg mb fa o pm cd doc p us ns G Y h1 h2 h3 h4 h5 h6 h7 h8 => ?_
  obtain ⟨K, fd, sp, kx, b, hs, hF⟩ := F w mg fa _ Y G.T.g h4
  exact law_at kx G.T.g G.T.b G.T.builtins G.T.nolimit h8 h5 h6 (Nat.le_trans h7 hn2) hF b (fun G2 only sq => hs G2 p ns h7 only sq) fun G2 e s' => hx G2 s e s'
/-! ### repr of a list of texts -/
def txOk (y : Str) : Prop := y.length ≤ 100 ∧ ∀ c ∈ y.cps.toList, c < 128
theorem repr_len {y : Str} (h : txOk y) : (reprText y).length ≤ 1002 := by
  have := StrLaws.reprText_len y fun c hc => Nat.lt_of_lt_of_le (h.2 c hc) (by decide)
  have := h.1
  omega
theorem sum_le {l : List Nat} {b : Nat} (h : ∀ x ∈ l, x ≤ b) : l.sum ≤ b * l.length := by
  induction l with
  | nil => simp
  | cons a l ih =>
    have h1 := h a List.mem_cons_self
    have h2 := ih fun x hx => h x (List.mem_cons_of_mem _ hx)
    rw [List.sum_cons, List.length_cons, Nat.mul_succ]
    omega
theorem repr_lens {ys : List Str} (h : ∀ y ∈ ys, txOk y) : (listText (ys.map reprText)).length ≤ 1010 * ys.length + 3 := by
  have h1 := listText_len_le (ys.map reprText)
  have h2 : ((ys.map reprText).map (·.length)).sum ≤ 1002 * ys.length := by
    have := sum_le (l := (ys.map reprText).map (·.length)) (b := 1002) (fun x hx => by
      obtain ⟨t, ht, rfl⟩ := List.mem_map.mp hx
      obtain ⟨y, hy, rfl⟩ := List.mem_map.mp ht
      exact repr_len (h y hy))
    simpa using this
  rw [List.length_map] at h1
  omega
section
variable {X : Cx} {k : Nat}
theorem call_reprL (hr : Room k X.A) (hg : X.A.guards = some []) : CallR X (.builtin "repr") (fun xs H Q => ∃ (a : Addr) (ys : List Str), xs = [.ref a] ∧ H a = some (.lst (ys.map V.str)) ∧ ys.length ≤ 1000 ∧ (∀ y ∈ ys, txOk y) ∧ Q (.str (listText (ys.map reprText))) H) := by
  intro pins s σ H xs us Q I r h
  obtain ⟨a, ys, rfl, ha, hz, hy, q⟩ := h
  obtain ⟨u, rfl, e⟩ := vals1 r
  cases (show u = Value.ref a from e)
  obtain ⟨its, rv, ⟨o, n, ho, hcl, _, hd⟩, _⟩ := I.list (SqL.of ha)
  have hu := hr.units
  have hs := repr_lens hy
  have big : (1010 * 1000 + 3 : Nat) ≤ sizeLine := by decide
  refine call_repr_slot (T := "list") (idr := "list.__repr__") (by omega) ⟨o, ho, hcl⟩ PySem.F.slot_list_repr.toG ?_
  have fin : ∀ h' u tk, (∀ b o, s.heap.get? b = some o → h'.get? b = some o) → ∃ x t, Value.str (listText (ys.map reprText)) u = .str x t ∧ EP X pins σ Q (.str (listText (ys.map reprText)) u) { s with heap := h', toks := tk } :=
    fun h' u tk hk => ⟨_, _, rfl, .str _, H, I.kept hk, ⟨u, rfl⟩, q⟩
  cases its with
  | nil =>
    cases ys with
    | cons y ys => cases rv
    | nil =>
      have e : (listText (([] : List Str).map reprText)) = ("[]" : Str) := by decide +kernel
      rw [e] at fin
      exact call_list_repr_empty ⟨o, ho, hcl⟩ ho hd (fin s.heap _ _ fun _ _ z => z)
  | cons x l =>
    have item : ∀ {l : List Value} {ys : List Str}, Vals (ys.map V.str) l → (∀ y ∈ ys, txOk y) → ∀ (i : Nat) (y : Value), l.toArray[i]? = some y → ∃ t, (ys.map reprText)[i]? = some t ∧ ReprK X.prog X.w [] s.heap 0 y t := by
      intro l ys rv hy i y e
      induction ys generalizing l i with
      | nil => cases rv; simp at e
      | cons z ys ih =>
        cases rv with
        | cons r1 r2 =>
          obtain ⟨t, rfl⟩ := r1
          cases i with
          | zero =>
            have e2 : Value.str z t = y := by simpa using e
            subst e2
            exact ⟨_, rfl, ReprK.of_is (ReprIs.str z t (by have := repr_len (hy z List.mem_cons_self); omega)) _ _ _⟩
          | succ i => exact ih r2 (fun q hq => hy q (List.mem_cons_of_mem _ hq)) i (by simpa using e)
    refine call_list_reprK (as := []) (h₀ := s.heap) (d := 0) (A := X.A.in1) ho hcl hd (by simp) ?_ (item rv hy) (g := []) hg (fun b _ => Clear.nil b) (by show X.A.units + 1 + 1 < cLine; omega) (fun _ _ z => z) fin (by omega)
    have := rv.length
    simp only [List.length_map, List.size_toArray] at this ⊢
    exact this
end
end Cm
namespace K16
open PySem PySem.Spec PyProof.Rows L2 Cm
def top (i : Nat) : Stmt := PySem.Challenge.pw_quietedition_k16_first_blocks.main.body.getD i (.Pass ⟨0, 0, 0, 0⟩)
abbrev s_first_order : Stmt := top 2
theorem sc_first_order : FnScope ["edition", "taken", "waiting", "first", "ready", "name"] ["edition"] (defScope s_first_order) := ⟨rfl, rfl, rfl, by decide +kernel, rfl, by decide +kernel, by decide +kernel⟩
abbrev s_Tell_init : Stmt := inClass (top 10) 0
theorem sc_Tell_init : FnScope ["self", "value"] ["self", "value"] (defScope s_Tell_init) := ⟨rfl, rfl, rfl, by decide +kernel, rfl, by decide +kernel, by decide +kernel⟩
abbrev s_First_init : Stmt := inClass (top 63) 0
theorem sc_First_init : FnScope ["self", "name", "after", "rows"] ["self", "name", "after", "rows"] (defScope s_First_init) := ⟨rfl, rfl, rfl, by decide +kernel, rfl, by decide +kernel, by decide +kernel⟩
abbrev s_First_head : Stmt := inClass (top 63) 1
theorem sc_First_head : FnScope ["self"] ["self"] (defScope s_First_head) := ⟨rfl, rfl, rfl, by decide +kernel, rfl, by decide +kernel, by decide +kernel⟩
abbrev s_Member_init : Stmt := inClass (top 64) 0
theorem sc_Member_init : FnScope ["self", "name", "access", "tag", "is_default", "rows"] ["self", "name", "access", "tag", "is_default", "rows"] (defScope s_Member_init) := ⟨rfl, rfl, rfl, by decide +kernel, rfl, by decide +kernel, by decide +kernel⟩
abbrev s_Member_head : Stmt := inClass (top 64) 1
theorem sc_Member_head : FnScope ["self", "line"] ["self"] (defScope s_Member_head) := ⟨rfl, rfl, rfl, by decide +kernel, rfl, by decide +kernel, by decide +kernel⟩
abbrev s_Edition_init : Stmt := inClass (top 66) 0
theorem sc_Edition_init : FnScope ["self", "name", "numbers", "cells", "wants", "blocks", "cell", "access", "integers", "block"] ["self", "name", "numbers", "cells", "wants", "blocks"] (defScope s_Edition_init) := ⟨rfl, rfl, rfl, by decide +kernel, rfl, by decide +kernel, by decide +kernel⟩
abbrev s_l_bag : Stmt := top 68
theorem sc_l_bag : FnScope ["_law_script", "_law_at", "_law_cell", "_law_mixed", "_law_k", "_law_each"] ["_law_script", "_law_at"] (defScope s_l_bag) := ⟨rfl, rfl, rfl, by decide +kernel, rfl, by decide +kernel, by decide +kernel⟩
abbrev s_l_take : Stmt := top 69
theorem sc_l_take : FnScope ["_law_bag_here", "_law_many", "_law_digit"] ["_law_bag_here", "_law_many"] (defScope s_l_take) := ⟨rfl, rfl, rfl, by decide +kernel, rfl, by decide +kernel, by decide +kernel⟩
abbrev s_l_of : Stmt := top 70
theorem sc_l_of : FnScope ["_law_bag_here", "_law_some"] ["_law_bag_here", "_law_some"] (defScope s_l_of) := ⟨rfl, rfl, rfl, by decide +kernel, rfl, by decide +kernel, by decide +kernel⟩
abbrev s_l_names : Stmt := top 71
theorem sc_l_names : FnScope ["_law_bag_here", "_law_many", "_law_letters", "_law_signs", "_law_stem", "_law_k", "_law_start", "_law_is_behind", "_law_some", "_law_one"] ["_law_bag_here", "_law_many"] (defScope s_l_names) := ⟨rfl, rfl, rfl, by decide +kernel, rfl, by decide +kernel, by decide +kernel⟩
abbrev s_l_blocks : Stmt := top 72
theorem sc_l_blocks : FnScope ["_law_bag_here", "_law_names_here", "_law_many", "_law_rows", "_law_some", "_law_name", "_law_way", "_law_often", "_law_first", "_law_k", "_law_second"] ["_law_bag_here", "_law_names_here"] (defScope s_l_blocks) := ⟨rfl, rfl, rfl, by decide +kernel, rfl, by decide +kernel, by decide +kernel⟩
abbrev s_law : Stmt := top 73
theorem sc_law : FnScope ["_law_script", "_law_at", "_law_bag_here", "_law_names_here", "_law_blocks_here", "_law_due", "_law_name", "_law_place", "_law_edition", "_law_heads", "_law_block", "_law_found", "_law_empty"] ["_law_script"] (defScope s_law) := ⟨rfl, rfl, rfl, by decide +kernel, rfl, by decide +kernel, by decide +kernel⟩
def d_first_order : He.DefD := ⟨("first_order", none), "first_order", "first_order", defArgs s_first_order, defBody s_first_order, defScope s_first_order, [], []⟩
def d_Tell_init : He.DefD := ⟨("Tell", some "__init__"), "__init__", "Tell.__init__", defArgs s_Tell_init, defBody s_Tell_init, defScope s_Tell_init, [], []⟩
def d_First_init : He.DefD := ⟨("First", some "__init__"), "__init__", "First.__init__", defArgs s_First_init, defBody s_First_init, defScope s_First_init, [], []⟩
def d_First_head : He.DefD := ⟨("First", some "head"), "head", "First.head", defArgs s_First_head, defBody s_First_head, defScope s_First_head, [], []⟩
def d_Member_init : He.DefD := ⟨("Member", some "__init__"), "__init__", "Member.__init__", defArgs s_Member_init, defBody s_Member_init, defScope s_Member_init, [], []⟩
def d_Member_head : He.DefD := ⟨("Member", some "head"), "head", "Member.head", defArgs s_Member_head, defBody s_Member_head, defScope s_Member_head, [], []⟩
def d_Edition_init : He.DefD := ⟨("Edition", some "__init__"), "__init__", "Edition.__init__", defArgs s_Edition_init, defBody s_Edition_init, defScope s_Edition_init, [], []⟩
def d_l_bag : He.DefD := ⟨("_law_bag", none), "_law_bag", "_law_bag", defArgs s_l_bag, defBody s_l_bag, defScope s_l_bag, [], []⟩
def d_l_take : He.DefD := ⟨("_law_take", none), "_law_take", "_law_take", defArgs s_l_take, defBody s_l_take, defScope s_l_take, [], []⟩
def d_l_of : He.DefD := ⟨("_law_of", none), "_law_of", "_law_of", defArgs s_l_of, defBody s_l_of, defScope s_l_of, [], []⟩
def d_l_names : He.DefD := ⟨("_law_names", none), "_law_names", "_law_names", defArgs s_l_names, defBody s_l_names, defScope s_l_names, [], []⟩
def d_l_blocks : He.DefD := ⟨("_law_blocks", none), "_law_blocks", "_law_blocks", defArgs s_l_blocks, defBody s_l_blocks, defScope s_l_blocks, [], []⟩
def d_law : He.DefD := ⟨("law", none), "law", "law", defArgs s_law, defBody s_law, defScope s_law, [], []⟩
def fn : List He.DefD := [d_first_order, d_Tell_init, d_First_init, d_First_head, d_Member_init, d_Member_head, d_Edition_init, d_l_bag, d_l_take, d_l_of, d_l_names, d_l_blocks, d_law]
def fa : List He.Fa := [.glo "first_order",
  .glo "_law_bag",
  .glo "_law_take",
  .glo "_law_of",
  .glo "_law_names",
  .glo "_law_blocks",
  .glo "law",
  .glo "Tell",
  .glo "First",
  .glo "Member",
  .glo "Edition",
  .free "len",
  .free "range",
  .free "int",
  .free "tuple",
  .free "list",
  .free "isinstance",
  .free "abs",
  .free "all",
  .free "dict",
  .free "enumerate",
  .free "max",
  .free "min",
  .free "repr",
  .cls "Tell",
  .mkr "Tell",
  .cls "First",
  .mkr "First",
  .cls "Member",
  .mkr "Member",
  .cls "Edition",
  .mkr "Edition",
  .meth "First" "head",
  .meth "Member" "head",
  .noat "Tell" "value",
  .noat "First" "name",
  .noat "First" "after",
  .noat "First" "rows",
  .noat "Member" "name",
  .noat "Member" "access",
  .noat "Member" "tag",
  .noat "Member" "is_default",
  .noat "Member" "rows",
  .noat "Edition" "name",
  .noat "Edition" "numbers",
  .noat "Edition" "cells",
  .noat "Edition" "wants",
  .noat "Edition" "blocks",
  .noat "Edition" "firsts",
  .noat "Edition" "members"]
def exs (K : PySem.W.Frag) : List Bool := [decide (PySem.W.specialIn K (.builtin "object.__class__") "__get__" = some (some (.builtin "getset_descriptor.__get__"))),
  decide (PySem.W.takesIn K (.builtin "object.__class__") = some true),
  decide (PySem.W.findIn K (.ref (He.ga K "First")) "__class__" = some (some (.builtin "object.__class__"))),
  decide (PySem.W.mroIn K (He.ga K "First") (.type "object") = some true),
  decide (PySem.W.kitOne K (.ref (He.ga K "First")) (.ref (He.ga K "First")) = some true),
  decide (PySem.W.kitOne K (.ref (He.ga K "First")) (.ref (He.ga K "Member")) = some false),
  decide (PySem.W.findIn K (.ref (He.ga K "Member")) "__class__" = some (some (.builtin "object.__class__"))),
  decide (PySem.W.mroIn K (He.ga K "Member") (.type "object") = some true),
  decide (PySem.W.kitOne K (.ref (He.ga K "Member")) (.ref (He.ga K "First")) = some false),
  decide (PySem.W.kitOne K (.ref (He.ga K "Member")) (.ref (He.ga K "Member")) = some true)]
structure Tx (K : PySem.W.Frag) (mg : Str → Option Value) (sa : Addr) (sx : List Int) : Prop where
  c : He.SaysD fa fn K
  k : (exs K).all id = true
  g0 : mg "first_order" = some (.ref (He.ga K "first_order"))
  g1 : mg "_law_bag" = some (.ref (He.ga K "_law_bag"))
  g2 : mg "_law_take" = some (.ref (He.ga K "_law_take"))
  g3 : mg "_law_of" = some (.ref (He.ga K "_law_of"))
  g4 : mg "_law_names" = some (.ref (He.ga K "_law_names"))
  g5 : mg "_law_blocks" = some (.ref (He.ga K "_law_blocks"))
  g6 : mg "law" = some (.ref (He.ga K "law"))
  g7 : mg "Tell" = some (.ref (He.ga K "Tell"))
  g8 : mg "First" = some (.ref (He.ga K "First"))
  g9 : mg "Member" = some (.ref (He.ga K "Member"))
  g10 : mg "Edition" = some (.ref (He.ga K "Edition"))
  n0 : mg "len" = none
  n1 : mg "range" = none
  n2 : mg "int" = none
  n3 : mg "tuple" = none
  n4 : mg "list" = none
  n5 : mg "isinstance" = none
  n6 : mg "abs" = none
  n7 : mg "all" = none
  n8 : mg "dict" = none
  n9 : mg "enumerate" = none
  n10 : mg "max" = none
  n11 : mg "min" = none
  n12 : mg "repr" = none
section
variable {K : PySem.W.Frag} {mg : Str → Option Value} {sa : Addr} {sx : List Int}
theorem tx_of {h : Heap} (X : K.In h) (G : h.Ns mainGlobals mg) (c : He.SaysD fa fn K) (k : (exs K).all id = true) : Tx K mg sa sx :=
  ⟨c, k,
    He.glo_ok X G (c.fact 0 (f := .glo "first_order") rfl),
    He.glo_ok X G (c.fact 1 (f := .glo "_law_bag") rfl),
    He.glo_ok X G (c.fact 2 (f := .glo "_law_take") rfl),
    He.glo_ok X G (c.fact 3 (f := .glo "_law_of") rfl),
    He.glo_ok X G (c.fact 4 (f := .glo "_law_names") rfl),
    He.glo_ok X G (c.fact 5 (f := .glo "_law_blocks") rfl),
    He.glo_ok X G (c.fact 6 (f := .glo "law") rfl),
    He.glo_ok X G (c.fact 7 (f := .glo "Tell") rfl),
    He.glo_ok X G (c.fact 8 (f := .glo "First") rfl),
    He.glo_ok X G (c.fact 9 (f := .glo "Member") rfl),
    He.glo_ok X G (c.fact 10 (f := .glo "Edition") rfl),
    He.free_ok X G (c.fact 11 (f := .free "len") rfl),
    He.free_ok X G (c.fact 12 (f := .free "range") rfl),
    He.free_ok X G (c.fact 13 (f := .free "int") rfl),
    He.free_ok X G (c.fact 14 (f := .free "tuple") rfl),
    He.free_ok X G (c.fact 15 (f := .free "list") rfl),
    He.free_ok X G (c.fact 16 (f := .free "isinstance") rfl),
    He.free_ok X G (c.fact 17 (f := .free "abs") rfl),
    He.free_ok X G (c.fact 18 (f := .free "all") rfl),
    He.free_ok X G (c.fact 19 (f := .free "dict") rfl),
    He.free_ok X G (c.fact 20 (f := .free "enumerate") rfl),
    He.free_ok X G (c.fact 21 (f := .free "max") rfl),
    He.free_ok X G (c.fact 22 (f := .free "min") rfl),
    He.free_ok X G (c.fact 23 (f := .free "repr") rfl)⟩
theorem g_first_order (T : Tx K mg sa sx) : mg "first_order" = some (.ref (He.ga K "first_order")) := T.g0
theorem g__law_bag (T : Tx K mg sa sx) : mg "_law_bag" = some (.ref (He.ga K "_law_bag")) := T.g1
theorem g__law_take (T : Tx K mg sa sx) : mg "_law_take" = some (.ref (He.ga K "_law_take")) := T.g2
theorem g__law_of (T : Tx K mg sa sx) : mg "_law_of" = some (.ref (He.ga K "_law_of")) := T.g3
theorem g__law_names (T : Tx K mg sa sx) : mg "_law_names" = some (.ref (He.ga K "_law_names")) := T.g4
theorem g__law_blocks (T : Tx K mg sa sx) : mg "_law_blocks" = some (.ref (He.ga K "_law_blocks")) := T.g5
theorem g_law (T : Tx K mg sa sx) : mg "law" = some (.ref (He.ga K "law")) := T.g6
theorem g_Tell (T : Tx K mg sa sx) : mg "Tell" = some (.ref (He.ga K "Tell")) := T.g7
theorem g_First (T : Tx K mg sa sx) : mg "First" = some (.ref (He.ga K "First")) := T.g8
theorem g_Member (T : Tx K mg sa sx) : mg "Member" = some (.ref (He.ga K "Member")) := T.g9
theorem g_Edition (T : Tx K mg sa sx) : mg "Edition" = some (.ref (He.ga K "Edition")) := T.g10
theorem n_len (T : Tx K mg sa sx) : mg "len" = none := T.n0
theorem n_range (T : Tx K mg sa sx) : mg "range" = none := T.n1
theorem n_int (T : Tx K mg sa sx) : mg "int" = none := T.n2
theorem n_tuple (T : Tx K mg sa sx) : mg "tuple" = none := T.n3
theorem n_list (T : Tx K mg sa sx) : mg "list" = none := T.n4
theorem n_isinstance (T : Tx K mg sa sx) : mg "isinstance" = none := T.n5
theorem n_abs (T : Tx K mg sa sx) : mg "abs" = none := T.n6
theorem n_all (T : Tx K mg sa sx) : mg "all" = none := T.n7
theorem n_dict (T : Tx K mg sa sx) : mg "dict" = none := T.n8
theorem n_enumerate (T : Tx K mg sa sx) : mg "enumerate" = none := T.n9
theorem n_max (T : Tx K mg sa sx) : mg "max" = none := T.n10
theorem n_min (T : Tx K mg sa sx) : mg "min" = none := T.n11
theorem n_repr (T : Tx K mg sa sx) : mg "repr" = none := T.n12
theorem exs_at (T : Tx K mg sa sx) (i : Nat) {b : Bool} (h : (exs K)[i]? = some b := by rfl) : b = true := List.all_eq_true.mp T.k b (List.mem_of_getElem? h)
theorem x_cget (T : Tx K mg sa sx) : PySem.W.specialIn K (.builtin "object.__class__") "__get__" = some (some (.builtin "getset_descriptor.__get__")) := of_decide_eq_true (exs_at T 0)
theorem x_ctak (T : Tx K mg sa sx) : PySem.W.takesIn K (.builtin "object.__class__") = some true := of_decide_eq_true (exs_at T 1)
theorem x_cc_First (T : Tx K mg sa sx) : PySem.W.findIn K (.ref (He.ga K "First")) "__class__" = some (some (.builtin "object.__class__")) := of_decide_eq_true (exs_at T 2)
theorem x_mro_First (T : Tx K mg sa sx) : PySem.W.mroIn K (He.ga K "First") (.type "object") = some true := of_decide_eq_true (exs_at T 3)
theorem x_kit_First_First (T : Tx K mg sa sx) : PySem.W.kitOne K (.ref (He.ga K "First")) (.ref (He.ga K "First")) = some true := of_decide_eq_true (exs_at T 4)
theorem x_kit_First_Member (T : Tx K mg sa sx) : PySem.W.kitOne K (.ref (He.ga K "First")) (.ref (He.ga K "Member")) = some false := of_decide_eq_true (exs_at T 5)
theorem x_cc_Member (T : Tx K mg sa sx) : PySem.W.findIn K (.ref (He.ga K "Member")) "__class__" = some (some (.builtin "object.__class__")) := of_decide_eq_true (exs_at T 6)
theorem x_mro_Member (T : Tx K mg sa sx) : PySem.W.mroIn K (He.ga K "Member") (.type "object") = some true := of_decide_eq_true (exs_at T 7)
theorem x_kit_Member_First (T : Tx K mg sa sx) : PySem.W.kitOne K (.ref (He.ga K "Member")) (.ref (He.ga K "First")) = some false := of_decide_eq_true (exs_at T 8)
theorem x_kit_Member_Member (T : Tx K mg sa sx) : PySem.W.kitOne K (.ref (He.ga K "Member")) (.ref (He.ga K "Member")) = some true := of_decide_eq_true (exs_at T 9)
theorem c_Tell (T : Tx K mg sa sx) : Cls K (He.ga K "Tell") := He.cls_ok (T.c.fact 24 (f := .cls "Tell") rfl)
theorem m_Tell (T : Tx K mg sa sx) : Mk K (He.ga K "Tell") (He.ma K (He.ga K "Tell") "__init__") := He.mkr_ok (T.c.fact 25 (f := .mkr "Tell") rfl)
theorem c_First (T : Tx K mg sa sx) : Cls K (He.ga K "First") := He.cls_ok (T.c.fact 26 (f := .cls "First") rfl)
theorem m_First (T : Tx K mg sa sx) : Mk K (He.ga K "First") (He.ma K (He.ga K "First") "__init__") := He.mkr_ok (T.c.fact 27 (f := .mkr "First") rfl)
theorem c_Member (T : Tx K mg sa sx) : Cls K (He.ga K "Member") := He.cls_ok (T.c.fact 28 (f := .cls "Member") rfl)
theorem m_Member (T : Tx K mg sa sx) : Mk K (He.ga K "Member") (He.ma K (He.ga K "Member") "__init__") := He.mkr_ok (T.c.fact 29 (f := .mkr "Member") rfl)
theorem c_Edition (T : Tx K mg sa sx) : Cls K (He.ga K "Edition") := He.cls_ok (T.c.fact 30 (f := .cls "Edition") rfl)
theorem m_Edition (T : Tx K mg sa sx) : Mk K (He.ga K "Edition") (He.ma K (He.ga K "Edition") "__init__") := He.mkr_ok (T.c.fact 31 (f := .mkr "Edition") rfl)
theorem me_First_head (T : Tx K mg sa sx) : Meth K (He.ga K "First") "head" (He.ma K (He.ga K "First") "head") := He.meth_ok (T.c.fact 32 (f := .meth "First" "head") rfl)
theorem me_Member_head (T : Tx K mg sa sx) : Meth K (He.ga K "Member") "head" (He.ma K (He.ga K "Member") "head") := He.meth_ok (T.c.fact 33 (f := .meth "Member" "head") rfl)
theorem na_Tell_value (T : Tx K mg sa sx) : NoAttr K (He.ga K "Tell") "value" := He.noat_ok (T.c.fact 34 (f := .noat "Tell" "value") rfl)
theorem na_First_name (T : Tx K mg sa sx) : NoAttr K (He.ga K "First") "name" := He.noat_ok (T.c.fact 35 (f := .noat "First" "name") rfl)
theorem na_First_after (T : Tx K mg sa sx) : NoAttr K (He.ga K "First") "after" := He.noat_ok (T.c.fact 36 (f := .noat "First" "after") rfl)
theorem na_First_rows (T : Tx K mg sa sx) : NoAttr K (He.ga K "First") "rows" := He.noat_ok (T.c.fact 37 (f := .noat "First" "rows") rfl)
theorem na_Member_name (T : Tx K mg sa sx) : NoAttr K (He.ga K "Member") "name" := He.noat_ok (T.c.fact 38 (f := .noat "Member" "name") rfl)
theorem na_Member_access (T : Tx K mg sa sx) : NoAttr K (He.ga K "Member") "access" := He.noat_ok (T.c.fact 39 (f := .noat "Member" "access") rfl)
theorem na_Member_tag (T : Tx K mg sa sx) : NoAttr K (He.ga K "Member") "tag" := He.noat_ok (T.c.fact 40 (f := .noat "Member" "tag") rfl)
theorem na_Member_is_default (T : Tx K mg sa sx) : NoAttr K (He.ga K "Member") "is_default" := He.noat_ok (T.c.fact 41 (f := .noat "Member" "is_default") rfl)
theorem na_Member_rows (T : Tx K mg sa sx) : NoAttr K (He.ga K "Member") "rows" := He.noat_ok (T.c.fact 42 (f := .noat "Member" "rows") rfl)
theorem na_Edition_name (T : Tx K mg sa sx) : NoAttr K (He.ga K "Edition") "name" := He.noat_ok (T.c.fact 43 (f := .noat "Edition" "name") rfl)
theorem na_Edition_numbers (T : Tx K mg sa sx) : NoAttr K (He.ga K "Edition") "numbers" := He.noat_ok (T.c.fact 44 (f := .noat "Edition" "numbers") rfl)
theorem na_Edition_cells (T : Tx K mg sa sx) : NoAttr K (He.ga K "Edition") "cells" := He.noat_ok (T.c.fact 45 (f := .noat "Edition" "cells") rfl)
theorem na_Edition_wants (T : Tx K mg sa sx) : NoAttr K (He.ga K "Edition") "wants" := He.noat_ok (T.c.fact 46 (f := .noat "Edition" "wants") rfl)
theorem na_Edition_blocks (T : Tx K mg sa sx) : NoAttr K (He.ga K "Edition") "blocks" := He.noat_ok (T.c.fact 47 (f := .noat "Edition" "blocks") rfl)
theorem na_Edition_firsts (T : Tx K mg sa sx) : NoAttr K (He.ga K "Edition") "firsts" := He.noat_ok (T.c.fact 48 (f := .noat "Edition" "firsts") rfl)
theorem na_Edition_members (T : Tx K mg sa sx) : NoAttr K (He.ga K "Edition") "members" := He.noat_ok (T.c.fact 49 (f := .noat "Edition" "members") rfl)
theorem f_first_order (T : Tx K mg sa sx) : ∃ fd, FunD K "first_order" "first_order" (defArgs s_first_order) (defBody s_first_order) (defScope s_first_order) [] [] (He.ga K "first_order") fd := T.c.def_ 0 (d := d_first_order) rfl
theorem f_Tell_init (T : Tx K mg sa sx) : ∃ fd, FunD K "__init__" "Tell.__init__" (defArgs s_Tell_init) (defBody s_Tell_init) (defScope s_Tell_init) [] [] (He.ma K (He.ga K "Tell") "__init__") fd := T.c.def_ 1 (d := d_Tell_init) rfl
theorem f_First_init (T : Tx K mg sa sx) : ∃ fd, FunD K "__init__" "First.__init__" (defArgs s_First_init) (defBody s_First_init) (defScope s_First_init) [] [] (He.ma K (He.ga K "First") "__init__") fd := T.c.def_ 2 (d := d_First_init) rfl
theorem f_First_head (T : Tx K mg sa sx) : ∃ fd, FunD K "head" "First.head" (defArgs s_First_head) (defBody s_First_head) (defScope s_First_head) [] [] (He.ma K (He.ga K "First") "head") fd := T.c.def_ 3 (d := d_First_head) rfl
theorem f_Member_init (T : Tx K mg sa sx) : ∃ fd, FunD K "__init__" "Member.__init__" (defArgs s_Member_init) (defBody s_Member_init) (defScope s_Member_init) [] [] (He.ma K (He.ga K "Member") "__init__") fd := T.c.def_ 4 (d := d_Member_init) rfl
theorem f_Member_head (T : Tx K mg sa sx) : ∃ fd, FunD K "head" "Member.head" (defArgs s_Member_head) (defBody s_Member_head) (defScope s_Member_head) [] [] (He.ma K (He.ga K "Member") "head") fd := T.c.def_ 5 (d := d_Member_head) rfl
theorem f_Edition_init (T : Tx K mg sa sx) : ∃ fd, FunD K "__init__" "Edition.__init__" (defArgs s_Edition_init) (defBody s_Edition_init) (defScope s_Edition_init) [] [] (He.ma K (He.ga K "Edition") "__init__") fd := T.c.def_ 6 (d := d_Edition_init) rfl
theorem f_l_bag (T : Tx K mg sa sx) : ∃ fd, FunD K "_law_bag" "_law_bag" (defArgs s_l_bag) (defBody s_l_bag) (defScope s_l_bag) [] [] (He.ga K "_law_bag") fd := T.c.def_ 7 (d := d_l_bag) rfl
theorem f_l_take (T : Tx K mg sa sx) : ∃ fd, FunD K "_law_take" "_law_take" (defArgs s_l_take) (defBody s_l_take) (defScope s_l_take) [] [] (He.ga K "_law_take") fd := T.c.def_ 8 (d := d_l_take) rfl
theorem f_l_of (T : Tx K mg sa sx) : ∃ fd, FunD K "_law_of" "_law_of" (defArgs s_l_of) (defBody s_l_of) (defScope s_l_of) [] [] (He.ga K "_law_of") fd := T.c.def_ 9 (d := d_l_of) rfl
theorem f_l_names (T : Tx K mg sa sx) : ∃ fd, FunD K "_law_names" "_law_names" (defArgs s_l_names) (defBody s_l_names) (defScope s_l_names) [] [] (He.ga K "_law_names") fd := T.c.def_ 10 (d := d_l_names) rfl
theorem f_l_blocks (T : Tx K mg sa sx) : ∃ fd, FunD K "_law_blocks" "_law_blocks" (defArgs s_l_blocks) (defBody s_l_blocks) (defScope s_l_blocks) [] [] (He.ga K "_law_blocks") fd := T.c.def_ 11 (d := d_l_blocks) rfl
theorem f_law (T : Tx K mg sa sx) : ∃ fd, FunD K "law" "law" (defArgs s_law) (defBody s_law) (defScope s_law) [] [] (He.ga K "law") fd := T.c.def_ 12 (d := d_law) rfl
end
end K16
namespace K16
open PySem PySem.Spec PyProof.Rows L2 Cm
abbrev R : PySem.W.OpenRow := PySem.W.OpenLaw.row PySem.Challenge.rw_quietedition_k16_first_blocks
def part (n : Nat) (g : Addr → Option Obj) : PySem.W.Frag := He.frG g (He.asD g n)
def seen (n : Nat) (g : Addr → Option Obj) : He.AlD × Bool := (He.obsD fa fn (part n g), (exs (part n g)).all id)
def hkz (n : Nat) : PySem.W.Hook where
  α := He.AlD × Bool
  obs s := seen n s.heap.get?
  val _ := (He.valD fn, true)
  says _ h := ∃ K : PySem.W.Frag, K.In h ∧ He.SaysD fa fn K ∧ (exs K).all id = true
  of _ _ e := ⟨_, He.frG_in, congrArg Prod.fst e, congrArg Prod.snd e⟩
  keeps _ _ _ := fun ⟨K, i, c⟩ k => ⟨K, PySem.W.Frag.In.keeps i k, c⟩
def ob (s : PySem.W.SharedT) : He.AlD × Bool := seen 4 (HandSHeadRun.getT s)
theorem ob_eq (s : PySem.W.SharedT) : ob s = (hkz 4).obs s.abs := by
  have e : HandSHeadRun.getT s = s.abs.heap.get? := funext (HandSHeadRun.getT_eq s)
  show seen 4 _ = seen 4 _
  rw [e]
def loose0 : List Str := ["_wall", "first_order", "QuietError", "BadText", "value_text", "block_lines", "Row", "Tell", "Put", "Same", "There", "Call", "End", "LETTERS", "DIGITS", "is_digits", "is_name", "is_numeral", "is_index", "is_tag", "place_of", "value_of", "ACCESSES", "CELL_ACCESSES", "CAUSES", "fits", "stretched", "Grammar", "row_of", "sections"]
def loose1 : List Str := ["of_kind", "check_declared", "is_wrong_skip", "ORDER", "FORMS", "VALUE_KINDS", "PLACE_KINDS", "MOST_NUMBERS", "MOST_PLACES", "MOST_WANTS", "MOST_FIRSTS", "MOST_ROUTINES", "MOST_ROWS", "MOST_WORK", "tag_of", "says_default", "check_ahead", "first_fault", "routine_fault", "Sheet", "edition_sections", "steps_of", "is_on_ring", "check_whole", "ascending", "First", "Member", "block_of", "Edition", "_law_bag"]
def loose2 : List Str := ["_law_take", "_law_of", "_law_names", "_law_blocks"]
def loose : List Str := loose0 ++ loose1 ++ loose2
theorem run0 (w : World) : HandSHeadRun.RunEq R (PySem.W.view R.prog [73]) (hkz 4) ob 9000 loose (w.withFollow "special-get-raises" false) := by
  intro os
  kernel_rfl
theorem run1 (w : World) : HandSHeadRun.RunEq R (PySem.W.view R.prog [73]) (hkz 4) ob 9000 loose (w.withFollow "special-get-raises" true) := by
  intro os
  kernel_rfl
theorem run (w : World) : HandSHeadRun.RunEq R (PySem.W.view R.prog [73]) (hkz 4) ob 9000 loose w :=
  PySem.W.byRow2 "special-get-raises" (P := fun w => HandSHeadRun.RunEq R (PySem.W.view R.prog [73]) (hkz 4) ob 9000 loose w) run0 run1 w
end K16
namespace K16
open PySem PySem.Spec PyProof.Rows L2 Cm
local macro_rules | `(tactic| walk_at "sz") => `(tactic| (apply sz1; simp only [app_len, show Str.empty.length = 0 from rfl, show (("routine " : Str)).length = 8 by decide +kernel, show (("open" : Str)).length = 4 by decide +kernel, show ((" " : Str)).length = 1 by decide +kernel]; omega))
/-! ### blocks -/
inductive Bk
  | fst (n : Str) (as : List Str)
  | mem (n : Str)
def BA (K : PySem.W.Frag) (H : Hp) (o : Addr) : Bk → Prop
  | .fst n as => txOk n ∧ as.length ≤ 3 ∧ (∀ y ∈ as, txOk y) ∧ ∃ dx t r, H o = some (.ins (He.ga K "First") dx (putF "rows" (.ref r) (putF "after" (.ref t) (putF "name" (.str n) [])))) ∧ H t = some (.tup (as.map V.str))
  | .mem n => txOk n ∧ ∃ dx r, H o = some (.ins (He.ga K "Member") dx (putF "rows" (.ref r) (putF "is_default" (.bl false) (putF "tag" (.int 0) (putF "access" (.str "open") (putF "name" (.str n) []))))))
def Same (H H' : Hp) : Prop := ∀ a o, H a = some o → H' a = some o
theorem Same.refl (H : Hp) : Same H H := fun _ _ h => h
theorem Same.trans {H H1 H2 : Hp} (a : Same H H1) (b : Same H1 H2) : Same H H2 := fun c o h => b c o (a c o h)
theorem Same.new {H : Hp} {p : Addr} {o : HO} (h : H p = none) : Same H (upd H p o) := fun c u e => by rw [upd_ne (ne_of_none e h)]; exact e
theorem Same.mut {H H' : Hp} {p : Addr} {o : HO} (s : Same H H') (h : H p = none) : Same H (upd H' p o) := fun c u e => by rw [upd_ne (ne_of_none e h)]; exact s c u e
theorem Same.free {H H' : Hp} {p : Addr} (s : Same H H') (h : H' p = none) : H p = none := by
  cases e : H p with
  | none => rfl
  | some o => rw [s _ _ e] at h; cases h
theorem BA.same {K : PySem.W.Frag} {H H' : Hp} {o : Addr} {b : Bk} (s : Same H H') (h : BA K H o b) : BA K H' o b := by
  cases b with
  | fst n as => obtain ⟨h1, h2, h3, dx, t, r, h4, h5⟩ := h; exact ⟨h1, h2, h3, dx, t, r, s _ _ h4, s _ _ h5⟩
  | mem n => obtain ⟨h1, dx, r, h4⟩ := h; exact ⟨h1, dx, r, s _ _ h4⟩
theorem BA.kp {K : PySem.W.Frag} {H H' : Hp} {o p : Addr} {b : Bk} {u : HO} (s : Kp p H H') (hp : H p = some u) (hu : ∀ C dx fs, u ≠ .ins C dx fs) (ht : ∀ xs, u ≠ .tup xs) (h : BA K H o b) : BA K H' o b := by
  cases b with
  | fst n as =>
    obtain ⟨h1, h2, h3, dx, t, r, h4, h5⟩ := h
    exact ⟨h1, h2, h3, dx, t, r, s _ _ (fun e => by subst e; rw [hp] at h4; exact hu _ _ _ (Option.some.inj h4)) h4, s _ _ (fun e => by subst e; rw [hp] at h5; exact ht _ (Option.some.inj h5)) h5⟩
  | mem n =>
    obtain ⟨h1, dx, r, h4⟩ := h
    exact ⟨h1, dx, r, s _ _ (fun e => by subst e; rw [hp] at h4; exact hu _ _ _ (Option.some.inj h4)) h4⟩
theorem fk {f : Str} {v : V} {fs : List (Str × V)} {n : Nat} (h : fs.length ≤ n) : (putF f v fs).length ≤ n + 1 := by
  have := length_putF f v fs; omega
theorem fk0 : ([] : List (Str × V)).length ≤ 0 := Nat.le_refl _
theorem fkn {fs : List (Str × V)} {n : Nat} (h : fs.length ≤ n) (hn : n < 1000 := by decide) : fs.length < 1000 := Nat.lt_of_le_of_lt h hn
section
variable {P : Program} {w : World} {K : PySem.W.Frag} {mg : Str → Option Value} {base : Heap} {sa : Addr} {sx : List Int}
def spTell (C : Addr) : Sp := fun vs H Q _ => ∃ o dx t xs, vs = [.ref o, .ref t] ∧ H o = some (.ins C dx []) ∧ H t = some (.tup xs) ∧ ∀ H', Kp o H H' → Q .non H'
theorem ok_Tell_init (T : Tx K mg sa sx) : KCal P w K mg base 1 "Tell" (He.ga K "Tell") (spTell (He.ga K "Tell")) [] := by
  obtain ⟨fd, F⟩ := f_Tell_init T
  refine ⟨g_Tell T, _, fd, ["self", "value"], [], m_Tell T, fnok F sc_Tell_init (fun vs H Q E h => ?_) (fun cdv A outer s H vs Q E hr h => ?_), F.bindsN fun _ _ _ _ _ _ us hl => match us, hl with | [_, _], _ => rfl, .nil⟩
  · obtain ⟨o, dx, t, xs, rfl, _⟩ := h; rfl
  · obtain ⟨o, dx, t, xs, rfl, ho, ht, k⟩ := h
    refine ⟨_, (pss_one (ps_fld (pv 0) (pe_callTy (T := "tuple") call_tuple_of rfl (n_tuple T) (by decide +kernel) (pa_cons (pv 1) pa_nil)) rfl)), ?_⟩
    exact ⟨_, rfl, t, xs, rfl, .inr ⟨SqT.of ht, _, rfl, o, _, dx, [], rfl, ho, c_Tell T, na_Tell_value T, fn0, k _ Kp.refl.at⟩⟩
def spFst (K : PySem.W.Frag) : Sp := fun vs H Q _ => ∃ o dx n t as r ys, vs = [.ref o, .str n, .ref t, .ref r] ∧ H o = some (.ins (He.ga K "First") dx []) ∧ txOk n ∧ as.length ≤ 3 ∧ (∀ y ∈ as, txOk y) ∧ H t = some (.tup (as.map V.str)) ∧ H r = some (.lst ys) ∧
  ∀ H', Kp o H H' → BA K H' o (.fst n as) → Q .non H'
theorem ok_First_init (T : Tx K mg sa sx) : KCal P w K mg base 1 "First" (He.ga K "First") (spFst K) [] := by
  obtain ⟨fd, F⟩ := f_First_init T
  refine ⟨g_First T, _, fd, ["self", "name", "after", "rows"], [], m_First T, fnok F sc_First_init (fun vs H Q E h => ?_) (fun cdv A outer s H vs Q E hr h => ?_), F.bindsN fun _ _ _ _ _ _ us hl => match us, hl with | [_, _, _, _], _ => rfl, .nil⟩
  · obtain ⟨o, dx, n, t, as, r, ys, rfl, _⟩ := h; rfl
  · obtain ⟨o, dx, n, t, as, r, ys, rfl, ho, hn, la, ha, ht, hR, k⟩ := h
    refine ⟨_, (pss_cons (ps_fld (pv 0) (pv 1) rfl)
    (pss_cons (ps_fld (pv 0) (pe_callTy (T := "tuple") call_tuple_of rfl (n_tuple T) (by decide +kernel) (pa_cons (pv 2) pa_nil)) rfl)
    (pss_one (ps_fld (pv 0) (pe_callTy (T := "tuple") call_tuple_of rfl (n_tuple T) (by decide +kernel) (pa_cons (pv 3) pa_nil)) rfl)))), ?_⟩
    have nt : t ≠ o := ne_of ht ho (by intro z; cases z)
    have nr : r ≠ o := ne_of hR ho (by intro z; cases z)
    refine ⟨_, rfl, _, rfl, o, _, dx, [], rfl, ho, c_First T, na_First_name T, fn0, ?_⟩
    refine ⟨_, rfl, t, _, rfl, .inr ⟨SqT.of ((upd_ne nt).trans ht), _, rfl, o, _, dx, _, rfl, upd_same, c_First T, na_First_after T, fnS fs0, ?_⟩⟩
    rw [upd_upd]
    refine ⟨_, rfl, r, ys, rfl, .inl ⟨SqL.of ((upd_ne nr).trans hR), fun l hl => ⟨_, rfl, o, _, dx, _, rfl, (upd_ne (ne_of_none upd_same hl)).trans upd_same, c_First T, na_First_rows T, fnS (fs1 (by decide)), ?_⟩⟩⟩
    have kk : Kp o H (upd (upd (upd H o (.ins (He.ga K "First") dx (putF "after" (.ref t) (putF "name" (.str n) [])))) l (.tup ys)) o (.ins (He.ga K "First") dx (putF "rows" (.ref l) (putF "after" (.ref t) (putF "name" (.str n) []))))) := (Kp.refl.at.new hl).at
    exact k _ kk ⟨hn, la, ha, dx, t, l, upd_same, kk _ _ nt ht⟩
def spMem (K : PySem.W.Frag) : Sp := fun vs H Q _ => ∃ o dx n r ys, vs = [.ref o, .str n, .str "open", .int 0, .bl false, .ref r] ∧ H o = some (.ins (He.ga K "Member") dx []) ∧ txOk n ∧ H r = some (.lst ys) ∧
  ∀ H', Kp o H H' → BA K H' o (.mem n) → Q .non H'
theorem ok_Member_init (T : Tx K mg sa sx) : KCal P w K mg base 1 "Member" (He.ga K "Member") (spMem K) [] := by
  obtain ⟨fd, F⟩ := f_Member_init T
  refine ⟨g_Member T, _, fd, ["self", "name", "access", "tag", "is_default", "rows"], [], m_Member T, fnok F sc_Member_init (fun vs H Q E h => ?_) (fun cdv A outer s H vs Q E hr h => ?_), F.bindsN fun _ _ _ _ _ _ us hl => match us, hl with | [_, _, _, _, _, _], _ => rfl, .nil⟩
  · obtain ⟨o, dx, n, r, ys, rfl, _⟩ := h; rfl
  · obtain ⟨o, dx, n, r, ys, rfl, ho, hn, hR, k⟩ := h
    refine ⟨_, (pss_cons (ps_fld (pv 0) (pv 1) rfl)
    (pss_cons (ps_fld (pv 0) (pv 2) rfl)
    (pss_cons (ps_fld (pv 0) (pv 3) rfl)
    (pss_cons (ps_fld (pv 0) (pv 4) rfl)
    (pss_one (ps_fld (pv 0) (pe_callTy (T := "tuple") call_tuple_of rfl (n_tuple T) (by decide +kernel) (pa_cons (pv 5) pa_nil)) rfl)))))), ?_⟩
    have nr : r ≠ o := ne_of hR ho (by intro z; cases z)
    refine ⟨_, rfl, _, rfl, o, _, dx, [], rfl, ho, c_Member T, na_Member_name T, fn0, ?_⟩
    refine ⟨_, rfl, _, rfl, o, _, dx, _, rfl, upd_same, c_Member T, na_Member_access T, fnS fs0, ?_⟩
    rw [upd_upd]
    refine ⟨_, rfl, _, rfl, o, _, dx, _, rfl, upd_same, c_Member T, na_Member_tag T, fnS (fs1 (by decide)), ?_⟩
    rw [upd_upd]
    refine ⟨_, rfl, _, rfl, o, _, dx, _, rfl, upd_same, c_Member T, na_Member_is_default T, fkn (fk (fk (fk fk0))), ?_⟩
    rw [upd_upd]
    refine ⟨_, rfl, r, ys, rfl, .inl ⟨SqL.of ((upd_ne nr).trans hR), fun l hl => ⟨_, rfl, o, _, dx, _, rfl, (upd_ne (ne_of_none upd_same hl)).trans upd_same, c_Member T, na_Member_rows T, fkn (fk (fk (fk (fk fk0)))), ?_⟩⟩⟩
    exact k _ (Kp.refl.at.new hl).at ⟨hn, dx, l, upd_same⟩
/-! ### heads -/
def headT : Bk → Str
  | .fst n as => Txt.join " " ((([("first" : Str), n] : List Str) ++ (if (as.length : Int) > 0 then ([("after" : Str)] : List Str) else []) ++ as))
  | .mem n => Str.empty ++ "routine " ++ n ++ " " ++ "open"
def spHead (K : PySem.W.Frag) : Sp := fun vs H Q _ => ∃ o b, vs = [.ref o] ∧ BA K H o b ∧ ∀ H', Same H H' → Q (.str (headT b)) H'
theorem sum3 {as : List Str} (h : ∀ y ∈ as, txOk y) : (as.map (·.length)).sum ≤ 100 * as.length := by
  have := sum_le (l := as.map (·.length)) (b := 100) (fun x hx => by obtain ⟨y, hy, rfl⟩ := List.mem_map.mp hx; exact (h y hy).1)
  simpa using this
def spHeadF (K : PySem.W.Frag) : Sp := fun vs H Q _ => ∃ o n as, vs = [.ref o] ∧ BA K H o (.fst n as) ∧ ∀ H', Same H H' → Q (.str (headT (.fst n as))) H'
def spHeadM (K : PySem.W.Frag) : Sp := fun vs H Q _ => ∃ o n, vs = [.ref o] ∧ BA K H o (.mem n) ∧ ∀ H', Same H H' → Q (.str (headT (.mem n))) H'
theorem ok_First_head (T : Tx K mg sa sx) : MCal P w K mg base 1 (He.ga K "First") "head" (spHeadF K) := by
  obtain ⟨fd, F⟩ := f_First_head T
  refine ⟨c_First T, _, fd, ["self"], fnok F sc_First_head (fun vs H Q E h => ?_) (fun cdv A outer s H vs Q E hr h => ?_), F.bindsN fun _ _ _ _ _ _ us hl => match us, hl with | [_], _ => rfl, me_First_head T⟩
  · obtain ⟨o, n, as, rfl, _⟩ := h; rfl
  · obtain ⟨o, n, as, rfl, ⟨hn, la, ha, dx, t, r, ho, ht⟩, k⟩ := h
    refine ⟨_, (pss_one (ps_ret (pe_join pe_str (pe_op op_cat (pe_op op_cat (pe_lst (pa_cons pe_str (pa_cons (pe_fld (pv 0) rfl) pa_nil))) (pe_ifExp (pt_cmpR op_gt (pe_callB (id := "len") call_len_seq rfl (n_len T) (by decide +kernel) (pa_cons (pe_fld (pv 0) rfl) pa_nil)) pe_int (nomark _)) (pe_lst (pa_cons pe_str pa_nil)) (pe_lst pa_nil))) (pe_callTy (T := "list") call_list_of rfl (n_list T) (by decide +kernel) (pa_cons (pe_fld (pv 0) rfl) pa_nil)))))), ?_⟩
    have hs := sum3 ha
    have fl : (putF "rows" (.ref r) (putF "after" (.ref t) (putF "name" (.str n) []))).lookup ("name" : Str) = some (V.str n) := fl2 (by decide +kernel) (fl2 (by decide +kernel) fl1)
    have fa : (putF "rows" (.ref r) (putF "after" (.ref t) (putF "name" (.str n) []))).lookup ("after" : Str) = some (V.ref t) := fl2 (by decide +kernel) fl1
    have l1 : (("first" : Str)).length = 5 := by decide +kernel
    have l2 : (("after" : Str)).length = 5 := by decide +kernel
    have l3 : ((" " : Str)).length = 1 := by decide +kernel
    have h1 := hn.1
    refine ⟨⟨_, rfl⟩, _, rfl, o, _, dx, _, _, rfl, ho, c_First T, na_First_name T, fl, sz1 (by simp), fun p hp => ?_⟩
    have s1 : Same H (upd H p (.lst [V.str "first", V.str n])) := Same.new hp
    have fin : ∀ {m q : Addr} {ms : List Str} {H2 : Hp}, Same H H2 → Same (upd H p (.lst [V.str "first", V.str n])) H2 → H2 q = some (.lst (ms.map V.str)) → ms.length ≤ 1 → (ms.map (·.length)).sum ≤ 5 → (∀ H', Same H H' → Q (.str (Txt.join " " (([("first" : Str), n] ++ ms) ++ as))) H') → 
      rCat (.ref p) (.ref q) H2 fun x H3 => (tCB (fun xs H4 Q4 => ∃ p ys, xs = [V.ref p] ∧ (SqL K H4 p ys ∨ SqT K H4 p ys) ∧ ∀ l, H4 l = none → Q4 (.ref l) (upd H4 l (.lst ys))) (tCons (tFld K (tVar 0) "after") tNil)) (start ["self"] [V.ref o]) H3 fun y H4 => rCat x y H4 fun y H5 =>
        ∃ a p ys, V.str " " = V.str a ∧ [y] = [V.ref p] ∧ (SqL K H5 p (List.map V.str ys) ∨ SqT K H5 p (List.map V.str ys)) ∧ (List.map (fun x => x.length) ys).sum + ys.length * a.length ≤ 16777216 ∧ Q (V.str (Txt.join a ys)) H5 := by
      intro m q ms H2 sa2 sb2 hq lm sm kk
      refine ⟨p, q, [V.str "first", V.str n], ms.map V.str, rfl, rfl, sb2 _ _ upd_same, hq, sz1 (by simp; omega), fun p2 hp2 => ?_⟩
      have s2 : Same H (upd H2 p2 (.lst ([V.str "first", V.str n] ++ ms.map V.str))) := sa2.mut (sa2.free hp2)
      refine ⟨_, rfl, o, _, dx, _, _, rfl, s2 _ _ ho, c_First T, na_First_after T, fa, t, as.map V.str, rfl, .inr (SqT.of (s2 _ _ ht)), fun p3 hp3 => ?_⟩
      refine ⟨p2, p3, [V.str "first", V.str n] ++ ms.map V.str, as.map V.str, rfl, rfl, (upd_ne (ne_of_none upd_same hp3)).trans upd_same, upd_same, sz1 (by simp; omega), fun p4 hp4 => ?_⟩
      refine ⟨" ", p4, ([("first" : Str), n] ++ ms) ++ as, rfl, rfl, .inl (SqL.of ?_), ?_, kk _ ((s2.mut (s2.free hp3)).mut ((s2.mut (s2.free hp3)).free hp4))⟩
      · rw [List.map_append, List.map_append]
        exact upd_same
      · simp only [List.map_append, List.sum_append, List.length_append, List.map_cons, List.map_nil, List.sum_cons, List.sum_nil, List.length_cons, List.length_nil, l3]
        omega
    refine ⟨_, rfl, o, _, dx, _, _, rfl, s1 _ _ ho, c_First T, na_First_after T, fa, t, _, rfl, .inr (SqT.of (s1 _ _ ht)), _, _, rfl, rfl, _, rfl, ?_⟩
    rw [List.length_map]
    by_cases c : (0 : Int) < (as.length : Int)
    · refine tT c ⟨sz1 (by simp), fun q hq => fin (m := p) (ms := ["after"]) (s1.mut (s1.free hq)) (Same.new hq) upd_same (by simp) (by simp [l2]) fun H' z => ?_⟩
      have e : headT (.fst n as) = Txt.join " " (([("first" : Str), n] ++ [("after" : Str)]) ++ as) := by
        show Txt.join " " ((([("first" : Str), n] : List Str) ++ (if (as.length : Int) > 0 then ([("after" : Str)] : List Str) else []) ++ as)) = _
        rw [if_pos c]
      rw [← e]
      exact k _ z
    · refine tF c ⟨sz1 (by simp), fun q hq => fin (m := p) (ms := []) (s1.mut (s1.free hq)) (Same.new hq) upd_same (by simp) (by simp) fun H' z => ?_⟩
      have e : headT (.fst n as) = Txt.join " " (([("first" : Str), n] ++ []) ++ as) := by
        show Txt.join " " ((([("first" : Str), n] : List Str) ++ (if (as.length : Int) > 0 then ([("after" : Str)] : List Str) else []) ++ as)) = _
        rw [if_neg c]
      rw [← e]
      exact k _ z
theorem ok_Member_head (T : Tx K mg sa sx) : MCal P w K mg base 1 (He.ga K "Member") "head" (spHeadM K) := by
  obtain ⟨fd, F⟩ := f_Member_head T
  refine ⟨c_Member T, _, fd, ["self"], fnok F sc_Member_head (fun vs H Q E h => ?_) (fun cdv A outer s H vs Q E hr h => ?_), F.bindsN fun _ _ _ _ _ _ us hl => match us, hl with | [_], _ => rfl, me_Member_head T⟩
  · obtain ⟨o, n, rfl, _⟩ := h; rfl
  · obtain ⟨o, n, rfl, ⟨hn, dx, r, ho⟩, k⟩ := h
    refine ⟨_, (pss_cons (ps_set (i := 1) sc_Member_head.nd rfl (by first | exact Or.inl rfl | exact Or.inr rfl) (pe_joined (PJ.cons pe_str (PJ.cons (pe_fmt (pe_fld (pv 0) rfl)) (PJ.cons pe_str (PJ.cons (pe_fmt (pe_fld (pv 0) rfl)) PJ.nil))))))
    (pss_cons (ps_if (pt_cmpR op_eq (pe_fld (pv 0) rfl) pe_int (nomark _)) (pss_one (ps_ret (pv 1))) pss_nil)
    (pss_one (ps_ret (pe_ifExp (pt_val (pe_fld (pv 0) rfl)) (pe_joined (PJ.cons (pe_fmt (pv 1)) (PJ.cons pe_str (PJ.cons (pe_fmt (pe_fld (pv 0) rfl)) (PJ.cons pe_str PJ.nil))))) (pe_joined (PJ.cons (pe_fmt (pv 1)) (PJ.cons pe_str (PJ.cons (pe_fmt (pe_fld (pv 0) rfl)) PJ.nil))))))))), ?_⟩
    have h1 := hn.1
    refine ⟨_, rfl, (by walk_at "sz"), ?_⟩
    refine ⟨_, rfl, o, _, dx, _, _, rfl, ho, c_Member T, na_Member_name T, (fl2 (by decide +kernel) (fl2 (by decide +kernel) (fl2 (by decide +kernel) (fl2 (by decide +kernel) fl1)))), .inl ⟨n, rfl, sz1 (by omega), n, rfl, (by walk_at "sz"), ?_⟩⟩
    refine ⟨_, rfl, (by walk_at "sz"), ?_⟩
    refine ⟨_, rfl, o, _, dx, _, _, rfl, ho, c_Member T, na_Member_access T, (fl2 (by decide +kernel) (fl2 (by decide +kernel) (fl2 (by decide +kernel) fl1))), .inl ⟨_, rfl, sz1 (by decide +kernel), _, rfl, (by walk_at "sz"), ?_⟩⟩
    refine ⟨_, rfl, o, _, dx, _, _, rfl, ho, c_Member T, na_Member_tag T, (fl2 (by decide +kernel) (fl2 (by decide +kernel) fl1)), rfl, _, rfl, ?_⟩
    exact tT rfl ⟨_, rfl, k _ (Same.refl _)⟩
end
end K16
namespace K16
open PySem PySem.Spec PyProof.Rows L2 Cm
/-! ### editions -/
abbrev At := Addr × Bk
def rf (l : List At) : List V := l.map fun q => V.ref q.1
def Bk.isF : Bk → Bool
  | .fst _ _ => true
  | .mem _ => false
def fsts (l : List At) : List At := l.filter fun q => q.2.isF
def mems (l : List At) : List At := l.filter fun q => !q.2.isF
def EdA (K : PySem.W.Frag) (H : Hp) (o : Addr) (l : List At) : Prop :=
  ∃ dx bl fi fs, H o = some (.ins (He.ga K "Edition") dx fs) ∧ fs.lookup ("blocks" : Str) = some (V.ref bl) ∧ fs.lookup ("firsts" : Str) = some (V.ref fi) ∧ H bl = some (.tup (rf l)) ∧ H fi = some (.tup (rf (fsts l))) ∧ ∀ q ∈ l, BA K H q.1 q.2
theorem EdA.same {K : PySem.W.Frag} {H H' : Hp} {o : Addr} {l : List At} (s : Same H H') (h : EdA K H o l) : EdA K H' o l := by
  obtain ⟨dx, bl, fi, fs, h1, h2, h3, h4, h5, h6⟩ := h
  exact ⟨dx, bl, fi, fs, s _ _ h1, h2, h3, s _ _ h4, s _ _ h5, fun q hq => (h6 q hq).same s⟩
theorem EdA.kp {K : PySem.W.Frag} {H H' : Hp} {o p : Addr} {l : List At} {xs : List V} (s : Kp p H H') (hp : H p = some (.lst xs)) (h : EdA K H o l) : EdA K H' o l := by
  obtain ⟨dx, bl, fi, fs, h1, h2, h3, h4, h5, h6⟩ := h
  have ne : ∀ {a : Addr} {u : HO}, H a = some u → (∀ ys, u ≠ .lst ys) → H' a = some u := fun {a u} e n => s _ _ (fun z => by subst z; rw [hp] at e; exact n _ (Option.some.inj e).symm) e
  exact ⟨dx, bl, fi, fs, ne h1 (fun _ z => by cases z), h2, h3, ne h4 (fun _ z => by cases z), ne h5 (fun _ z => by cases z), fun q hq => (h6 q hq).kp s hp (fun _ _ _ z => by cases z) (fun _ z => by cases z)⟩
theorem rf_len {l : List At} : (rf l).length = l.length := List.length_map ..
theorem rf_at {l : List At} {i : Nat} {x : V} (h : (rf l)[i]? = some x) : ∃ q, l[i]? = some q ∧ V.ref q.1 = x := by
  unfold rf at h
  rw [List.getElem?_map] at h
  cases e : l[i]? with
  | none => rw [e] at h; cases h
  | some q => rw [e] at h; exact ⟨q, rfl, Option.some.inj h⟩
theorem putF_ne {f : Str} {v : V} {fs : List (Str × V)} : ([] : List (Str × V)) ≠ putF f v fs := fun e => by
  have z := congrArg (List.lookup f) e
  rw [fl1] at z
  cases z
section
variable {P : Program} {w : World} {K : PySem.W.Frag} {mg : Str → Option Value} {base : Heap} {sa : Addr} {sx : List Int}
def spEd (K : PySem.W.Frag) : Sp := fun vs H Q _ => ∃ o dx n nu ce wa bl l, vs = [.ref o, .str n, .ref nu, .ref ce, .ref wa, .ref bl] ∧ H o = some (.ins (He.ga K "Edition") dx []) ∧ H nu = some (.dK []) ∧ H ce = some (.dK []) ∧ H wa = some (.tup []) ∧ H bl = some (.tup (rf l)) ∧ (∀ q ∈ l, BA K H q.1 q.2) ∧
  l.length ≤ 100 ∧ ∀ H', Kp o H H' → EdA K H' o l → Q .non H'
theorem tyB (T : Tx K mg sa sx) {H : Hp} {o : Addr} {b : Bk} (h : BA K H o b) : ∃ t, TyX K H (.ref o) t ∧ PySem.W.kitOne K t (.ref (He.ga K "First")) = some b.isF ∧ PySem.W.kitOne K t (.ref (He.ga K "Member")) = some (!b.isF) := by
  cases b with
  | fst n as =>
    obtain ⟨_, _, _, dx, t, r, e, _⟩ := h
    exact ⟨_, .base (.ins e (c_First T) (x_cc_First T) (x_cget T) (x_ctak T) (x_mro_First T)), x_kit_First_First T, x_kit_First_Member T⟩
  | mem n =>
    obtain ⟨_, dx, r, e⟩ := h
    exact ⟨_, .base (.ins e (c_Member T) (x_cc_Member T) (x_cget T) (x_ctak T) (x_mro_Member T)), x_kit_Member_First T, x_kit_Member_Member T⟩
theorem take_filter {α : Type} (p : α → Bool) (l : List α) {i : Nat} {x : α} (h : l[i]? = some x) : (l.take (i + 1)).filter p = (l.take i).filter p ++ (if p x = true then [x] else []) := by
  rw [List.take_add_one, h]
  show ((l.take i) ++ [x]).filter p = _
  rw [List.filter_append]
  by_cases c : p x = true
  · rw [if_pos c, List.filter_cons_of_pos c]; rfl
  · rw [if_neg c, List.filter_cons_of_neg c]; rfl
theorem ok_Edition_init (T : Tx K mg sa sx) : KCal P w K mg base 1 "Edition" (He.ga K "Edition") (spEd K) [] := by
  obtain ⟨fd, F⟩ := f_Edition_init T
  refine ⟨g_Edition T, _, fd, ["self", "name", "numbers", "cells", "wants", "blocks"], [], m_Edition T, fnok F sc_Edition_init (fun vs H Q E h => ?_) (fun cdv A outer s H vs Q E hr h => ?_), F.bindsN fun _ _ _ _ _ _ us hl => match us, hl with | [_, _, _, _, _, _], _ => rfl, .nil⟩
  · obtain ⟨o, dx, n, nu, ce, wa, bl, l, rfl, _⟩ := h; rfl
  · obtain ⟨o, dx, n, nu, ce, wa, bl, l, rfl, ho, hnu, hce, hwa, hbl, hq, lz, k⟩ := h
    refine ⟨_, (pss_cons (ps_fld (pv 0) (pv 1) rfl)
    (pss_cons (ps_fld (pv 0) (pe_callTy (T := "dict") call_dictD rfl (n_dict T) (by decide +kernel) (pa_cons (pv 2) pa_nil)) rfl)
    (pss_cons (ps_fld (pv 0) (pe_lock (pe_dc (own := [("cell", 6), ("access", 7), ("integers", 8)]) (g := gTup K 2 (gCons (gName 6) (gCons (gTup K 2 (gCons (gName 7) (gCons (gName 8) gNil))) gNil))) rfl sc_Edition_init.nd (pi_items (pv 3)) (blkOk_by (own := [("cell", 6), ("access", 7), ("integers", 8)]) (N := ["self", "name", "numbers", "cells", "wants", "blocks", "cell", "access", "integers", "block"]) (sc := defScope s_Edition_init) (by decide +kernel)) (fun _ _ _ _ _ => pg_tup (by rfl) (pgs_cons (pg_name (i := 6) sc_Edition_init.nd rfl (Or.inl rfl)) (pgs_cons (pg_tup (by rfl) (pgs_cons (pg_name (i := 7) sc_Edition_init.nd rfl (Or.inl rfl)) (pgs_cons (pg_name (i := 8) sc_Edition_init.nd rfl (Or.inl rfl)) pgs_nil))) pgs_nil))) (fun _ _ _ _ _ => pts_nil) (fun _ _ _ _ _ => pv 6) (fun _ _ _ _ _ => pe_tup (pa_cons (pv 7) (pa_cons (pe_callTy (T := "tuple") (r := fun xs H Q => ∃ p ys, xs = [.ref p] ∧ ((SqL K H p ys ∧ ∀ l, H l = none → Q (.ref l) (upd H l (.tup ys))) ∨ (SqT K H p ys ∧ Q (.ref p) H))) call_tuple_of rfl (n_tuple T) (by decide +kernel) (pa_cons (pv 8) pa_nil)) pa_nil))))) rfl)
    (pss_cons (ps_fld (pv 0) (pe_callTy (T := "tuple") call_tuple_of rfl (n_tuple T) (by decide +kernel) (pa_cons (pv 4) pa_nil)) rfl)
    (pss_cons (ps_fld (pv 0) (pe_callTy (T := "tuple") call_tuple_of rfl (n_tuple T) (by decide +kernel) (pa_cons (pv 5) pa_nil)) rfl)
    (pss_cons (ps_fld (pv 0) (pe_callTy (T := "tuple") call_tuple_of rfl (n_tuple T) (by decide +kernel) (pa_cons (pe_lc (own := [("block", 9)]) (g := gName 9) rfl sc_Edition_init.nd (pi_tup (pe_fld (pv 0) rfl)) (blkOk_by (own := [("block", 9)]) (N := ["self", "name", "numbers", "cells", "wants", "blocks", "cell", "access", "integers", "block"]) (sc := defScope s_Edition_init) (by decide +kernel)) (fun _ _ _ _ _ => pg_name (i := 9) sc_Edition_init.nd rfl (Or.inl rfl)) (fun _ _ _ _ _ => (pts_one (pt_val (pe_callB (id := "isinstance") (r := rIsi K) call_isi rfl (n_isinstance T) (by decide +kernel) (pa_cons (pv 9) (pa_cons (pe_glob (v := .ref _) rfl (g_First T) rfl) pa_nil)))))) (fun _ _ _ _ _ => (pv 9))) pa_nil)) rfl)
    (pss_one (ps_fld (pv 0) (pe_callTy (T := "tuple") call_tuple_of rfl (n_tuple T) (by decide +kernel) (pa_cons (pe_lc (own := [("block", 9)]) (g := gName 9) rfl sc_Edition_init.nd (pi_tup (pe_fld (pv 0) rfl)) (blkOk_by (own := [("block", 9)]) (N := ["self", "name", "numbers", "cells", "wants", "blocks", "cell", "access", "integers", "block"]) (sc := defScope s_Edition_init) (by decide +kernel)) (fun _ _ _ _ _ => pg_name (i := 9) sc_Edition_init.nd rfl (Or.inl rfl)) (fun _ _ _ _ _ => (pts_one (pt_val (pe_callB (id := "isinstance") (r := rIsi K) call_isi rfl (n_isinstance T) (by decide +kernel) (pa_cons (pv 9) (pa_cons (pe_glob (v := .ref _) rfl (g_Member T) rfl) pa_nil)))))) (fun _ _ _ _ _ => (pv 9))) pa_nil)) rfl)))))))), ?_⟩
    have n1 : nu ≠ o := ne_of hnu ho (by intro z; cases z)
    have n2 : ce ≠ o := ne_of hce ho (by intro z; cases z)
    have n3 : wa ≠ o := ne_of hwa ho (by intro z; cases z)
    have n4 : bl ≠ o := ne_of hbl ho (by intro z; cases z)
    have nq : ∀ q ∈ l, ∀ {H' : Hp}, Kp o H H' → BA K H' q.1 q.2 := fun q h H' kk => by
      have z := hq q h
      cases e : q.2 with
      | fst n as =>
        rw [e] at z
        obtain ⟨h1, h2, h3, dx2, t, r, h4, h5⟩ := z
        refine ⟨h1, h2, h3, dx2, t, r, kk _ _ (fun c => ?_) h4, kk _ _ (ne_of h5 ho (by intro z; cases z)) h5⟩
        subst c; rw [ho] at h4; injection h4 with h4; injection h4 with _ _ h4; exact putF_ne h4
      | mem n =>
        rw [e] at z
        obtain ⟨h1, dx2, r, h4⟩ := z
        refine ⟨h1, dx2, r, kk _ _ (fun c => ?_) h4⟩
        subst c; rw [ho] at h4; injection h4 with h4; injection h4 with _ _ h4; exact putF_ne h4
    -- name, numbers
    refine ⟨_, rfl, _, rfl, o, _, dx, [], rfl, ho, c_Edition T, na_Edition_name T, fn0, ?_⟩
    refine ⟨_, rfl, nu, [], rfl, .inl ((upd_ne n1).trans hnu), fun D1 hD1 => ⟨_, rfl, o, _, dx, _, rfl, (upd_ne (ne_of_none upd_same hD1)).trans upd_same, c_Edition T, na_Edition_numbers T, fkn (fk fk0), ?_⟩⟩
    have k1 : Kp o H (upd (upd (upd H o (.ins (He.ga K "Edition") dx (putF "name" (.str n) []))) D1 (.dK [])) o (.ins (He.ga K "Edition") dx (putF "numbers" (.ref D1) (putF "name" (.str n) [])))) := (Kp.refl.at.new hD1).at
    generalize hH1 : upd (upd (upd H o (.ins (He.ga K "Edition") dx (putF "name" (.str n) []))) D1 (.dK [])) o (.ins (He.ga K "Edition") dx (putF "numbers" (.ref D1) (putF "name" (.str n) []))) = H1 at k1 ⊢
    have o1 : H1 o = some (.ins (He.ga K "Edition") dx (putF "numbers" (.ref D1) (putF "name" (.str n) []))) := by rw [← hH1]; exact upd_same
    -- cells
    refine ⟨ce, .dK [], k1 _ _ n2 hce, trivial, fun od => ?_⟩
    refine ⟨_, rfl, ce, od, [], rfl, upd_same, fun D2 hD2 => ?_⟩
    have hD2' : H1 D2 = none := by
      by_cases c : D2 = ce
      · subst c; rw [upd_same] at hD2; cases hD2
      · rw [upd_ne c] at hD2; exact hD2
    have nD : ce ≠ D2 := fun c => by subst c; rw [k1 _ _ n2 hce] at hD2'; cases hD2'
    refine ⟨fun i m G => i = 0 ∧ G = upd (upd H1 ce (.frz od (.dK []))) D2 (.dK []), ⟨0, rfl, rfl⟩, ?_⟩
    rintro i m G ⟨rfl, rfl⟩
    refine .inl ⟨⟨(upd_ne nD).trans upd_same, Nat.le_refl _⟩, (upd_ne nD).trans upd_same, ?_⟩
    have nDo : D2 ≠ o := fun c => by subst c; rw [o1] at hD2'; cases hD2'
    have e1 : upd (upd (upd H1 ce (.frz od (.dK []))) D2 (.dK [])) ce (.dK []) = upd H1 D2 (.dK []) := by
      funext a
      by_cases c : a = ce
      · subst c; rw [upd_same, upd_ne nD]; exact (k1 _ _ n2 hce).symm
      · rw [upd_ne c]
        by_cases c2 : a = D2
        · subst c2; rw [upd_same, upd_same]
        · rw [upd_ne c2, upd_ne c2, upd_ne c]
    rw [e1]
    have k2 : Kp o H (upd H1 D2 (.dK [])) := k1.new hD2'
    have o2 : (upd H1 D2 (.dK [])) o = some (.ins (He.ga K "Edition") dx (putF "numbers" (.ref D1) (putF "name" (.str n) []))) := (upd_ne (Ne.symm nDo)).trans o1
    generalize upd H1 D2 (.dK []) = H2 at k2 o2 ⊢
    refine ⟨_, rfl, o, _, dx, _, rfl, o2, c_Edition T, na_Edition_cells T, fkn (fk (fk fk0)), ?_⟩
    -- wants, blocks
    have k3 : Kp o H (upd H2 o (.ins (He.ga K "Edition") dx (putF "cells" (.ref D2) (putF "numbers" (.ref D1) (putF "name" (.str n) []))))) := k2.at
    refine ⟨_, rfl, wa, [], rfl, .inr ⟨SqT.of (k3 _ _ n3 hwa), _, rfl, o, _, dx, _, rfl, upd_same, c_Edition T, na_Edition_wants T, fkn (fk (fk (fk fk0))), ?_⟩⟩
    rw [upd_upd]
    refine ⟨_, rfl, bl, _, rfl, .inr ⟨SqT.of (k2.at _ _ n4 hbl), _, rfl, o, _, dx, _, rfl, upd_same, c_Edition T, na_Edition_blocks T, fkn (fk (fk (fk (fk fk0)))), ?_⟩⟩
    rw [upd_upd]
    have k5 : Kp o H (upd H2 o (.ins (He.ga K "Edition") dx (putF "blocks" (.ref bl) (putF "wants" (.ref wa) (putF "cells" (.ref D2) (putF "numbers" (.ref D1) (putF "name" (.str n) []))))))) := k2.at
    have o5 : (upd H2 o (.ins (He.ga K "Edition") dx (putF "blocks" (.ref bl) (putF "wants" (.ref wa) (putF "cells" (.ref D2) (putF "numbers" (.ref D1) (putF "name" (.str n) []))))))) o = _ := upd_same
    generalize upd H2 o (.ins (He.ga K "Edition") dx (putF "blocks" (.ref bl) (putF "wants" (.ref wa) (putF "cells" (.ref D2) (putF "numbers" (.ref D1) (putF "name" (.str n) [])))))) = H5 at k5 o5 ⊢
    -- firsts
    refine ⟨_, rfl, o, _, dx, _, _, rfl, o5, c_Edition T, na_Edition_blocks T, fl1, bl, rfl, ⟨_, SqT.of (k5 _ _ n4 hbl)⟩, fun D3 hD3 => ?_⟩
    refine lc_tup (K := K) (a := bl) (xs := rf l) (fun i G => G = upd H5 D3 (.lst (rf ((l.take i).filter fun q => q.2.isF)))) rfl (fun i G _ e => by subst e; exact SqT.of ((upd_ne (ne_of_none (k5 _ _ n4 hbl) hD3)).trans (k5 _ _ n4 hbl))) ?_ ?_
    · rintro i x G hi rfl
      obtain ⟨q, hl, rfl⟩ := rf_at hi
      have qm := List.mem_of_getElem? hl
      obtain ⟨t, ty, kf, _⟩ := tyB T ((nq q qm k5).same (Same.new hD3 (o := .lst (rf ((l.take i).filter fun q => q.2.isF)))))
      refine ⟨rfl, _, rfl, .ref q.1, .ref (He.ga K "First"), t, _, q.2.isF, rfl, .own _, ty, kf, _, rfl, bC (fun b => ?_) fun b => ?_⟩
      · refine ⟨_, rfl, _, upd_same, sz2 (by rw [rf_len]; have := List.length_filter_le (fun q : At => q.2.isF) (l.take i); rw [List.length_take] at this; omega), ?_⟩
        rw [upd_upd, take_filter _ l hl, if_pos b]
        show _ = upd H5 D3 (.lst (List.map _ (_ ++ _)))
        rw [List.map_append]; rfl
      · show upd H5 D3 _ = upd H5 D3 (.lst (rf _))
        rw [take_filter _ l hl, if_neg (by rw [b]; exact nofun), List.append_nil]
    rintro G rfl
    rw [rf_len, List.take_length]
    refine ⟨D3, _, rfl, .inl ⟨SqL.of upd_same, fun F1 hF1 => ?_⟩⟩
    have no3 : o ≠ D3 := ne_of_none o5 hD3
    have noF : o ≠ F1 := ne_of_none ((upd_ne no3).trans o5) hF1
    refine ⟨_, rfl, o, _, dx, _, rfl, (upd_ne noF).trans ((upd_ne no3).trans o5), c_Edition T, na_Edition_firsts T, fkn (fk (fk (fk (fk (fk fk0))))), ?_⟩
    have k6 := ((k5.new hD3 (o := .lst (rf (l.filter fun q => q.2.isF)))).new hF1 (o := .tup (rf (l.filter fun q => q.2.isF)))).at (o := .ins (He.ga K "Edition") dx (putF "firsts" (.ref F1) (putF "blocks" (.ref bl) (putF "wants" (.ref wa) (putF "cells" (.ref D2) (putF "numbers" (.ref D1) (putF "name" (.str n) [])))))))
    have f6 : (upd (upd (upd H5 D3 (.lst (rf (l.filter fun q => q.2.isF)))) F1 (.tup (rf (l.filter fun q => q.2.isF)))) o (.ins (He.ga K "Edition") dx (putF "firsts" (.ref F1) (putF "blocks" (.ref bl) (putF "wants" (.ref wa) (putF "cells" (.ref D2) (putF "numbers" (.ref D1) (putF "name" (.str n) [])))))))) F1 = some (.tup (rf (l.filter fun q => q.2.isF))) := (upd_ne (Ne.symm noF)).trans upd_same
    have o6 : (upd (upd (upd H5 D3 (.lst (rf (l.filter fun q => q.2.isF)))) F1 (.tup (rf (l.filter fun q => q.2.isF)))) o (.ins (He.ga K "Edition") dx (putF "firsts" (.ref F1) (putF "blocks" (.ref bl) (putF "wants" (.ref wa) (putF "cells" (.ref D2) (putF "numbers" (.ref D1) (putF "name" (.str n) [])))))))) o = _ := upd_same
    generalize upd (upd (upd H5 D3 (.lst (rf (l.filter fun q => q.2.isF)))) F1 (.tup (rf (l.filter fun q => q.2.isF)))) o (.ins (He.ga K "Edition") dx (putF "firsts" (.ref F1) (putF "blocks" (.ref bl) (putF "wants" (.ref wa) (putF "cells" (.ref D2) (putF "numbers" (.ref D1) (putF "name" (.str n) []))))))) = H6 at k6 f6 o6 ⊢
    -- members
    refine ⟨_, rfl, o, _, dx, _, _, rfl, o6, c_Edition T, na_Edition_blocks T, fl2 (by decide +kernel) fl1, bl, rfl, ⟨_, SqT.of (k6 _ _ n4 hbl)⟩, fun D4 hD4 => ?_⟩
    refine lc_tup (K := K) (a := bl) (xs := rf l) (fun i G => G = upd H6 D4 (.lst (rf ((l.take i).filter fun q => !q.2.isF)))) rfl (fun i G _ e => by subst e; exact SqT.of ((upd_ne (ne_of_none (k6 _ _ n4 hbl) hD4)).trans (k6 _ _ n4 hbl))) ?_ ?_
    · rintro i x G hi rfl
      obtain ⟨q, hl, rfl⟩ := rf_at hi
      have qm := List.mem_of_getElem? hl
      obtain ⟨t, ty, _, kf⟩ := tyB T ((nq q qm k6).same (Same.new hD4 (o := .lst (rf ((l.take i).filter fun q => !q.2.isF)))))
      refine ⟨rfl, _, rfl, .ref q.1, .ref (He.ga K "Member"), t, _, !q.2.isF, rfl, .own _, ty, kf, _, rfl, bC (fun b => ?_) fun b => ?_⟩
      · refine ⟨_, rfl, _, upd_same, sz2 (by rw [rf_len]; have := List.length_filter_le (fun q : At => !q.2.isF) (l.take i); rw [List.length_take] at this; omega), ?_⟩
        rw [upd_upd, take_filter _ l hl, if_pos b]
        show _ = upd H6 D4 (.lst (List.map _ (_ ++ _)))
        rw [List.map_append]; rfl
      · show upd H6 D4 _ = upd H6 D4 (.lst (rf _))
        rw [take_filter _ l hl, if_neg (by rw [b]; exact nofun), List.append_nil]
    rintro G rfl
    refine ⟨D4, _, rfl, .inl ⟨SqL.of upd_same, fun F2 hF2 => ?_⟩⟩
    have no4 : o ≠ D4 := ne_of_none o6 hD4
    have noF2 : o ≠ F2 := ne_of_none ((upd_ne no4).trans o6) hF2
    refine ⟨_, rfl, o, _, dx, _, rfl, (upd_ne noF2).trans ((upd_ne no4).trans o6), c_Edition T, na_Edition_members T, fkn (fk (fk (fk (fk (fk (fk fk0)))))), ?_⟩
    have nF4 : F1 ≠ D4 := ne_of_none f6 hD4
    have nF5 : F1 ≠ F2 := ne_of_none ((upd_ne nF4).trans f6) hF2
    refine k _ ((k6.new hD4).new hF2).at ⟨dx, bl, F1, _, upd_same, fl2 (by decide +kernel) (fl2 (by decide +kernel) fl1), fl2 (by decide +kernel) fl1, ((k6.new hD4).new hF2).at _ _ n4 hbl, (upd_ne (Ne.symm noF)).trans ((upd_ne nF5).trans ((upd_ne nF4).trans f6)), fun q h => nq q h ((k6.new hD4).new hF2).at⟩
end
end K16
namespace K16
open PySem PySem.Spec PyProof.Rows L2 Cm
/-! ### the order of first blocks -/
def Bk.nm : Bk → Str
  | .fst n _ => n
  | .mem n => n
def Bk.af : Bk → List Str
  | .fst _ as => as
  | .mem _ => []
def inS (x : Str) (ys : List Str) : Bool := inV (.str x) (ys.map V.str)
def wait (fl : List At) (tk : List Str) : List At := fl.filter fun q => !inS q.2.nm tk
def redy (fl : List At) (tk : List Str) : List Str := ((wait fl tk).filter fun q => q.2.af.all fun x => inS x tk).map fun q => q.2.nm
def Due (fl : List At) (d : List Str) : Prop := d.length = fl.length ∧ ∀ k, k < fl.length → ∃ x, (redy fl (d.take k))[0]? = some x ∧ d[k]? = some x
theorem strs_flat (ys : List Str) : (ys.map V.str).all flatV = true := by
  rw [List.all_eq_true]
  intro v h
  obtain ⟨y, _, rfl⟩ := List.mem_map.mp h
  rfl
section
variable {P : Program} {w : World} {K : PySem.W.Frag} {mg : Str → Option Value} {base : Heap} {sa : Addr} {sx : List Int}
theorem fst_at {H : Hp} {l : List At} (hq : ∀ q ∈ l, BA K H q.1 q.2) {q : At} (h : q ∈ fsts l) :
    ∃ dx t fs, H q.1 = some (.ins (He.ga K "First") dx fs) ∧ fs.lookup ("name" : Str) = some (V.str q.2.nm) ∧ fs.lookup ("after" : Str) = some (V.ref t) ∧ H t = some (.tup (q.2.af.map V.str)) ∧ txOk q.2.nm ∧ q.2.af.length ≤ 3 := by
  obtain ⟨hm, hf⟩ := List.mem_filter.mp h
  obtain ⟨a, b⟩ := q
  have z := hq _ hm
  cases b with
  | mem n => cases hf
  | fst n as =>
    obtain ⟨h1, h2, h3, dx, t, r, h4, h5⟩ := z
    exact ⟨dx, t, _, h4, fl2 (by decide +kernel) (fl2 (by decide +kernel) fl1), fl2 (by decide +kernel) fl1, h5, h1, h2⟩
def spFo (K : PySem.W.Frag) : Sp := fun vs H Q _ => ∃ e l d, vs = [.ref e] ∧ EdA K H e l ∧ (fsts l).length ≤ 20 ∧ Due (fsts l) d ∧ ∀ a H', H a = none → Same H H' → H' a = some (.lst (d.map V.str)) → Q (.ref a) H'
theorem ok_first_order (T : Tx K mg sa sx) : Cal P w K mg base 1 "first_order" (spFo K) := by
  obtain ⟨fd, F⟩ := f_first_order T
  refine ⟨_, fd, ["edition"], fnok F sc_first_order (fun vs H Q E h => ?_) (fun cdv A outer s H vs Q E hr h => ?_), F.bindsN fun _ _ _ _ _ _ us hl => match us, hl with | [_], _ => rfl, g_first_order T, F.kp⟩
  · obtain ⟨e, l, d, rfl, _⟩ := h; rfl
  · obtain ⟨e, l, d, rfl, hE, lz, hD, k⟩ := h
    refine ⟨_, (pss_cons (ps_set (i := 1) sc_first_order.nd rfl (by first | exact Or.inl rfl | exact Or.inr rfl) (pe_lst pa_nil))
    (pss_cons (ps_while PassesOwn.never (pt_cmpR op_lt (pe_callB (id := "len") call_len_seq rfl (n_len T) (by decide +kernel) (pa_cons (pv 1) pa_nil)) (pe_callB (id := "len") call_len_seq rfl (n_len T) (by decide +kernel) (pa_cons (pe_fld (pv 0) rfl) pa_nil)) (nomark _))
      (pss_cons (ps_setLc (i := 2) (own := [("first", 3)]) (g := gName 3) rfl sc_first_order.nd rfl rfl (sw_true rfl rfl rfl (by decide +kernel)) (pi_tup (pe_fld (pv 0) rfl)) (blkOk_by (own := [("first", 3)]) (N := ["edition", "taken", "waiting", "first", "ready", "name"]) (sc := defScope s_first_order) (by decide +kernel)) (fun _ _ _ _ _ => pg_name (i := 3) sc_first_order.nd rfl (Or.inl rfl)) (fun _ _ _ _ _ => (pts_one (pt_cmpR (show OpR _ _ (rIn K true) from op_notIn_seq) (show PE _ _ (tFld K _ _) from pe_fld (pv 3) rfl) (pv 1) (by rfl)))) (fun _ _ _ _ _ => (pv 3)))
      (pss_cons (ps_setLc (i := 4) (own := [("first", 3)]) (g := gName 3) rfl sc_first_order.nd rfl rfl (sw_true rfl rfl rfl (by decide +kernel)) (pi_list (pv 2)) (blkOk_by (own := [("first", 3)]) (N := ["edition", "taken", "waiting", "first", "ready", "name"]) (sc := defScope s_first_order) (by decide +kernel)) (fun _ _ _ _ _ => pg_name (i := 3) sc_first_order.nd rfl (Or.inl rfl)) (fun _ _ _ _ _ => (pts_one (pt_val (pe_callB (id := "all") (r := rAll K) (cr_all rfl) rfl (n_all T) (by decide +kernel) (pa_cons (pe_lc (own := [("name", 5)]) (g := gName 5) rfl sc_first_order.nd (show PI _ _ _ (iTup K _) from pi_tup (show PE _ _ (tFld K _ _) from pe_fld (pv 3) rfl)) (blkOk_by (own := [("name", 5)]) (N := ["edition", "taken", "waiting", "first", "ready", "name"]) (by kernel_rfl)) (fun _ _ _ _ _ => pg_name (i := 5) sc_first_order.nd rfl (Or.inl rfl)) (fun _ _ _ _ _ => pts_nil) (fun _ _ _ _ _ => (pe_cmpR (show OpR _ _ (rIn K false) from op_in_seq) (pv 5) (pv 1) (by rfl)))) pa_nil))))) (fun _ _ _ _ _ => (show PE _ _ (tFld K _ _) from pe_fld (pv 3) rfl)))
      (pss_one (ps_expr (pe_bm PySem.F.plainAttrs_list PySem.F.slot_list_append PySem.F.type_list_append mt_append (pv 1) (pa_cons (pe_ix ix_list (pv 4) pe_int (fun _ _ => rfl)) pa_nil)))))))
    (pss_one (ps_ret (pv 1))))), ?_⟩
    obtain ⟨dx, bl, fi, fs, he, hbl, hfi, hbt, hft, hq⟩ := hE
    generalize hfl : fsts l = fl at lz hD hft
    have lrf : (rf fl).length = fl.length := rf_len
    refine ⟨sz1 (by simp), fun p hp => ?_⟩
    refine ⟨fun m σ G => ∃ (i : Nat) (k2 k3 k4 k5 : Option V), m = fl.length - i ∧ i ≤ fl.length ∧ σ = [some (.ref e), some (.ref p), k2, k3, k4, k5] ∧ G p = some (.lst ((d.take i).map V.str)) ∧ Same H G,
      ⟨fl.length, 0, none, none, none, none, rfl, Nat.zero_le _, rfl, upd_same, Same.new hp⟩, ?_⟩
    rintro m σ G ⟨i, k2, k3, k4, k5, rfl, hi, rfl, hG, sG⟩
    have lt : (d.take i).length = i := by rw [List.length_take, hD.1]; omega
    refine ⟨_, rfl, p, _, rfl, .inl (SqL.of hG), _, rfl, e, _, dx, fs, _, rfl, sG _ _ he, c_Edition T, na_Edition_firsts T, hfi, fi, _, rfl, .inr (SqT.of (sG _ _ hft)), _, _, rfl, rfl, _, rfl, ?_⟩
    rw [List.length_map, lt, lrf]
    refine dC (fun hlt => ?_) (fun hge => ?_)
    · have hlt' : i < fl.length := by omega
      obtain ⟨x, hx1, hx2⟩ := hD.2 i hlt'
      refine ⟨fun σ' G' => ∃ (k2 k3 k4 k5 : Option V), σ' = [some (.ref e), some (.ref p), k2, k3, k4, k5] ∧ G' p = some (.lst ((d.take (i + 1)).map V.str)) ∧ Same H G', fun σ' G' ⟨j2, j3, j4, j5, a, b, c⟩ => ⟨fl.length - (i + 1), by omega, i + 1, j2, j3, j4, j5, rfl, hlt', a, b, c⟩, ?_⟩
      -- waiting
      refine ⟨_, rfl, e, _, dx, fs, _, rfl, sG _ _ he, c_Edition T, na_Edition_firsts T, hfi, fi, rfl, ⟨_, SqT.of (sG _ _ hft)⟩, fun D hD1 => ?_⟩
      have sD : ∀ {u : HO}, Same G (upd G D u) := Same.new hD1
      refine lc_tup (K := K) (a := fi) (xs := rf fl) (fun j G' => G' = upd G D (.lst (rf ((fl.take j).filter fun q => !inS q.2.nm (d.take i))))) rfl (fun j G' _ z => by subst z; exact SqT.of (sD _ _ (sG _ _ hft))) ?_ ?_
      · rintro j x G' hj rfl
        obtain ⟨q, hl, rfl⟩ := rf_at hj
        have qm := List.mem_of_getElem? hl
        obtain ⟨dx2, t, gs, q1, q2, q3, q4, _, _⟩ := fst_at hq (q := q) (by rw [hfl]; exact qm)
        refine ⟨rfl, _, rfl, q.1, _, dx2, gs, _, rfl, sD _ _ (sG _ _ q1), c_First T, na_First_name T, q2, _, rfl, p, _, rfl, .inl (SqL.of (sD _ _ hG)), rfl, strs_flat _, _, rfl, bC (fun b => ?_) fun b => ?_⟩
        · refine ⟨_, rfl, _, upd_same, sz2 (by rw [rf_len]; have := List.length_filter_le (fun q : At => !inS q.2.nm (d.take i)) (fl.take j); rw [List.length_take] at this; omega), ?_⟩
          rw [upd_upd, take_filter _ fl hl, if_pos (show (!inS q.2.nm (d.take i)) = true from b)]
          show _ = upd G D (.lst (List.map _ (_ ++ _)))
          rw [List.map_append]; rfl
        · show upd G D _ = upd G D (.lst (rf _))
          rw [take_filter _ fl hl, if_neg (by rw [show (!inS q.2.nm (d.take i)) = false from b]; exact nofun), List.append_nil]
      rintro G' rfl
      rw [lrf, List.take_length]
      have e0 : (fl.filter fun q => !inS q.2.nm (d.take i)) = wait fl (d.take i) := rfl
      rw [e0]
      have wl : (wait fl (d.take i)).length ≤ 20 := Nat.le_trans (List.length_filter_le _ _) lz
      have wm : ∀ q ∈ wait fl (d.take i), q ∈ fl := fun q h => (List.mem_filter.mp h).1
      have hx3 := hx1
      unfold redy at hx3
      generalize wait fl (d.take i) = ws at wl wm hx3
      have sG1 : Same H (upd G D (.lst (rf ws))) := sG.mut (sG.free hD1)
      have hG1 : (upd G D (.lst (rf ws))) p = some (.lst ((d.take i).map V.str)) := sD _ _ hG
      have hD1' : (upd G D (.lst (rf ws))) D = some (.lst (rf ws)) := upd_same
      generalize upd G D (.lst (rf ws)) = G1 at sG1 hG1 hD1' ⊢
      -- ready
      refine ⟨_, rfl, D, rfl, ⟨_, SqL.of hD1'⟩, fun D2 hD2 => ?_⟩
      refine lc_list (K := K) (a := D) (xs := rf ws) (fun j G' => G' D2 = some (.lst (((ws.take j).filter fun q => q.2.af.all fun x => inS x (d.take i)).map fun q => V.str q.2.nm)) ∧ Same G1 G') ⟨upd_same, Same.new hD2⟩ (fun j G' _ z => SqL.of (z.2 _ _ hD1')) ?_ ?_
      · rintro j x G2 hj ⟨hG2, sG2⟩
        obtain ⟨q, hl, rfl⟩ := rf_at hj
        have qm := wm q (List.mem_of_getElem? hl)
        obtain ⟨dx2, t, gs, q1, q2, q3, q4, _, ql⟩ := fst_at hq (q := q) (by rw [hfl]; exact qm)
        have sH2 : Same H G2 := sG1.trans sG2
        refine ⟨rfl, _, rfl, q.1, _, dx2, gs, _, rfl, sH2 _ _ q1, c_First T, na_First_after T, q3, t, rfl, ⟨_, SqT.of (sH2 _ _ q4)⟩, fun D3 hD3 => ?_⟩
        have s3 : ∀ {u : HO}, Same G2 (upd G2 D3 u) := Same.new hD3
        refine lc_tup (K := K) (a := t) (xs := q.2.af.map V.str) (fun jj G' => G' = upd G2 D3 (.lst ((q.2.af.take jj).map fun x => V.bl (inS x (d.take i))))) rfl (fun jj G' _ z => by subst z; exact SqT.of (s3 _ _ (sH2 _ _ q4))) ?_ ?_
        · rintro jj x G' hjj rfl
          rw [List.getElem?_map] at hjj
          obtain ⟨y, hy, rfl⟩ : ∃ y, q.2.af[jj]? = some y ∧ V.str y = x := by
            cases e : q.2.af[jj]? with
            | none => rw [e] at hjj; cases hjj
            | some y => rw [e] at hjj; exact ⟨y, rfl, Option.some.inj hjj⟩
          refine ⟨rfl, _, rfl, _, rfl, p, _, rfl, .inl (SqL.of (s3 _ _ (sG2 _ _ hG1))), rfl, strs_flat _, _, upd_same, sz2 (by rw [List.length_map, List.length_take]; omega), ?_⟩
          rw [upd_upd, List.take_add_one, hy, List.map_append]
          rfl
        · rintro G' rfl
          rw [List.length_map, List.take_length]
          refine ⟨D3, q.2.af.map fun x => inS x (d.take i), rfl, SqL.of (by rw [upd_same, List.map_map]; rfl), _, rfl, ?_⟩
          have eb : ((q.2.af.map fun x => inS x (d.take i)).all id) = (q.2.af.all fun x => inS x (d.take i)) := by rw [List.all_map]; rfl
          have n23 : D2 ≠ D3 := ne_of_none hG2 hD3
          rw [eb]
          refine bC (fun b => ?_) (fun b => ?_)
          · refine ⟨_, rfl, q.1, _, dx2, gs, _, rfl, s3 _ _ (sH2 _ _ q1), c_First T, na_First_name T, q2, _, s3 _ _ hG2, sz2 (by rw [List.length_map]; have := List.length_filter_le (fun q : At => q.2.af.all fun x => inS x (d.take i)) (ws.take j); rw [List.length_take] at this; omega), ?_, Same.mut (sG2.trans s3) hD2⟩
            rw [upd_same, take_filter _ ws hl, if_pos b, List.map_append]
            rfl
          · refine ⟨?_, sG2.trans s3⟩
            rw [take_filter _ ws hl, if_neg (by rw [b]; exact nofun), List.append_nil]
            exact s3 _ _ hG2
      · rintro G2 ⟨hG2, sG2⟩
        rw [rf_len, List.take_length] at hG2
        have h0 : (((ws.filter fun q => q.2.af.all fun x => inS x (d.take i)).map fun q => V.str q.2.nm))[0]? = some (V.str x) := by
          have z := congrArg (Option.map V.str) hx3
          rw [← List.getElem?_map, List.map_map] at z
          exact z
        refine ⟨_, rfl, .inl ⟨rfl, _, SqL.of (sG2 _ _ hG1)⟩, _, rfl, D2, _, 0, V.str x, rfl, rfl, SqL.of hG2, at_of (j := 0) rfl h0, p, _, _, rfl, rfl, sG2 _ _ hG1, sz2 (by rw [List.length_map]; omega), ?_⟩
        refine ⟨_, _, _, _, rfl, ?_, (sG1.trans sG2).mut hp⟩
        rw [upd_same, List.take_add_one, hx2, List.map_append]
        rfl
    · have hi2 : i = fl.length := by omega
      subst hi2
      have e2 : d.take fl.length = d := by rw [← hD.1]; exact List.take_length
      rw [e2] at hG
      exact ⟨_, rfl, k p _ hp sG hG⟩
end
end K16
namespace K16
open PySem PySem.Spec PyProof.Rows L2 Cm
/-! ### the bag -/
def Bag (H : Hp) (p : Addr) : Prop := ∃ b m : Int, H p = some (.lst [V.int b, V.int m]) ∧ 0 ≤ b ∧ 0 ≤ m
theorem Bag.kp {H H' : Hp} {p q : Addr} (h : Bag H p) (k : Kp q H H') (n : p ≠ q) : Bag H' p := let ⟨b, m, e, r⟩ := h; ⟨b, m, k _ _ n e, r⟩
theorem Bag.same {H H' : Hp} {p : Addr} (h : Bag H p) (k : Same H H') : Bag H' p := let ⟨b, m, e, r⟩ := h; ⟨b, m, k _ _ e, r⟩
theorem Bag.ne {H : Hp} {p q : Addr} (h : Bag H p) (k : H q = none) : p ≠ q := let ⟨_, _, e, _⟩ := h; ne_of_none e k
theorem Bag.ne_of {H : Hp} {p q x : Addr} (h : Bag H p) (e : H q = some (.lst [V.ref x])) : q ≠ p := by
  rintro rfl
  obtain ⟨b, m, e2, _⟩ := h
  rw [e] at e2
  cases e2
theorem Same.sl {K : PySem.W.Frag} {a : Addr} {H H' : Hp} {xs : List V} (k : Same H H') (h : SqL K H a xs) : SqL K H' a xs :=
  h.elim (fun h => .inl (h.elim (fun h => .inl (k _ _ h)) fun ⟨o, h⟩ => .inr ⟨o, k _ _ h⟩)) .inr
theorem Same.kp {H H' : Hp} {p : Addr} (s : Same H H') : Kp p H H' := fun a o _ h => s a o h
theorem kmut {H H' : Hp} {p q : Addr} {o : HO} (s : Kp p H H') (h : H q = none) : Kp p H (upd H' q o) := fun c u n e => by rw [upd_ne (ne_of_none e h)]; exact s c u n e
theorem kfree {H H' : Hp} {p q : Addr} (s : Kp p H H') (n : q ≠ p) (h : H' q = none) : H q = none := by
  cases e : H q with
  | none => rfl
  | some o => rw [s _ _ n e] at h; cases h
theorem cd {m : Int} (h0 : 0 < m) (h : m ≤ 1000000) : CDivW 0 m :=
  ⟨h0, Nat.lt_of_lt_of_le (PySem.Flt.log2_lt_of (k := 20) (by decide) (show m.natAbs < 2 ^ 20 by omega)) (by decide)⟩
theorem cut_ints (ns : List Int) (lo hi : Option Int) : ∃ ms : List Int, cutV (ns.map V.int) lo hi = ms.map V.int ∧ ms.length ≤ ns.length := by
  have h := cutV_length (ns.map V.int) lo hi
  unfold cutV at h ⊢
  rw [← List.map_drop, ← List.map_take] at h ⊢
  exact ⟨_, rfl, by simpa using h⟩
def spTake : Sp := fun vs H Q _ => ∃ p m, vs = [.ref p, .int m] ∧ Bag H p ∧ 0 < m ∧ m ≤ 1000000 ∧ ∀ r H', 0 ≤ r → r < m → Kp p H H' → Bag H' p → Q (.int r) H'
def spOf (K : PySem.W.Frag) : Sp := fun vs H Q _ => ∃ p q xs, vs = [.ref p, .ref q] ∧ H q = some (.lst xs) ∧ 0 < xs.length ∧ xs.length ≤ 1000 ∧ Bag H p ∧ p ≠ q ∧ ∀ v H', v ∈ xs → Kp p H H' → Bag H' p → Q v H'
section
variable {P : Program} {w : World} {K : PySem.W.Frag} {mg : Str → Option Value} {base : Heap} {sa : Addr} {sx : List Int}
def spBag (K : PySem.W.Frag) : Sp := fun vs H Q _ => ∃ (a : Addr) (ns : List Int) (i : Int), vs = [.ref a, .int i] ∧ SqL K H a (ns.map V.int) ∧ 0 ≤ i ∧ i < 100 ∧ ∀ p H', H p = none → Same H H' → Bag H' p → Q (.ref p) H'
theorem ok_l_bag (T : Tx K mg sa sx) : Cal P w K mg base 1 "_law_bag" (spBag K) := by
  obtain ⟨fd, F⟩ := f_l_bag T
  refine ⟨_, fd, ["_law_script", "_law_at"], fnok F sc_l_bag (fun vs H Q E h => ?_) (fun cdv A outer s H vs Q E hr h => ?_), F.bindsN fun _ _ _ _ _ _ us hl => match us, hl with | [_, _], _ => rfl, g__law_bag T, F.kp⟩
  · obtain ⟨a, ns, i, rfl, _⟩ := h; rfl
  · obtain ⟨a, ns, i, rfl, hS, i0, i1, k⟩ := h
    refine ⟨_, (pss_cons (ps_set (i := 2) sc_l_bag.nd rfl (by first | exact Or.inl rfl | exact Or.inr rfl) (pe_ifExp (pt_cmpR op_lt (pv 1) (pe_callB (id := "len") call_len_seq rfl (n_len T) (by decide +kernel) (pa_cons (pv 0) pa_nil)) (nomark _)) (pe_ix ix_list (pv 0) (pv 1) (fun _ _ => rfl)) pe_int))
    (pss_cons (ps_set (i := 3) sc_l_bag.nd rfl (by first | exact Or.inl rfl | exact Or.inr rfl) (pe_op op_add (pe_op op_mul pe_int (pv 1)) pe_int))
    (pss_cons (ps_for PassesOwn.never rfl (pi_enum rfl (n_enumerate T) (pa_cons (pe_slice sl_list (pv 0) po_none (po_some pe_int)) pa_nil)) (pg_tup (by rfl) (pgs_cons (pg_name (i := 4) sc_l_bag.nd rfl (by first | exact Or.inl rfl | exact Or.inr rfl)) (pgs_cons (pg_name (i := 5) sc_l_bag.nd rfl (by first | exact Or.inl rfl | exact Or.inr rfl)) pgs_nil)))
      (pss_one (ps_set (i := 3) sc_l_bag.nd rfl (by first | exact Or.inl rfl | exact Or.inr rfl) (pe_op op_mod (pe_callTy (T := "int") call_int1 rfl (n_int T) (by decide +kernel) (pa_cons (pe_op op_add (pe_op op_add (pe_op op_mul (pv 3) pe_int) (pe_op op_mod (pe_callTy (T := "int") call_int1 rfl (n_int T) (by decide +kernel) (pa_cons (pv 5) pa_nil)) pe_int)) (pe_op op_mul pe_int (pv 4))) pa_nil)) pe_int))))
    (pss_one (ps_ret (pe_lst (pa_cons (pe_ifExp (pt_cmpR op_ge (pe_callB (id := "abs") call_abs rfl (n_abs T) (by decide +kernel) (pa_cons (pv 2) pa_nil)) (pe_op op_pow pe_int pe_int) (nomark _)) (pe_callB (id := "abs") call_abs rfl (n_abs T) (by decide +kernel) (pa_cons (pv 2) pa_nil)) pe_int) (pa_cons (pv 3) pa_nil)))))))), ?_⟩
    refine ⟨_, rfl, _, rfl, a, _, rfl, .inl hS, _, _, rfl, rfl, _, rfl, dC (fun hi => have hi2 : i.toNat < ns.length := (by rw [List.length_map] at hi; omega); ⟨_, rfl, _, rfl, a, _, i, V.int (ns[i.toNat]'hi2), rfl, rfl, hS, at_of (j := i.toNat) (by omega) (by simp [hi2]), ?_⟩) (fun hi => ?_)⟩
    all_goals
      refine ⟨_, rfl, _, _, rfl, rfl, .inl ⟨by decide, by decide⟩, _, _, rfl, rfl, ?_⟩
      refine ⟨_, rfl, _, rfl, a, _, rfl, hS, fun L hL => ⟨L, _, rfl, SqL.of upd_same, ?_⟩⟩
      obtain ⟨ms, em, _⟩ := cut_ints ns none (some 60)
      rw [em]
      refine for_it (walk_enum (K := K) (a := L) (xs := ms.map V.int)) (fun j σ H' => ∃ (c m : Int) (k4 k5 : Option V), σ = [some (.ref a), some (.int i), some (.int c), some (.int m), k4, k5] ∧ 0 ≤ m ∧ Same H H' ∧ H' L = some (.lst (ms.map V.int))) ⟨_, _, none, none, rfl, by omega, Same.new hL, upd_same⟩ (fun j σ H' _ ⟨_, _, _, _, _, _, _, z⟩ => SqL.of z) ?_ ?_
      · rintro j x σ G G' hj ⟨c, m, k4, k5, rfl, m0, sG, gL⟩ ⟨Tp, x1, x2, rfl, hT, rfl, ex1, ex2⟩
        cases (Option.some.inj ex1)
        have ex3 : (ms.map V.int)[j]? = some x2 := ex2
        rw [List.getElem?_map] at ex3
        obtain ⟨y, hy, rfl⟩ : ∃ y, ms[j]? = some y ∧ V.int y = x2 := by
          cases e : ms[j]? with
          | none => rw [e] at ex3; cases ex3
          | some y => rw [e] at ex3; exact ⟨y, rfl, Option.some.inj ex3⟩
        refine ⟨Tp, _, rfl, SqT.of upd_same, rfl, _, _, rfl, _, _, rfl, rfl, ?_⟩
        refine ⟨_, rfl, _, _, rfl, rfl, .inr ⟨by decide, by decide⟩, _, rfl, .inl ⟨_, rfl, _, _, rfl, rfl, (by show (0 : Int) < 2147483563; decide), _, _, rfl, rfl, _, rfl, _, _, rfl, rfl, .inl ⟨by decide, by decide⟩, _, _, rfl, rfl, .inl ⟨_, rfl, _, _, rfl, rfl, (by show (0 : Int) < 2147483399; decide), ?_⟩⟩⟩
        exact ⟨_, _, _, _, rfl, Int.emod_nonneg _ (by decide), sG.mut (sG.free hT), (upd_ne (ne_of_none gL hT)).trans gL⟩
      · rintro σ G ⟨c, m, k4, k5, rfl, m0, sG, gL⟩
        refine ⟨_, rfl, _, rfl, _, _, rfl, rfl, ⟨by decide, by decide, by decide⟩, _, _, rfl, rfl, _, rfl, dC (fun hc => ?_) (fun hc => ?_)⟩
        · refine ⟨_, rfl, _, rfl, _, rfl, sz1 (by simp), fun q hq => ?_⟩
          exact k q _ (sG.free hq) (sG.mut (sG.free hq)) ⟨_, m, upd_same, by split <;> omega, m0⟩
        · refine ⟨_, rfl, sz1 (by simp), fun q hq => ?_⟩
          exact k q _ (sG.free hq) (sG.mut (sG.free hq)) ⟨0, m, upd_same, Int.le_refl _, m0⟩
theorem ok_l_take (T : Tx K mg sa sx) : Cal P w K mg base 1 "_law_take" spTake := by
  obtain ⟨fd, F⟩ := f_l_take T
  refine ⟨_, fd, ["_law_bag_here", "_law_many"], fnok F sc_l_take (fun vs H Q E h => ?_) (fun cdv A outer s H vs Q E hr h => ?_), F.bindsN fun _ _ _ _ _ _ us hl => match us, hl with | [_, _], _ => rfl, g__law_take T, F.kp⟩
  · obtain ⟨p, m, rfl, _⟩ := h; rfl
  · obtain ⟨p, m, rfl, ⟨b, x, hp, b0, x0⟩, m0, m1, k⟩ := h
    refine ⟨_, (pss_cons (ps_if (pt_cmpR op_gt (pe_ix ix_list (pv 0) pe_int (fun _ _ => rfl)) pe_int (nomark _)) (pss_cons (ps_set (i := 2) sc_l_take.nd rfl (by first | exact Or.inl rfl | exact Or.inr rfl) (pe_op op_mod (pe_callTy (T := "int") call_int1 rfl (n_int T) (by decide +kernel) (pa_cons (pe_ix ix_list (pv 0) pe_int (fun _ _ => rfl)) pa_nil)) (pv 1)))
      (pss_cons (ps_asg (pe_op op_fdivW (pe_ix ix_list (pv 0) pe_int (fun _ _ => rfl)) (pv 1)) (pg_sub (pv 0) pe_int set_list))
      (pss_one (ps_ret (pv 2))))) pss_nil)
    (pss_cons (ps_asg (pe_op op_mod (pe_callTy (T := "int") call_int1 rfl (n_int T) (by decide +kernel) (pa_cons (pe_op op_add (pe_op op_mul (pe_ix ix_list (pv 0) pe_int (fun _ _ => rfl)) pe_int) pe_int) pa_nil)) pe_int) (pg_sub (pv 0) pe_int set_list))
    (pss_one (ps_ret (pe_op op_mod (pe_op op_fdivW (pe_op op_mod (pe_callTy (T := "int") call_int1 rfl (n_int T) (by decide +kernel) (pa_cons (pe_op op_mul (pe_op op_fdivW (pe_ix ix_list (pv 0) pe_int (fun _ _ => rfl)) pe_int) pe_int) pa_nil)) pe_int) pe_int) (pv 1)))))), ?_⟩
    have ix : ∀ {H' : Hp} {xs : List V}, H' p = some (.lst xs) → SqL K H' p xs := fun h => SqL.of h
    refine ⟨_, rfl, p, _, 0, _, rfl, rfl, ix hp, rfl, _, _, rfl, rfl, _, rfl, dC (fun hb => ?_) (fun hb => ?_)⟩
    · refine ⟨_, rfl, p, _, 0, _, rfl, rfl, ix hp, rfl, .inl ⟨_, rfl, _, rfl, _, _, rfl, rfl, m0, ?_⟩⟩
      refine ⟨_, rfl, p, _, 0, _, rfl, rfl, ix hp, rfl, _, rfl, _, _, rfl, rfl, cd m0 m1, _, rfl, p, _, 0, 0, rfl, rfl, hp, rfl, ?_⟩
      exact ⟨_, rfl, k _ _ (Int.emod_nonneg _ (by omega)) (Int.emod_lt_of_pos _ m0) Kp.refl.at ⟨_, _, upd_same, Int.ediv_nonneg b0 (by omega), x0⟩⟩
    · refine ⟨_, rfl, p, _, 1, _, rfl, rfl, ix hp, rfl, _, _, rfl, rfl, .inr ⟨by decide, by decide⟩, _, _, rfl, rfl, .inl ⟨_, rfl, _, _, rfl, rfl, (by show (0 : Int) < 2147483629; decide), _, rfl, p, _, 1, 1, rfl, rfl, hp, rfl, ?_⟩⟩
      refine ⟨_, rfl, p, _, 1, _, rfl, rfl, ix upd_same, rfl, _, _, rfl, rfl, cd (by decide) (by decide), _, _, rfl, rfl, .inr ⟨by decide, by decide⟩, .inl ⟨_, rfl, _, _, rfl, rfl, (by show (0 : Int) < 2147483647; decide), _, _, rfl, rfl, cd (by decide) (by decide), _, rfl, _, _, rfl, rfl, m0, ?_⟩⟩
      exact k _ _ (Int.emod_nonneg _ (by omega)) (Int.emod_lt_of_pos _ m0) Kp.refl.at ⟨_, _, upd_same, b0, Int.emod_nonneg _ (by decide)⟩
theorem ok_l_of (T : Tx K mg sa sx) : Cal P w K mg base 2 "_law_of" (spOf K) := by
  obtain ⟨fd, F⟩ := f_l_of T
  refine ⟨_, fd, ["_law_bag_here", "_law_some"], fnok F sc_l_of (fun vs H Q E h => ?_) (fun cdv A outer s H vs Q E hr h => ?_), F.bindsN fun _ _ _ _ _ _ us hl => match us, hl with | [_, _], _ => rfl, g__law_of T, F.kp⟩
  · obtain ⟨p, q, xs, rfl, _⟩ := h; rfl
  · obtain ⟨p, q, xs, rfl, hq, x0, x1, hB, n, k⟩ := h
    refine ⟨_, (pss_one (ps_ret (pe_ix ix_list (pv 1) (pe_cal (ok_l_take T) hr (by decide) (pa_cons (pv 0) (pa_cons (pe_callB (id := "len") call_len_seq rfl (n_len T) (by decide +kernel) (pa_cons (pv 1) pa_nil)) pa_nil))) (fun _ _ => rfl)))), ?_⟩
    refine ⟨_, rfl, _, rfl, _, rfl, q, _, rfl, .inl (SqL.of hq), p, (xs.length : Int), rfl, hB, by omega, by omega, fun r H1 r0 r1 k1 b1 => ?_⟩
    have hr2 : r.toNat < xs.length := by omega
    exact ⟨q, xs, r, xs[r.toNat], rfl, rfl, SqL.of (k1 _ _ (Ne.symm n) hq), at_of (j := r.toNat) (by omega) (by simp [hr2]), k _ _ (List.getElem_mem hr2) k1 b1⟩
end
end K16
namespace K16
open PySem PySem.Spec PyProof.Rows L2 Cm
/-! ### names -/
def one (st : Int) (j : Nat) : Str := ⟨#[97 + ((st + 7 * (0 + (j : Int))) % 26).toNat]⟩
def nm (b : Bool) (st : Int) (stem : Str) (j : Nat) : Str := if b = true then ((⟨#[97 + st.toNat]⟩ : Str) ++ stem) ++ one st j else one st j ++ stem
theorem let_at : ∀ j : Fin 26, atI (("abcdefghijklmnopqrstuvwxyz" : Str)).cps.toList ((j.val : Nat) : Int) = some (97 + j.val) := by decide +kernel
theorem let_at2 {k : Int} (h0 : 0 ≤ k) (h1 : k < 26) : atI (("abcdefghijklmnopqrstuvwxyz" : Str)).cps.toList k = some (97 + k.toNat) := by
  have z := let_at ⟨k.toNat, by omega⟩
  have e : ((k.toNat : Nat) : Int) = k := by omega
  rw [show (((⟨k.toNat, by omega⟩ : Fin 26).val : Nat) : Int) = k from e] at z
  exact z
theorem sgn_at : ∀ j : Fin 36, ∃ c, atI (("abcdefghijklmnopqrstuvwxyz0123456789" : Str)).cps.toList ((j.val : Nat) : Int) = some c ∧ c < 128 := by
  have h : ∀ j : Fin 36, ((atI (("abcdefghijklmnopqrstuvwxyz0123456789" : Str)).cps.toList ((j.val : Nat) : Int)).map fun c => decide (c < 128)) = some true := by decide +kernel
  intro j
  have z := h j
  cases e : atI (("abcdefghijklmnopqrstuvwxyz0123456789" : Str)).cps.toList ((j.val : Nat) : Int) with
  | none => rw [e] at z; cases z
  | some c => rw [e] at z; exact ⟨c, rfl, of_decide_eq_true (Option.some.inj z)⟩
theorem sgn_at2 {k : Int} (h0 : 0 ≤ k) (h1 : k < 36) : ∃ c, atI (("abcdefghijklmnopqrstuvwxyz0123456789" : Str)).cps.toList k = some c ∧ c < 128 := by
  have z := sgn_at ⟨k.toNat, by omega⟩
  have e : ((k.toNat : Nat) : Int) = k := by omega
  rw [show (((⟨k.toNat, by omega⟩ : Fin 36).val : Nat) : Int) = k from e] at z
  exact z
def stemOf (cs : List Nat) : Str := Txt.join "" (cs.map fun c => ⟨#[c]⟩)
theorem stem_list : ∀ cs : List Nat, (stemOf cs).cps.toList = cs := by
  intro cs
  have e : TL.tl (stemOf cs) = TL.joinL (TL.tl "") ((cs.map fun c => (⟨#[c]⟩ : Str)).map TL.tl) := by
    unfold stemOf
    rw [TL.join_eq, TL.tl_join]
  have e0 : TL.tl ("" : Str) = [] := by decide +kernel
  rw [e0, List.map_map] at e
  have f : ∀ cs : List Nat, TL.joinL [] (cs.map (TL.tl ∘ fun c => (⟨#[c]⟩ : Str))) = cs := by
    intro cs
    induction cs with
    | nil => rfl
    | cons c cs ih =>
      cases cs with
      | nil => rfl
      | cons d cs =>
        show [c] ++ ([] ++ TL.joinL [] ((d :: cs).map (TL.tl ∘ fun c => (⟨#[c]⟩ : Str)))) = _
        rw [ih]; rfl
  exact e.trans (f cs)
def small (s : Str) (n : Nat) : Prop := s.length ≤ n ∧ ∀ c ∈ s.cps.toList, c < 128
theorem small_app {s t : Str} {n m : Nat} (h : small s n) (g : small t m) : small (s ++ t) (n + m) := by
  refine ⟨by rw [app_len]; have := h.1; have := g.1; omega, fun c hc => ?_⟩
  have e : (s ++ t).cps.toList = s.cps.toList ++ t.cps.toList := by
    show (s.cps ++ t.cps).toList = _
    exact Array.toList_append
  rw [e] at hc
  exact (List.mem_append.mp hc).elim (h.2 c) (g.2 c)
theorem small_ok {s : Str} {n : Nat} (h : small s n) (hn : n ≤ 100) : txOk s := ⟨Nat.le_trans h.1 hn, h.2⟩
theorem small_one {st : Int} {j : Nat} : small (one st j) 1 := by
  refine ⟨Nat.le_refl _, fun c hc => ?_⟩
  have e : c = 97 + ((st + 7 * (0 + (j : Int))) % 26).toNat := by simpa [one] using hc
  have := Int.emod_lt_of_pos (st + 7 * (0 + (j : Int))) (show (0 : Int) < 26 by decide)
  omega
theorem small_chr {k : Int} (h0 : 0 ≤ k) (h1 : k < 26) : small ⟨#[97 + k.toNat]⟩ 1 := by
  refine ⟨Nat.le_refl _, fun c hc => ?_⟩
  have e : c = 97 + k.toNat := by simpa using hc
  omega
theorem app_inj_l {a b c : Str} (h : a ++ b = a ++ c) : b = c := by
  have z := congrArg (fun s : Str => s.cps.toList) h
  have e : ∀ x y : Str, (x ++ y).cps.toList = x.cps.toList ++ y.cps.toList := fun x y => by
    show (x.cps ++ y.cps).toList = _
    exact Array.toList_append
  simp only [e] at z
  have z2 := List.append_cancel_left z
  cases b; cases c
  congr
  exact Array.ext' z2
theorem app_inj_r {a b c : Str} (h : b ++ a = c ++ a) : b = c := by
  have z := congrArg (fun s : Str => s.cps.toList) h
  have e : ∀ x y : Str, (x ++ y).cps.toList = x.cps.toList ++ y.cps.toList := fun x y => by
    show (x.cps ++ y.cps).toList = _
    exact Array.toList_append
  simp only [e] at z
  have z2 := List.append_cancel_right z
  cases b; cases c
  congr
  exact Array.ext' z2
theorem one_ne {st : Int} {i j : Nat} (hi : i < 3) (hj : j < 3) (h : i ≠ j) : one st i ≠ one st j := by
  intro e
  have z : #[97 + ((st + 7 * (0 + (i : Int))) % 26).toNat] = #[97 + ((st + 7 * (0 + (j : Int))) % 26).toNat] := congrArg Str.cps e
  have z2 : 97 + ((st + 7 * (0 + (i : Int))) % 26).toNat = 97 + ((st + 7 * (0 + (j : Int))) % 26).toNat := by simpa using z
  omega
theorem nm_ne {b : Bool} {st : Int} {stem : Str} {i j : Nat} (hi : i < 3) (hj : j < 3) (h : i ≠ j) : nm b st stem i ≠ nm b st stem j := by
  intro e
  unfold nm at e
  cases b with
  | true => exact one_ne hi hj h (app_inj_l e)
  | false => exact one_ne hi hj h (app_inj_r e)
theorem nm_ok {b : Bool} {st : Int} {stem : Str} {j : Nat} (h0 : 0 ≤ st) (h1 : st < 26) (hs : small stem 10) : txOk (nm b st stem j) := by
  unfold nm
  cases b with
  | true => exact small_ok (small_app (small_app (small_chr h0 h1) hs) small_one) (by decide)
  | false => exact small_ok (small_app small_one hs) (by decide)
def Ok3 (x y z : Str) : Prop := (txOk x ∧ txOk y ∧ txOk z) ∧ x ≠ y ∧ x ≠ z ∧ y ≠ z
section
variable {P : Program} {w : World} {K : PySem.W.Frag} {mg : Str → Option Value} {base : Heap} {sa : Addr} {sx : List Int}
def spNames : Sp := fun vs H Q _ => ∃ p, vs = [.ref p, .int 3] ∧ Bag H p ∧ ∀ l H' x y z, H l = none → Kp p H H' → Bag H' p → H' l = some (.lst [V.str x, V.str y, V.str z]) → Ok3 x y z → Q (.ref l) H'
theorem ok_l_names (T : Tx K mg sa sx) : Cal P w K mg base 3 "_law_names" spNames := by
  obtain ⟨fd, F⟩ := f_l_names T
  refine ⟨_, fd, ["_law_bag_here", "_law_many"], fnok F sc_l_names (fun vs H Q E h => ?_) (fun cdv A outer s H vs Q E hr h => ?_), F.bindsN fun _ _ _ _ _ _ us hl => match us, hl with | [_, _], _ => rfl, g__law_names T, F.kp⟩
  · obtain ⟨p, rfl, _⟩ := h; rfl
  · obtain ⟨p, rfl, hB, k⟩ := h
    refine ⟨_, (pss_cons (ps_asg (pe_tup (pa_cons pe_str (pa_cons pe_str pa_nil))) (pg_tup (by rfl) (pgs_cons (pg_name (i := 2) sc_l_names.nd rfl (by first | exact Or.inl rfl | exact Or.inr rfl)) (pgs_cons (pg_name (i := 3) sc_l_names.nd rfl (by first | exact Or.inl rfl | exact Or.inr rfl)) pgs_nil))))
    (pss_cons (ps_set (i := 4) sc_l_names.nd rfl (by first | exact Or.inl rfl | exact Or.inr rfl) (pe_join pe_str (pe_lc (own := [("_law_k", 5)]) (g := gName 5) rfl sc_l_names.nd (pi_range1 rfl (n_range T) (pa_cons (pe_cal (ok_l_of T) hr (by decide) (pa_cons (pv 0) (pa_cons (pe_lst (pa_cons pe_int (pa_cons pe_int (pa_cons pe_int (pa_cons pe_int (pa_cons pe_int pa_nil)))))) pa_nil))) pa_nil)) (blkOk_by (own := [("_law_k", 5)]) (N := ["_law_bag_here", "_law_many", "_law_letters", "_law_signs", "_law_stem", "_law_k", "_law_start", "_law_is_behind", "_law_some", "_law_one"]) (sc := defScope s_l_names) (by decide +kernel)) (fun _ _ _ _ _ => pg_name (i := 5) sc_l_names.nd rfl (Or.inl rfl)) (fun _ _ _ _ _ => pts_nil) (fun _ _ _ _ _ => (pe_ix ix_str (pv 3) (pe_cal (ok_l_take T) hr (by decide) (pa_cons (pv 0) (pa_cons pe_int pa_nil))) (fun _ _ => rfl))))))
    (pss_cons (ps_asg (pe_tup (pa_cons (pe_cal (ok_l_take T) hr (by decide) (pa_cons (pv 0) (pa_cons pe_int pa_nil))) (pa_cons (pe_cmpR op_eq (pe_cal (ok_l_take T) hr (by decide) (pa_cons (pv 0) (pa_cons pe_int pa_nil))) pe_int (nomark _)) pa_nil))) (pg_tup (by rfl) (pgs_cons (pg_name (i := 6) sc_l_names.nd rfl (by first | exact Or.inl rfl | exact Or.inr rfl)) (pgs_cons (pg_name (i := 7) sc_l_names.nd rfl (by first | exact Or.inl rfl | exact Or.inr rfl)) pgs_nil))))
    (pss_cons (ps_setLc (i := 8) (own := [("_law_k", 5)]) (g := gName 5) rfl sc_l_names.nd rfl rfl (sw_true rfl rfl rfl (by decide +kernel)) (pi_range1 rfl (n_range T) (pa_cons (pv 1) pa_nil)) (blkOk_by (own := [("_law_k", 5)]) (N := ["_law_bag_here", "_law_many", "_law_letters", "_law_signs", "_law_stem", "_law_k", "_law_start", "_law_is_behind", "_law_some", "_law_one"]) (sc := defScope s_l_names) (by decide +kernel)) (fun _ _ _ _ _ => pg_name (i := 5) sc_l_names.nd rfl (Or.inl rfl)) (fun _ _ _ _ _ => pts_nil) (fun _ _ _ _ _ => (pe_ix ix_str (pv 2) (pe_op op_mod (pe_op op_add (pv 6) (pe_op op_mul pe_int (pv 5))) pe_int) (fun _ _ => rfl))))
    (pss_one (ps_ret (pe_lc (own := [("_law_one", 9)]) (g := gName 9) rfl sc_l_names.nd (pi_list (pv 8)) (blkOk_by (own := [("_law_one", 9)]) (N := ["_law_bag_here", "_law_many", "_law_letters", "_law_signs", "_law_stem", "_law_k", "_law_start", "_law_is_behind", "_law_some", "_law_one"]) (sc := defScope s_l_names) (by decide +kernel)) (fun _ _ _ _ _ => pg_name (i := 9) sc_l_names.nd rfl (Or.inl rfl)) (fun _ _ _ _ _ => pts_nil) (fun _ _ _ _ _ => (pe_ifExp (pt_val (pv 7)) (pe_op op_add_str (pe_op op_add_str (pe_ix ix_str (pv 2) (pv 6) (fun _ _ => rfl)) (pv 4)) (pv 9)) (pe_op op_add_str (pv 9) (pv 4))))))))))), ?_⟩
    refine ⟨sz1 (by simp), fun t ht => ⟨t, _, rfl, SqT.of upd_same, rfl, _, _, rfl, _, _, rfl, rfl, ?_⟩⟩
    have kt : Kp p H (upd H t (.tup [V.str "abcdefghijklmnopqrstuvwxyz", V.str "abcdefghijklmnopqrstuvwxyz0123456789"])) := Kp.refl.new ht
    have bt : Bag (upd H t (.tup [V.str "abcdefghijklmnopqrstuvwxyz", V.str "abcdefghijklmnopqrstuvwxyz0123456789"])) p := hB.same (Same.new ht)
    generalize upd H t (.tup [V.str "abcdefghijklmnopqrstuvwxyz", V.str "abcdefghijklmnopqrstuvwxyz0123456789"]) = H0 at kt bt ⊢
    -- the stem
    refine ⟨⟨_, rfl⟩, _, rfl, sz1 (by simp), fun q hq => ⟨p, q, _, rfl, upd_same, by simp, by simp, bt.same (Same.new hq), bt.ne hq, fun v H1 hv k1 b1 => ?_⟩⟩
    obtain ⟨j, rfl, j0, j10⟩ : ∃ j : Int, v = V.int j ∧ 0 ≤ j ∧ j ≤ 10 := by
      simp only [List.mem_cons, List.mem_nil_iff, or_false] at hv
      rcases hv with rfl | rfl | rfl | rfl | rfl <;> exact ⟨_, rfl, by decide, by decide⟩
    have kq := (kt.new hq (o := .lst [V.int 0, V.int 0, V.int 1, V.int 2, V.int 10])).trans k1
    refine ⟨j, rfl, by omega, by omega, fun D hD => ?_⟩
    have nD : D ≠ p := Ne.symm (b1.ne hD)
    have hD0 : H D = none := kfree kq nD hD
    refine lc_range (lo := 0) (n := j.toNat) (fun i H' => ∃ cs : List Nat, cs.length = i ∧ (∀ c ∈ cs, c < 128) ∧ H' D = some (.lst (cs.map fun c => V.str ⟨#[c]⟩)) ∧ Kp p H H' ∧ Bag H' p) ⟨[], rfl, by simp, upd_same, kmut kq hD0, b1.same (Same.new hD)⟩ ?_ ?_
    · rintro i G hi ⟨cs, lc, hc, hG, kG, bG⟩
      refine ⟨rfl, _, rfl, _, rfl, p, 36, rfl, bG, by decide, by decide, fun r G2 r0 r1 k2 b2 => ?_⟩
      obtain ⟨c, h1, h2⟩ := sgn_at2 r0 r1
      have hG2 := k2 _ _ nD hG
      refine ⟨_, r, c, rfl, rfl, sz1 (by decide +kernel), h1, _, hG2, sz2 (by rw [List.length_map]; omega), cs ++ [c], by rw [List.length_append, lc]; rfl, fun d hd => ?_, by rw [List.map_append]; exact upd_same, kmut (kG.trans k2) hD0, ?_⟩
      · rcases List.mem_append.mp hd with h | h
        · exact hc d h
        · rw [show d = c by simpa using h]; exact h2
      · obtain ⟨b, m, e, r⟩ := b2
        exact ⟨b, m, (upd_ne (Ne.symm nD)).trans e, r⟩
    rintro G ⟨cs, lc, hc, hG, kG, bG⟩
    refine ⟨"", D, cs.map fun c => ⟨#[c]⟩, rfl, rfl, .inl (SqL.of (by rw [hG, List.map_map]; rfl)), ?_, ?_⟩
    · have e1 : (("" : Str)).length = 0 := by decide +kernel
      rw [e1, List.map_map, List.length_map]
      have := sum_le (l := cs.map ((·.length) ∘ fun c => (⟨#[c]⟩ : Str))) (b := 1) (fun x hx => by obtain ⟨c, _, rfl⟩ := List.mem_map.mp hx; exact Nat.le_refl _)
      rw [List.length_map] at this
      omega
    have hs : small (stemOf cs) 10 := by
      have e := stem_list cs
      refine ⟨?_, fun c h => hc c (by rw [e] at h; exact h)⟩
      have : (stemOf cs).length = (stemOf cs).cps.toList.length := by simp [Str.length]
      rw [this, e]; omega
    show _
    generalize hst : stemOf cs = stem at hs
    have hst2 : Txt.join "" (cs.map fun c => (⟨#[c]⟩ : Str)) = stem := hst
    rw [hst2]
    -- the start
    refine ⟨_, rfl, p, 26, rfl, bG, by decide, by decide, fun st G1 st0 st1 k1' b1' => ?_⟩
    refine ⟨_, rfl, p, 2, rfl, b1', by decide, by decide, fun ib G2 i0 i1 k2 b2 => ?_⟩
    refine ⟨rfl, sz1 (by simp), fun t2 ht2 => ⟨t2, _, rfl, SqT.of upd_same, rfl, _, _, rfl, _, _, rfl, rfl, ?_⟩⟩
    generalize decide (V.int ib = V.int 0) = b
    have k3 : Kp p H (upd G2 t2 (.tup [V.int st, V.bl b])) := ((kG.trans k1').trans k2).new ht2
    have b3 : Bag (upd G2 t2 (.tup [V.int st, V.bl b])) p := b2.same (Same.new ht2)
    generalize upd G2 t2 (.tup [V.int st, V.bl b]) = G3 at k3 b3 ⊢
    refine ⟨_, rfl, 3, rfl, by decide, by decide, fun D1 hD1 => ?_⟩
    refine lc_range (lo := 0) (n := (3 : Int).toNat) (fun i H' => H' = upd G3 D1 (.lst ((List.range i).map fun j => V.str (one st j)))) rfl ?_ ?_
    · rintro i G hi rfl
      have e0 := Int.emod_nonneg (st + 7 * (0 + (i : Int))) (show (26 : Int) ≠ 0 by decide)
      have e1 := Int.emod_lt_of_pos (st + 7 * (0 + (i : Int))) (show (0 : Int) < 26 by decide)
      refine ⟨rfl, _, rfl, _, rfl, _, rfl, _, _, rfl, rfl, .inl ⟨by decide, by decide⟩, _, _, rfl, rfl, _, _, rfl, rfl, (by show (0 : Int) < 26; decide), _, _, _, rfl, rfl, sz1 (by decide +kernel), let_at2 e0 e1, _, upd_same, sz2 (by rw [List.length_map, List.length_range]; have : (3 : Int).toNat = 3 := rfl; omega), ?_⟩
      rw [upd_upd, List.range_succ, List.map_append]
      rfl
    rintro G rfl
    refine ⟨_, rfl, D1, rfl, ⟨_, SqL.of upd_same⟩, fun D2 hD2 => ?_⟩
    have k4 : Kp p H (upd G3 D1 (.lst ((List.range (3 : Int).toNat).map fun j => V.str (one st j)))) := k3.new hD1
    have b4 : Bag (upd G3 D1 (.lst ((List.range (3 : Int).toNat).map fun j => V.str (one st j)))) p := b3.same (Same.new hD1)
    have h4 : (upd G3 D1 (.lst ((List.range (3 : Int).toNat).map fun j => V.str (one st j)))) D1 = some (.lst ((List.range (3 : Int).toNat).map fun j => V.str (one st j))) := upd_same
    generalize upd G3 D1 (.lst ((List.range (3 : Int).toNat).map fun j => V.str (one st j))) = G4 at k4 b4 h4 hD2 ⊢
    have n12 : D1 ≠ D2 := ne_of_none h4 hD2
    refine lc_list (K := K) (a := D1) (xs := (List.range (3 : Int).toNat).map fun j => V.str (one st j)) (fun i H' => H' = upd G4 D2 (.lst ((List.range i).map fun j => V.str (nm b st stem j)))) rfl (fun i G _ e => by subst e; exact SqL.of ((upd_ne n12).trans h4)) ?_ ?_
    · rintro i x G hi rfl
      obtain ⟨hi3, rfl⟩ : i < 3 ∧ V.str (one st i) = x := by
        have h3 : i < 3 := by
          have := (List.getElem?_eq_some_iff.mp hi).1
          rw [List.length_map, List.length_range] at this
          exact this
        have e3 : (3 : Int).toNat = 3 := rfl
        rw [e3, List.getElem?_map, List.getElem?_range h3] at hi
        exact ⟨h3, Option.some.inj hi⟩
      have l1 := hs.1
      have l0 : (one st i).length = 1 := rfl
      have fin : ∀ y, y = nm b st stem i → ∃ acc, (upd G4 D2 (.lst ((List.range i).map fun j => V.str (nm b st stem j)))) D2 = some (.lst acc) ∧ acc.length < sizeLine ∧ upd (upd G4 D2 (.lst ((List.range i).map fun j => V.str (nm b st stem j)))) D2 (.lst (acc ++ [V.str y])) = upd G4 D2 (.lst ((List.range (i + 1)).map fun j => V.str (nm b st stem j))) := by
        rintro y rfl
        refine ⟨_, upd_same, sz2 (by rw [List.length_map, List.length_range]; omega), ?_⟩
        rw [upd_upd, List.range_succ, List.map_append]
        rfl
      refine ⟨rfl, _, rfl, _, rfl, bC (fun hb => ?_) (fun hb => ?_)⟩
      · refine ⟨_, rfl, _, rfl, _, _, _, rfl, rfl, sz1 (by decide +kernel), let_at2 st0 st1, _, rfl, _, _, rfl, rfl, sz1 (by show 1 + stem.length ≤ _; omega), _, rfl, _, _, rfl, rfl, sz1 (by rw [app_len]; show 1 + stem.length + 1 ≤ _; omega), fin _ ?_⟩
        unfold nm; rw [if_pos hb]
      · refine ⟨_, rfl, _, rfl, _, _, rfl, rfl, sz1 (by show 1 + stem.length ≤ _; omega), fin _ ?_⟩
        unfold nm; rw [if_neg (by rw [hb]; exact nofun)]
    rintro G rfl
    have nD2 : D2 ≠ p := Ne.symm (b4.ne hD2)
    exact k D2 _ (nm b st stem 0) (nm b st stem 1) (nm b st stem 2) (kfree k4 nD2 hD2) (k4.new hD2) (b4.same (Same.new hD2)) upd_same ⟨⟨nm_ok st0 st1 hs, nm_ok st0 st1 hs, nm_ok st0 st1 hs⟩, nm_ne (by decide) (by decide) (by decide), nm_ne (by decide) (by decide) (by decide), nm_ne (by decide) (by decide) (by decide)⟩
end
end K16
namespace K16
open PySem PySem.Spec PyProof.Rows L2 Cm
/-! ### the blocks -/
theorem mk_same {H H' : Hp} {x dx C : Addr} (nx : H x = none) (nd : H dx = none) (kk : Kp x (upd (upd H dx (.own x)) x (.ins C dx [])) H') : Same H H' := fun b o e => by
  have n1 := ne_of_none e nx
  refine kk _ _ n1 ?_
  rw [upd_ne n1, upd_ne (ne_of_none e nd)]; exact e
theorem mk_keep {H : Hp} {x dx C : Addr} (nx : H x = none) (nd : H dx = none) : Same H (upd (upd H dx (.own x)) x (.ins C dx [])) := fun b o e => by
  rw [upd_ne (ne_of_none e nx), upd_ne (ne_of_none e nd)]; exact e
theorem inS_nil (x : Str) : inS x [] = false := rfl
theorem inS_self (x : Str) (l : List Str) : inS x (x :: l) = true := by
  show (eqV (.str x) (.str x) || _) = true
  have : eqV (.str x) (.str x) = true := by show (x == x) = true; exact beq_self_eq_true x
  rw [this]; rfl
theorem inS_ne {x y : Str} (h : x ≠ y) : inS x [y] = false := by
  show (eqV (.str y) (.str x) || false) = false
  have : eqV (.str y) (.str x) = false := by
    show (y == x) = false
    exact beq_eq_false_iff_ne.mpr (Ne.symm h)
  rw [this]; rfl
theorem due0 : Due [] [] := ⟨rfl, fun k h => absurd h (Nat.not_lt_zero _)⟩
theorem due1 {a : Addr} {n : Str} : Due [(a, .fst n [])] [n] := by
  refine ⟨rfl, fun k h => ?_⟩
  have e : k = 0 := by simp at h; omega
  subst e
  exact ⟨n, rfl, rfl⟩
theorem redy0 {a b : Addr} {s0 s1 : Str} {as1 as2 : List Str} : redy [(a, .fst s0 as1), (b, .fst s1 as2)] [] = (if as1 = [] then [s0] else []) ++ (if as2 = [] then [s1] else []) := by
  cases as1 <;> cases as2 <;> rfl
theorem due2 {a b : Addr} {s0 s1 : Str} {as2 : List Str} (h : s0 ≠ s1) (h2 : ∀ y ∈ as2, y = s0) : Due [(a, .fst s0 []), (b, .fst s1 as2)] [s0, s1] := by
  refine ⟨rfl, fun k hk => ?_⟩
  have e : k = 0 ∨ k = 1 := by simp at hk; omega
  rcases e with rfl | rfl
  · refine ⟨s0, ?_, rfl⟩
    show (redy _ [])[0]? = _
    rw [redy0, if_pos rfl]; rfl
  · refine ⟨s1, ?_, rfl⟩
    show (redy _ [s0])[0]? = _
    have e1 : (!inS s0 [s0]) = false := by rw [inS_self]; rfl
    have e2 : (!inS s1 [s0]) = true := by rw [inS_ne (Ne.symm h)]; rfl
    have e3 : (as2.all fun x => inS x [s0]) = true := List.all_eq_true.mpr fun y hy => by rw [h2 y hy]; exact inS_self _ _
    have w1 : wait [(a, .fst s0 []), (b, .fst s1 as2)] [s0] = [(b, .fst s1 as2)] := by
      show List.filter _ _ = _
      rw [List.filter_cons_of_neg (by show ¬ (!inS s0 [s0]) = true; rw [e1]; exact nofun), List.filter_cons_of_pos (by exact e2)]; rfl
    show (((wait [(a, .fst s0 []), (b, .fst s1 as2)] [s0]).filter fun q => q.2.af.all fun x => inS x [s0]).map fun q => q.2.nm)[0]? = _
    rw [w1, List.filter_cons_of_pos (by exact e3)]; rfl
theorem due3 {a b : Addr} {s0 s1 : Str} {as1 : List Str} (h : s0 ≠ s1) (n1 : as1 ≠ []) (h2 : ∀ y ∈ as1, y = s1) : Due [(a, .fst s0 as1), (b, .fst s1 [])] [s1, s0] := by
  refine ⟨rfl, fun k hk => ?_⟩
  have e : k = 0 ∨ k = 1 := by simp at hk; omega
  rcases e with rfl | rfl
  · refine ⟨s1, ?_, rfl⟩
    show (redy _ [])[0]? = _
    rw [redy0, if_neg n1]; rfl
  · refine ⟨s0, ?_, rfl⟩
    have e1 : (!inS s1 [s1]) = false := by rw [inS_self]; rfl
    have e2 : (!inS s0 [s1]) = true := by rw [inS_ne h]; rfl
    have e3 : (as1.all fun x => inS x [s1]) = true := List.all_eq_true.mpr fun y hy => by rw [h2 y hy]; exact inS_self _ _
    have w1 : wait [(a, .fst s0 as1), (b, .fst s1 [])] [s1] = [(a, .fst s0 as1)] := by
      show List.filter _ _ = _
      rw [List.filter_cons_of_pos (by exact e2), List.filter_cons_of_neg (by show ¬ (!inS s1 [s1]) = true; rw [e1]; exact nofun)]; rfl
    show (((wait [(a, .fst s0 as1), (b, .fst s1 [])] [s1]).filter fun q => q.2.af.all fun x => inS x [s1]).map fun q => q.2.nm)[0]? = _
    rw [w1, List.filter_cons_of_pos (by exact e3)]; rfl
/-- the names that are taken -/
def Sm (ss : List Str) (m : Nat) : Prop := ss.length = m ∧ ss.Nodup ∧ ∀ y ∈ ss, txOk y
theorem sm_take {x y z : Str} (h : Ok3 x y z) {m : Int} (m0 : 0 ≤ m) (m1 : m < 3) : ∃ ss, cutV [V.str x, V.str y, V.str z] none (some m) = ss.map V.str ∧ Sm ss m.toNat := by
  obtain ⟨⟨h1, h2, h3⟩, h4, h5, h6⟩ := h
  have e : m = 0 ∨ m = 1 ∨ m = 2 := by omega
  rcases e with rfl | rfl | rfl
  · exact ⟨[], rfl, rfl, List.nodup_nil, by simp⟩
  · exact ⟨[x], rfl, rfl, by simp, by simpa using h1⟩
  · exact ⟨[x, y], rfl, rfl, by simpa using h4, by simp; exact ⟨h1, h2⟩⟩
theorem sm_rev {ss : List Str} {m : Nat} (h : Sm ss m) : Sm ss.reverse m := ⟨by rw [List.length_reverse, h.1], List.pairwise_reverse.mpr (h.2.1.imp Ne.symm), fun y hy => h.2.2 y (List.mem_reverse.mp hy)⟩
theorem BA.updl {K : PySem.W.Frag} {G : Hp} {o D : Addr} {b : Bk} {xs ys : List V} (h : BA K G o b) (hG : G D = some (.lst xs)) : BA K (upd G D (.lst ys)) o b :=
  h.kp Kp.refl.at hG (fun _ _ _ z => by cases z) (fun _ z => by cases z)
theorem rf_app {l m : List At} : rf (l ++ m) = rf l ++ rf m := List.map_append
theorem all_f {bs : List At} (h : ∀ q ∈ bs, q.2.isF = true) : fsts bs = bs := List.filter_eq_self.mpr h
theorem plain_f {bs : List At} {l : List Str} (h : bs.map Prod.snd = l.map fun n => Bk.fst n []) : ∀ q ∈ bs, q.2.isF = true := fun q hq => by
  have z : q.2 ∈ bs.map Prod.snd := List.mem_map.mpr ⟨q, hq, rfl⟩
  rw [h] at z
  obtain ⟨n, _, e⟩ := List.mem_map.mp z
  rw [← e]; rfl
theorem plain_due {bs : List At} {l : List Str} (h : bs.map Prod.snd = l.map fun n => Bk.fst n []) (hl : l.length ≤ 1) : Due bs l := by
  match l, bs, h with
  | [], [], _ => exact due0
  | [n], [(a, b)], h =>
    have e : b = .fst n [] := by simpa using h
    subst e; exact due1
  | _ :: _ :: _, _, _ => simp at hl
section
variable {P : Program} {w : World} {K : PySem.W.Frag} {mg : Str → Option Value} {base : Heap} {sa : Addr} {sx : List Int}
def spBlk (K : PySem.W.Frag) : Sp := fun vs H Q _ => ∃ p l x y z, vs = [.ref p, .ref l] ∧ Bag H p ∧ H l = some (.lst [V.str x, V.str y, V.str z]) ∧ Ok3 x y z ∧
  ∀ R L D bs d H', Kp p H H' → Bag H' p → H L = none → H D = none → L ≠ D → H' R = some (.tup [V.ref L, V.ref D]) → H' L = some (.lst (rf bs)) → H' D = some (.lst (d.map V.str)) → (∀ q ∈ bs, BA K H' q.1 q.2) → bs.length ≤ 2 → fsts bs = bs → Due bs d → (∀ y ∈ d, txOk y) → Q (.ref R) H'
theorem ok_l_blocks (T : Tx K mg sa sx) : Cal P w K mg base 3 "_law_blocks" (spBlk K) := by
  obtain ⟨fd, F⟩ := f_l_blocks T
  refine ⟨_, fd, ["_law_bag_here", "_law_names_here"], fnok F sc_l_blocks (fun vs H Q E h => ?_) (fun cdv A outer s H vs Q E hr h => ?_), F.bindsN fun _ _ _ _ _ _ us hl => match us, hl with | [_, _], _ => rfl, g__law_blocks T, F.kp⟩
  · obtain ⟨p, l, x, y, z, rfl, _⟩ := h; rfl
  · obtain ⟨p, l, x, y, z, rfl, hB, hl, h3, k⟩ := h
    refine ⟨_, (pss_cons (ps_asg (pe_tup (pa_cons (pe_cal (ok_l_take T) hr (by decide) (pa_cons (pv 0) (pa_cons pe_int pa_nil))) (pa_cons (pe_lst (pa_cons (pe_kal (ok_Tell_init T) hr (by decide) (pa_cons (pe_tup (pa_cons pe_str (pa_cons pe_int pa_nil))) pa_nil)) pa_nil)) pa_nil))) (pg_tup (by rfl) (pgs_cons (pg_name (i := 2) sc_l_blocks.nd rfl (by first | exact Or.inl rfl | exact Or.inr rfl)) (pgs_cons (pg_name (i := 3) sc_l_blocks.nd rfl (by first | exact Or.inl rfl | exact Or.inr rfl)) pgs_nil))))
    (pss_cons (ps_set (i := 4) sc_l_blocks.nd rfl (by first | exact Or.inl rfl | exact Or.inr rfl) (pe_ifExp (pt_cmpR op_eq (pe_cal (ok_l_take T) hr (by decide) (pa_cons (pv 0) (pa_cons pe_int pa_nil))) pe_int (nomark _)) (pe_slice sl_list (pv 1) po_none (po_some (pv 2))) (pe_revL (pe_slice sl_list (pv 1) po_none (po_some (pv 2))))))
    (pss_cons (ps_if (pt_cmpR op_lt (pv 2) pe_int (nomark _)) (pss_one (ps_ret (pe_tup (pa_cons (pe_lc (own := [("_law_name", 5)]) (g := gName 5) rfl sc_l_blocks.nd (pi_list (pv 4)) (blkOk_by (own := [("_law_name", 5)]) (N := ["_law_bag_here", "_law_names_here", "_law_many", "_law_rows", "_law_some", "_law_name", "_law_way", "_law_often", "_law_first", "_law_k", "_law_second"]) (sc := defScope s_l_blocks) (by decide +kernel)) (fun _ _ _ _ _ => pg_name (i := 5) sc_l_blocks.nd rfl (Or.inl rfl)) (fun _ _ _ _ _ => pts_nil) (fun _ _ _ _ _ => (pe_kal (ok_First_init T) hr (by decide) (pa_cons (pv 5) (pa_cons (pe_tup pa_nil) (pa_cons (pv 3) pa_nil)))))) (pa_cons (pv 4) pa_nil))))) pss_nil)
    (pss_cons (ps_par (i := 6) (j := 7) rfl sc_l_blocks.nd rfl rfl (by decide) rfl rfl (pa_cons (pe_cal (ok_l_take T) hr (by decide) (pa_cons (pv 0) (pa_cons pe_int pa_nil))) (pa_cons (pe_op op_add pe_int (pe_cal (ok_l_take T) hr (by decide) (pa_cons (pv 0) (pa_cons pe_int pa_nil)))) pa_nil)) (by rfl))
    (pss_cons (ps_set (i := 8) sc_l_blocks.nd rfl (by first | exact Or.inl rfl | exact Or.inr rfl) (pe_kal (ok_First_init T) hr (by decide) (pa_cons (pe_ix ix_list (pv 4) pe_int (fun _ _ => rfl)) (pa_cons (pe_ifExp (pt_cmpR op_eq (pv 6) pe_int (nomark _)) (pe_callTy (T := "tuple") call_tuple_of rfl (n_tuple T) (by decide +kernel) (pa_cons (pe_lc (own := [("_law_k", 9)]) (g := gName 9) rfl sc_l_blocks.nd (pi_range1 rfl (n_range T) (pa_cons (pv 7) pa_nil)) (blkOk_by (own := [("_law_k", 9)]) (N := ["_law_bag_here", "_law_names_here", "_law_many", "_law_rows", "_law_some", "_law_name", "_law_way", "_law_often", "_law_first", "_law_k", "_law_second"]) (sc := defScope s_l_blocks) (by decide +kernel)) (fun _ _ _ _ _ => pg_name (i := 9) sc_l_blocks.nd rfl (Or.inl rfl)) (fun _ _ _ _ _ => pts_nil) (fun _ _ _ _ _ => (pe_ix (show IxR _ (rIxL K) from ix_list) (pv 4) pe_int (fun _ _ => rfl)))) pa_nil)) (pe_tup pa_nil)) (pa_cons (pv 3) pa_nil)))))
    (pss_cons (ps_set (i := 10) sc_l_blocks.nd rfl (by first | exact Or.inl rfl | exact Or.inr rfl) (pe_kal (ok_First_init T) hr (by decide) (pa_cons (pe_ix ix_list (pv 4) pe_int (fun _ _ => rfl)) (pa_cons (pe_ifExp (pt_cmpR op_eq (pv 6) pe_int (nomark _)) (pe_callTy (T := "tuple") call_tuple_of rfl (n_tuple T) (by decide +kernel) (pa_cons (pe_lc (own := [("_law_k", 9)]) (g := gName 9) rfl sc_l_blocks.nd (pi_range1 rfl (n_range T) (pa_cons (pv 7) pa_nil)) (blkOk_by (own := [("_law_k", 9)]) (N := ["_law_bag_here", "_law_names_here", "_law_many", "_law_rows", "_law_some", "_law_name", "_law_way", "_law_often", "_law_first", "_law_k", "_law_second"]) (sc := defScope s_l_blocks) (by decide +kernel)) (fun _ _ _ _ _ => pg_name (i := 9) sc_l_blocks.nd rfl (Or.inl rfl)) (fun _ _ _ _ _ => pts_nil) (fun _ _ _ _ _ => (pe_ix (show IxR _ (rIxL K) from ix_list) (pv 4) pe_int (fun _ _ => rfl)))) pa_nil)) (pe_tup pa_nil)) (pa_cons (pv 3) pa_nil)))))
    (pss_one (ps_ret (pe_tup (pa_cons (pe_lst (pa_cons (pv 8) (pa_cons (pv 10) pa_nil))) (pa_cons (pe_ifExp (pt_cmpR op_eq (pv 6) pe_int (nomark _)) (pe_lst (pa_cons (pe_ix ix_list (pv 4) pe_int (fun _ _ => rfl)) (pa_cons (pe_ix ix_list (pv 4) pe_int (fun _ _ => rfl)) pa_nil))) (pv 4)) pa_nil))))))))))), ?_⟩
    have nl : l ≠ p := by
      rintro rfl
      obtain ⟨b, m, e, _⟩ := hB
      rw [hl] at e
      cases e
    refine ⟨_, rfl, p, 3, rfl, hB, by decide, by decide, fun m H1 m0 m1 k1 b1 => ⟨sz1 (by simp), fun n1 hn1 => fun x1 dx1 nx nd ne => ?_⟩⟩
    refine ⟨x1, dx1, n1, _, rfl, upd_same, mk_keep nx nd _ _ upd_same, fun H2 kk => ⟨rfl, sz1 (by simp), fun r hr2 => ⟨sz1 (by simp), fun t ht => ⟨t, _, rfl, SqT.of upd_same, rfl, _, _, rfl, _, _, rfl, rfl, ?_⟩⟩⟩⟩
    have s2 : Same H1 H2 := (Same.new hn1).trans (mk_same nx nd kk)
    have s3 : Same H1 (upd (upd H2 r (.lst [V.ref x1])) t (.tup [V.int m, V.ref r])) := (s2.trans (Same.new hr2)).trans (Same.new ht)
    have hr3 : (upd (upd H2 r (.lst [V.ref x1])) t (.tup [V.int m, V.ref r])) r = some (.lst [V.ref x1]) := Same.new ht _ _ upd_same
    generalize upd (upd H2 r (.lst [V.ref x1])) t (.tup [V.int m, V.ref r]) = H3 at s3 hr3 ⊢
    have k3 : Kp p H H3 := k1.trans s3.kp
    have b3 : Bag H3 p := b1.same s3
    -- some of the names
    refine ⟨_, rfl, p, 2, rfl, b3, by decide, by decide, fun ib H4 i0 i1 k4' b4 => ⟨rfl, _, rfl, dC (fun _ => ⟨_, rfl, _, rfl, _, rfl, l, _, rfl, SqL.of ((k3.trans k4') _ _ nl hl), fun S hS => ?ga⟩) (fun _ => ⟨_, rfl, _, rfl, _, rfl, l, _, rfl, SqL.of ((k3.trans k4') _ _ nl hl), fun S0 hS0 => ⟨S0, _, rfl, SqL.of upd_same, fun S hS => ?gb⟩⟩)⟩⟩
    all_goals
      obtain ⟨ss0, es, hss⟩ := sm_take h3 m0 m1
    case' ga =>
      rw [es]
      have k5 : Kp p H (upd H4 S (.lst (ss0.map V.str))) := (k3.trans k4').new hS
      have b5 : Bag (upd H4 S (.lst (ss0.map V.str))) p := b4.same (Same.new hS)
      have S0n : H S = none := kfree (k3.trans k4') (Ne.symm (b4.ne hS)) hS
      have nr : r ≠ p := (b3.ne_of hr3)
      have hr5 : (upd H4 S (.lst (ss0.map V.str))) r = some (.lst [V.ref x1]) := Same.new hS _ _ (k4' _ _ nr hr3)
      have hS5 : (upd H4 S (.lst (ss0.map V.str))) S = some (.lst (ss0.map V.str)) := upd_same
      generalize upd H4 S (.lst (ss0.map V.str)) = H5 at k5 b5 hr5 hS5 ⊢
      generalize ss0 = ss at hss hS5
    case' gb =>
      rw [es] at hS ⊢
      rw [← List.map_reverse]
      have k5 : Kp p H (upd (upd H4 S0 (.lst (ss0.map V.str))) S (.lst (ss0.reverse.map V.str))) := ((k3.trans k4').new hS0).new hS
      have b5 : Bag (upd (upd H4 S0 (.lst (ss0.map V.str))) S (.lst (ss0.reverse.map V.str))) p := (b4.same (Same.new hS0)).same (Same.new hS)
      have S0n : H S = none := kfree ((k3.trans k4').new hS0) (Ne.symm ((b4.same (Same.new hS0)).ne hS)) hS
      have nr : r ≠ p := (b3.ne_of hr3)
      have hr5 : (upd (upd H4 S0 (.lst (ss0.map V.str))) S (.lst (ss0.reverse.map V.str))) r = some (.lst [V.ref x1]) := Same.new hS _ _ (Same.new hS0 _ _ (k4' _ _ nr hr3))
      have hS5 : (upd (upd H4 S0 (.lst (ss0.map V.str))) S (.lst (ss0.reverse.map V.str))) S = some (.lst (ss0.reverse.map V.str)) := upd_same
      generalize upd (upd H4 S0 (.lst (ss0.map V.str))) S (.lst (ss0.reverse.map V.str)) = H5 at k5 b5 hr5 hS5 ⊢
      replace hss := sm_rev hss
      generalize ss0.reverse = ss at hss hS5
    all_goals
      obtain ⟨ls, nds, oks⟩ := hss
      refine ⟨_, rfl, _, _, rfl, rfl, _, rfl, dC (fun hm => ?_) (fun hm => ?_)⟩
      · -- at most one block
        refine ⟨_, rfl, S, rfl, ⟨_, SqL.of hS5⟩, fun D hD => ?_⟩
        refine lc_list (K := K) (a := S) (xs := ss.map V.str) (fun i G => ∃ bs : List At, bs.map Prod.snd = (ss.take i).map (fun n => Bk.fst n []) ∧ G D = some (.lst (rf bs)) ∧ Same H5 G ∧ ∀ q ∈ bs, BA K G q.1 q.2)
          ⟨[], rfl, upd_same, Same.new hD, by simp⟩ (fun i G _ ⟨_, _, _, sG, _⟩ => SqL.of (sG _ _ hS5)) ?_ ?_
        · rintro i v G hi ⟨bs, eb, hG, sG, hq⟩
          rw [List.getElem?_map] at hi
          obtain ⟨n, hn, rfl⟩ : ∃ n, ss[i]? = some n ∧ V.str n = v := by
            cases e : ss[i]? with
            | none => rw [e] at hi; cases hi
            | some n => rw [e] at hi; exact ⟨n, rfl, Option.some.inj hi⟩
          have lb : bs.length ≤ 2 := by
            have := congrArg List.length eb
            rw [List.length_map, List.length_map, List.length_take] at this
            omega
          refine ⟨rfl, _, rfl, sz1 (by simp), fun t0 ht0 => ⟨_, rfl, fun o dx nx nd ne => ?_⟩⟩
          refine ⟨o, dx, n, t0, [], r, _, rfl, upd_same, oks n (List.mem_of_getElem? hn), by simp, by simp, mk_keep nx nd _ _ upd_same, mk_keep nx nd _ _ (Same.new ht0 _ _ (sG _ _ hr5)), fun G' kk ba => ?_⟩
          have s6 : Same G G' := (Same.new ht0).trans (mk_same nx nd kk)
          refine ⟨rfl, _, s6 _ _ hG, sz2 (by rw [rf_len]; omega), bs ++ [(o, .fst n [])], ?_, ?_, Same.mut (sG.trans s6) hD, fun q h => ?_⟩
          · rw [List.map_append, eb, List.take_add_one, hn, List.map_append]; rfl
          · rw [upd_same, rf_app]; rfl
          · rcases List.mem_append.mp h with h | h
            · exact ((hq q h).same s6).updl (s6 _ _ hG)
            · have e : q = (o, .fst n []) := by simpa using h
              subst e
              exact ba.updl (s6 _ _ hG)
        rintro G ⟨bs, eb, hG, sG, hq⟩
        rw [List.length_map, List.take_length] at eb
        have lss : ss.length ≤ 1 := by omega
        have lb : bs.length ≤ 2 := by
          have := congrArg List.length eb
          rw [List.length_map, List.length_map] at this
          omega
        have nDp : D ≠ p := Ne.symm (b5.ne hD)
        refine ⟨_, rfl, sz1 (by simp), fun R hR => ?_⟩
        have sR : ∀ {u : HO}, Same G (upd G R u) := Same.new hR
        exact k R D S bs ss _ ((k5.trans sG.kp).new hR) ((b5.same sG).same sR) (kfree k5 nDp hD) S0n (Ne.symm (ne_of_none hS5 hD)) upd_same (sR _ _ hG) (sR _ _ (sG _ _ hS5)) (fun q h => (hq q h).same sR) lb (all_f (plain_f eb)) (plain_due eb lss) oks
      · -- two
        obtain ⟨s0, s1, rfl⟩ : ∃ s0 s1, ss = [s0, s1] := by
          have l2 : ss.length = 2 := by omega
          match ss, l2 with
          | [a, b], _ => exact ⟨a, b, rfl⟩
        have n01 : s0 ≠ s1 := by simpa using nds
        have ok0 : txOk s0 := oks s0 (by simp)
        have ok1 : txOk s1 := oks s1 (by simp)
        have nSp : S ≠ p := by
          rintro rfl
          obtain ⟨b, c, e, _⟩ := b5
          rw [hS5] at e
          cases e
        refine ⟨_, rfl, p, 3, rfl, b5, by decide, by decide, fun wy G1 w0 w1 kk1 bb1 => ⟨_, rfl, p, 3, rfl, bb1, by decide, by decide, fun of G2 o0 o1 kk2 bb2 => ⟨_, _, rfl, rfl, _, _, rfl, ?_⟩⟩⟩
        have k6 : Kp p H G2 := (k5.trans kk1).trans kk2
        have hr6 : G2 r = some (.lst [V.ref x1]) := kk2 _ _ nr (kk1 _ _ nr hr5)
        have hS6 : G2 S = some (.lst ([s0, s1].map V.str)) := kk2 _ _ nSp (kk1 _ _ nSp hS5)
        refine ⟨_, rfl, S, _, 0, .str s0, rfl, rfl, SqL.of hS6, rfl, _, rfl, rfl, _, rfl, dC (fun c => ⟨_, rfl, 1 + of, rfl, by omega, by omega, fun D hD => ?_⟩) (fun c => ⟨sz1 (by simp), fun t1 ht1 => ?_⟩)⟩
        focus
          refine lc_range (lo := 0) (n := (1 + of).toNat) (fun i G => G = upd G2 D (.lst ((List.replicate i s1).map V.str))) rfl (fun i G hi e => by
            subst e
            refine ⟨rfl, _, rfl, S, _, 1, .str s1, rfl, rfl, SqL.of (Same.new hD _ _ hS6), rfl, _, upd_same, sz2 (by simp; omega), ?_⟩
            rw [upd_upd, List.replicate_succ', List.map_append]; rfl) ?_
          rintro G rfl
          refine ⟨_, _, rfl, .inl ⟨SqL.of upd_same, fun t1 ht1 => ?_⟩⟩
          obtain ⟨as1, ea1, ed1⟩ : ∃ as1, as1 = List.replicate (1 + of).toNat s1 ∧ as1 = (if wy = 1 then List.replicate (1 + of).toNat s1 else []) := ⟨_, rfl, by rw [if_pos (by cases c; rfl)]⟩
          have s7 : Same G2 (upd (upd G2 D (.lst ((List.replicate (1 + of).toNat s1).map V.str))) t1 (.tup ((List.replicate (1 + of).toNat s1).map V.str))) := (Same.new hD).trans (Same.new ht1)
          have ht7 : (upd (upd G2 D (.lst ((List.replicate (1 + of).toNat s1).map V.str))) t1 (.tup ((List.replicate (1 + of).toNat s1).map V.str))) t1 = some (.tup (as1.map V.str)) := by rw [ea1]; exact upd_same
          clear ea1
          generalize upd (upd G2 D (.lst ((List.replicate (1 + of).toNat s1).map V.str))) t1 (.tup ((List.replicate (1 + of).toNat s1).map V.str)) = G7 at s7 ht7 ⊢
          clear c
        rotate_left
        focus
          obtain ⟨as1, ea1, ed1⟩ : ∃ as1 : List Str, as1 = [] ∧ as1 = (if wy = 1 then List.replicate (1 + of).toNat s1 else []) := ⟨_, rfl, by rw [if_neg (fun e => c (by rw [e]))]⟩
          have s7 : Same G2 (upd G2 t1 (.tup [])) := Same.new ht1
          have ht7 : (upd G2 t1 (.tup [])) t1 = some (.tup (as1.map V.str)) := by rw [ea1]; exact upd_same
          clear ea1
          generalize upd G2 t1 (.tup []) = G7 at s7 ht7 ⊢
          clear c
        all_goals
          have la1 : as1.length ≤ 3 ∧ (∀ y ∈ as1, y = s1) ∧ (wy = 1 → as1 ≠ []) ∧ (wy ≠ 1 → as1 = []) := by
            rw [ed1]
            by_cases c : wy = 1
            · rw [if_pos c]
              refine ⟨by rw [List.length_replicate]; omega, fun y hy => (List.mem_replicate.mp hy).2, fun _ e => ?_, fun z => absurd c z⟩
              have := congrArg List.length e
              rw [List.length_replicate, List.length_nil] at this
              omega
            · rw [if_neg c]
              exact ⟨by simp, by simp, fun z => absurd z c, fun _ => rfl⟩
          refine ⟨_, rfl, fun o dx nx nd ne => ?_⟩
          refine ⟨o, dx, s0, t1, as1, r, _, rfl, upd_same, ok0, la1.1, fun y hy => by rw [la1.2.1 y hy]; exact ok1, mk_keep nx nd _ _ ht7, mk_keep nx nd _ _ (s7 _ _ hr6), fun G8 kk ba => ⟨rfl, ?_⟩⟩
          have s8 : Same G2 G8 := s7.trans (mk_same nx nd kk)
          have hS8 := s8 _ _ hS6
          have hr8 := s8 _ _ hr6
          refine ⟨_, rfl, S, _, 1, .str s1, rfl, rfl, SqL.of hS8, rfl, _, rfl, rfl, _, rfl, dC (fun c => ⟨_, rfl, 1 + of, rfl, by omega, by omega, fun D hD => ?_⟩) (fun c => ⟨sz1 (by simp), fun t2 ht2 => ?_⟩)⟩
          focus
            refine lc_range (lo := 0) (n := (1 + of).toNat) (fun i G => G = upd G8 D (.lst ((List.replicate i s0).map V.str))) rfl (fun i G hi e => by
              subst e
              refine ⟨rfl, _, rfl, S, _, 0, .str s0, rfl, rfl, SqL.of (Same.new hD _ _ hS8), rfl, _, upd_same, sz2 (by simp; omega), ?_⟩
              rw [upd_upd, List.replicate_succ', List.map_append]; rfl) ?_
            rintro G rfl
            refine ⟨_, _, rfl, .inl ⟨SqL.of upd_same, fun t2 ht2 => ?_⟩⟩
            obtain ⟨as2, ea2, ed2⟩ : ∃ as2, as2 = List.replicate (1 + of).toNat s0 ∧ as2 = (if wy = 2 then List.replicate (1 + of).toNat s0 else []) := ⟨_, rfl, by rw [if_pos (by cases c; rfl)]⟩
            have s9 : Same G8 (upd (upd G8 D (.lst ((List.replicate (1 + of).toNat s0).map V.str))) t2 (.tup ((List.replicate (1 + of).toNat s0).map V.str))) := (Same.new hD).trans (Same.new ht2)
            have ht9 : (upd (upd G8 D (.lst ((List.replicate (1 + of).toNat s0).map V.str))) t2 (.tup ((List.replicate (1 + of).toNat s0).map V.str))) t2 = some (.tup (as2.map V.str)) := by rw [ea2]; exact upd_same
            clear ea2
            generalize upd (upd G8 D (.lst ((List.replicate (1 + of).toNat s0).map V.str))) t2 (.tup ((List.replicate (1 + of).toNat s0).map V.str)) = G9 at s9 ht9 ⊢
            clear c
          rotate_left
          focus
            obtain ⟨as2, ea2, ed2⟩ : ∃ as2 : List Str, as2 = [] ∧ as2 = (if wy = 2 then List.replicate (1 + of).toNat s0 else []) := ⟨_, rfl, by rw [if_neg (fun e => c (by rw [e]))]⟩
            have s9 : Same G8 (upd G8 t2 (.tup [])) := Same.new ht2
            have ht9 : (upd G8 t2 (.tup [])) t2 = some (.tup (as2.map V.str)) := by rw [ea2]; exact upd_same
            clear ea2
            generalize upd G8 t2 (.tup []) = G9 at s9 ht9 ⊢
            clear c
          all_goals
            have la2 : as2.length ≤ 3 ∧ (∀ y ∈ as2, y = s0) ∧ (wy ≠ 2 → as2 = []) := by
              rw [ed2]
              by_cases c : wy = 2
              · rw [if_pos c]
                exact ⟨by rw [List.length_replicate]; omega, fun y hy => (List.mem_replicate.mp hy).2, fun z => absurd c z⟩
              · rw [if_neg c]
                exact ⟨by simp, by simp, fun _ => rfl⟩
            refine ⟨_, rfl, fun o2 dx2 nx2 nd2 ne2 => ?_⟩
            refine ⟨o2, dx2, s1, t2, as2, r, _, rfl, upd_same, ok1, la2.1, fun y hy => by rw [la2.2.1 y hy]; exact ok0, mk_keep nx2 nd2 _ _ ht9, mk_keep nx2 nd2 _ _ (s9 _ _ hr8), fun GA kk2 ba2 => ⟨rfl, ?_⟩⟩
            have sA : Same G8 GA := s9.trans (mk_same nx2 nd2 kk2)
            have s2A : Same G2 GA := s8.trans sA
            have hSA := s2A _ _ hS6
            have ba1 := ba.same sA
            have bA : Bag GA p := bb2.same s2A
            have kA : Kp p H GA := k6.trans s2A.kp
            have qs : ∀ {G : Hp}, Same GA G → ∀ q ∈ ([(o, .fst s0 as1), (o2, .fst s1 as2)] : List At), BA K G q.1 q.2 := fun sg q h => by
              rcases List.mem_cons.mp h with h | h
              · subst h; exact ba1.same sg
              · have e : q = (o2, .fst s1 as2) := by simpa using h
                subst e; exact ba2.same sg
            refine ⟨_, rfl, _, rfl, sz1 (by simp), fun L hL => ⟨_, rfl, rfl, _, rfl, ?_⟩⟩
            have nLp : L ≠ p := Ne.symm (bA.ne hL)
            have nLS : L ≠ S := Ne.symm (ne_of_none hSA hL)
            have sL : ∀ {u : HO}, Same GA (upd GA L u) := Same.new hL
            by_cases c : wy = 1
            · refine tT (by rw [c]) ⟨_, rfl, S, _, 1, .str s1, rfl, rfl, SqL.of (sL _ _ hSA), rfl, _, rfl, S, _, 0, .str s0, rfl, rfl, SqL.of (sL _ _ hSA), rfl, sz1 (by simp), fun D hD => ⟨sz1 (by simp), fun R hR => ?_⟩⟩
              have e2 := la2.2.2 (by omega)
              have nDp : D ≠ p := Ne.symm ((bA.same sL).ne hD)
              have nLD : L ≠ D := ne_of_none upd_same hD
              have sD : ∀ {u : HO}, Same (upd GA L (.lst [V.ref o, V.ref o2])) (upd (upd GA L (.lst [V.ref o, V.ref o2])) D u) := Same.new hD
              exact k R L D [(o, .fst s0 as1), (o2, .fst s1 as2)] [s1, s0] _ (((kA.new hL).new hD).new hR) (((bA.same sL).same sD).same (Same.new hR)) (kfree kA nLp hL) (kfree (kA.new hL) nDp hD) nLD upd_same (Same.new hR _ _ (sD _ _ upd_same)) (Same.new hR _ _ upd_same)
                (qs ((sL.trans sD).trans (Same.new hR))) (by simp) rfl (by rw [e2]; exact due3 n01 (la1.2.2.1 c) la1.2.1) (by simp; exact ⟨ok1, ok0⟩)
            · refine tF (fun e => c (by cases e; rfl)) ⟨_, rfl, sz1 (by simp), fun R hR => ?_⟩
              have e1 := la1.2.2.2 c
              exact k R L S [(o, .fst s0 as1), (o2, .fst s1 as2)] [s0, s1] _ ((kA.new hL).new hR) ((bA.same sL).same (Same.new hR)) (kfree kA nLp hL) S0n nLS upd_same (Same.new hR _ _ upd_same) (Same.new hR _ _ (sL _ _ hSA))
                (qs (sL.trans (Same.new hR))) (by simp) rfl (by rw [e1]; exact due2 n01 la2.2.1) oks
end
end K16
namespace K16
open PySem PySem.Spec PyProof.Rows L2 Cm
/-! ### the law -/
def low (s : Str) : Prop := ∀ c ∈ s.cps.toList, c < 128
theorem low_ok {s : Str} (h : low s) : PyData.strOk s = true := by
  unfold PyData.strOk
  rw [← Array.all_toList, List.all_eq_true]
  exact fun c hc => decide_eq_true (Nat.lt_of_lt_of_le (h c hc) (by decide))
theorem low_app {s t : Str} (h : low s) (g : low t) : low (s ++ t) := fun c hc => by
  have e : (s ++ t).cps.toList = s.cps.toList ++ t.cps.toList := by
    show (s.cps ++ t.cps).toList = _
    exact Array.toList_append
  rw [e] at hc
  exact (List.mem_append.mp hc).elim (h c) (g c)
theorem low_lit {s : Str} (h : s.cps.toList.all (· < 128) = true) : low s := fun c hc => of_decide_eq_true (List.all_eq_true.mp h c hc)
theorem joinL_low {S : List Nat} (hS : ∀ c ∈ S, c < 128) : ∀ {ls : List (List Nat)}, (∀ l ∈ ls, ∀ c ∈ l, c < 128) → ∀ c ∈ TL.joinL S ls, c < 128
  | [], _, c, hc => by cases hc
  | [l], h, c, hc => h l (by simp) c hc
  | l :: m :: r, h, c, hc => by
    have e : TL.joinL S (l :: m :: r) = l ++ (S ++ TL.joinL S (m :: r)) := rfl
    rw [e] at hc
    rcases List.mem_append.mp hc with q | q
    · exact h l (by simp) c q
    · rcases List.mem_append.mp q with q | q
      · exact hS c q
      · exact joinL_low hS (fun x hx => h x (List.mem_cons_of_mem _ hx)) c q
theorem low_join {s : Str} {ls : List Str} (hs : low s) (h : ∀ x ∈ ls, low x) : low (Txt.join s ls) := fun c hc => by
  have e : TL.tl (Txt.join s ls) = TL.joinL (TL.tl s) (ls.map TL.tl) := by rw [TL.join_eq, TL.tl_join]
  have hc2 : c ∈ TL.tl (Txt.join s ls) := hc
  rw [e] at hc2
  refine joinL_low hs (fun l hl => ?_) c hc2
  obtain ⟨x, hx, rfl⟩ := List.mem_map.mp hl
  exact h x hx
theorem low_head {K : PySem.W.Frag} {H : Hp} {o : Addr} {b : Bk} (h : BA K H o b) : low (headT b) := by
  cases b with
  | fst n as =>
    obtain ⟨h1, _, h3, _⟩ := h
    refine low_join (low_lit (by decide +kernel)) fun x hx => ?_
    rcases List.mem_append.mp hx with q | q
    · rcases List.mem_append.mp q with q | q
      · rcases List.mem_cons.mp q with rfl | q
        · exact low_lit (by decide +kernel)
        · rw [show x = n by simpa using q]; exact h1.2
      · by_cases c : (as.length : Int) > 0
        · rw [if_pos c] at q
          rw [show x = "after" by simpa using q]; exact low_lit (by decide +kernel)
        · rw [if_neg c] at q; cases q
    · exact (h3 x q).2
  | mem n =>
    obtain ⟨h1, _⟩ := h
    exact low_app (low_app (low_app (low_app (low_lit (by decide +kernel)) (low_lit (by decide +kernel))) h1.2) (low_lit (by decide +kernel))) (low_lit (by decide +kernel))
theorem lay_strs : ∀ {l : List Str}, (∀ x ∈ l, low x) → PyData.canLayAll0 (l.map PyData.str) = true ∧ PyData.depthAll (l.map PyData.str) ≤ 0
  | [], _ => ⟨rfl, Nat.le_refl _⟩
  | x :: l, h => by
    obtain ⟨h1, h2⟩ := lay_strs fun y hy => h y (List.mem_cons_of_mem _ hy)
    refine ⟨?_, ?_⟩
    · show PyData.canLayAll0 (.str x :: l.map PyData.str) = true
      rw [PyData.canLayAll0, h1, PyData.canLay0, low_ok (h x (by simp))]; rfl
    · show PyData.depthAll (.str x :: l.map PyData.str) ≤ 0
      rw [PyData.depthAll]
      exact Nat.max_le.mpr ⟨Nat.le_refl _, h2⟩
theorem strs_shp {l : List Str} (h : ∀ x ∈ l, low x) : SeqAt.shaped (.list (l.map PyData.str)) = true ∧ PyData.eqv (.list (l.map PyData.str)) (.list (l.map PyData.str)) = true := by
  obtain ⟨h1, h2⟩ := lay_strs h
  have h3 : PyData.canLay0 (.list (l.map PyData.str)) = true := by rw [PyData.canLay0]; exact h1
  refine ⟨?_, SeqAt.eqv_refl _ h3⟩
  unfold SeqAt.shaped
  rw [h3, Bool.true_and]
  refine decide_eq_true ?_
  rw [PyData.depth]
  omega
theorem strs_dp {K : PySem.W.Frag} {H : Hp} : ∀ l : List Str, DpAll K H (l.map V.str) (l.map PyData.str)
  | [] => .nil
  | x :: l => .cons (.str x) (strs_dp l)
theorem same_kp {H H1 H2 : Hp} {p : Addr} (s : Same H H1) (hp : H p = none) (k : Kp p H1 H2) : Same H H2 := fun a o e => k _ _ (ne_of_none e hp) (s _ _ e)
theorem fsts_app {l m : List At} : fsts (l ++ m) = fsts l ++ fsts m := List.filter_append ..
theorem fsts_ins {l : List At} {o : Addr} {n : Str} (k : Nat) : fsts (l.take k ++ [(o, .mem n)] ++ l.drop k) = fsts l := by
  rw [fsts_app, fsts_app]
  have e : fsts [(o, Bk.mem n)] = [] := rfl
  rw [e, List.append_nil, ← fsts_app, List.take_append_drop]
theorem fsts_mems {l : List At} : fsts (mems l) = [] := by
  unfold fsts mems
  rw [List.filter_filter, List.filter_eq_nil_iff]
  intro q _ h
  cases e : q.2.isF <;> rw [e] at h <;> cases h
theorem cut3 {x y z : Str} (h : Ok3 x y z) {m : Int} (m0 : 0 ≤ m) (m1 : m < 4) : ∃ ss : List Str, cutV [V.str x, V.str y, V.str z] none (some m) = ss.map V.str ∧ ss.length ≤ 3 ∧ ∀ n ∈ ss, txOk n := by
  obtain ⟨⟨h1, h2, h3⟩, _⟩ := h
  have e : m = 0 ∨ m = 1 ∨ m = 2 ∨ m = 3 := by omega
  rcases e with rfl | rfl | rfl | rfl
  · exact ⟨[], rfl, by decide, by simp⟩
  · exact ⟨[x], rfl, by simp, by simpa using h1⟩
  · exact ⟨[x, y], rfl, by simp, by simp; exact ⟨h1, h2⟩⟩
  · exact ⟨[x, y, z], rfl, by simp, by simp; exact ⟨h1, h2, h3⟩⟩
section
variable {P : Program} {w : World} {K : PySem.W.Frag} {mg : Str → Option Value} {base : Heap} {sa : Addr} {sx : List Int}
theorem mg_head (T : Tx K mg sa sx) {G : Hp} {o : Addr} {b : Bk} {Q : VK} (h : BA K G o b) (k : ∀ G', Same G G' → Q (.str (headT b)) G') :
    ∃ a C dx fs sp, V.ref o = .ref a ∧ G a = some (.ins C dx fs) ∧ fs.lookup ("head" : Str) = none ∧ MCal P w K mg base 1 C "head" sp ∧ sp [.ref a] G Q E0 := by
  cases b with
  | fst n as =>
    have h' := h
    obtain ⟨_, _, _, dx, t, r, h4, _⟩ := h'
    exact ⟨o, _, dx, _, _, rfl, h4, fl2 (by decide +kernel) (fl2 (by decide +kernel) (fl2 (by decide +kernel) rfl)), ok_First_head T, o, n, as, rfl, h, k⟩
  | mem n =>
    have h' := h
    obtain ⟨_, dx, r, h4⟩ := h'
    exact ⟨o, _, dx, _, _, rfl, h4, fl2 (by decide +kernel) (fl2 (by decide +kernel) (fl2 (by decide +kernel) (fl2 (by decide +kernel) (fl2 (by decide +kernel) rfl)))), ok_Member_head T, o, n, rfl, h, k⟩
def spLaw (K : PySem.W.Frag) : Sp := fun vs H Q _ => ∃ (a : Addr) (ns : List Int), vs = [.ref a] ∧ SqL K H a (ns.map V.int) ∧ ∀ H', Q (.bl true) H'
theorem ok_law (T : Tx K mg sa sx) {fd : FuncData} (F : FunD K "law" "law" (defArgs s_law) (defBody s_law) (defScope s_law) [] [] (He.ga K "law") fd) (hA : Room 6 callerA) : At1 P w K mg base CX0 callerA (He.ga K "law") fd "_law_script" (spLaw K) := by
  refine at1 F sc_law hA fun cdv s H v Q E hr h => ?_
  have hg : (callerA.deeper (envOfC "law" (defScope s_law) s.heap.objs.size (He.ga K "law") cdv)).guards = some [] := rfl
  suffices z : ∃ t, PSs (cxOf CX0 P w K mg base _ "law" (defScope s_law) (He.ga K "law") cdv callerA [] s H E).nox (defBody s_law) t ∧ t { nx := fun _ G' => Q .non G', rt := Q } (start _ [v]) H from
    let ⟨t, d, q⟩ := z; ⟨t, d.nox, q⟩
  obtain ⟨a, ns, e, hS, k⟩ := h
  cases e
  refine ⟨_, (pss_cons (ps_for PassesOwn.never rfl (pi_range1 rfl (n_range T) (pa_cons (pe_callB (id := "max") (call_max2 rfl) rfl (n_max T) (by decide +kernel) (pa_cons pe_int (pa_cons (pe_callB (id := "min") (call_min2 rfl) rfl (n_min T) (by decide +kernel) (pa_cons pe_int (pa_cons (pe_callB (id := "len") call_len_seq rfl (n_len T) (by decide +kernel) (pa_cons (pv 0) pa_nil)) pa_nil))) pa_nil))) pa_nil)) (pg_name (i := 1) sc_law.nd rfl (by first | exact Or.inl rfl | exact Or.inr rfl))
      (pss_cons (ps_set (i := 2) sc_law.nd rfl (by first | exact Or.inl rfl | exact Or.inr rfl) (pe_cal (ok_l_bag T) hr (by decide) (pa_cons (pv 0) (pa_cons (pv 1) pa_nil))))
      (pss_cons (ps_set (i := 3) sc_law.nd rfl (by first | exact Or.inl rfl | exact Or.inr rfl) (pe_cal (ok_l_names T) hr (by decide) (pa_cons (pv 2) (pa_cons pe_int pa_nil))))
      (pss_cons (ps_asg (pe_cal (ok_l_blocks T) hr (by decide) (pa_cons (pv 2) (pa_cons (pv 3) pa_nil))) (pg_tup (by rfl) (pgs_cons (pg_name (i := 4) sc_law.nd rfl (by first | exact Or.inl rfl | exact Or.inr rfl)) (pgs_cons (pg_name (i := 5) sc_law.nd rfl (by first | exact Or.inl rfl | exact Or.inr rfl)) pgs_nil))))
      (pss_cons (ps_for PassesOwn.never rfl (pi_list (pe_slice sl_list (pv 3) po_none (po_some (pe_cal (ok_l_take T) hr (by decide) (pa_cons (pv 2) (pa_cons pe_int pa_nil)))))) (pg_name (i := 6) sc_law.nd rfl (by first | exact Or.inl rfl | exact Or.inr rfl))
        (pss_cons (ps_set (i := 7) sc_law.nd rfl (by first | exact Or.inl rfl | exact Or.inr rfl) (pe_cal (ok_l_take T) hr (by decide) (pa_cons (pv 2) (pa_cons (pe_op op_add (pe_callB (id := "len") call_len_seq rfl (n_len T) (by decide +kernel) (pa_cons (pv 4) pa_nil)) pe_int) pa_nil))))
        (pss_one (ps_expr (pe_bm PySem.F.plainAttrs_list PySem.F.slot_list_insert PySem.F.type_list_insert mt_insert (pv 4) (pa_cons (pv 7) (pa_cons (pe_kal (ok_Member_init T) hr (by decide) (pa_cons (pv 6) (pa_cons pe_str (pa_cons pe_int (pa_cons pe_bl (pa_cons (pe_lst (pa_cons (pe_kal (ok_Tell_init T) hr (by decide) (pa_cons (pe_tup (pa_cons pe_str (pa_cons pe_int pa_nil))) pa_nil)) pa_nil)) pa_nil)))))) pa_nil)))))))
      (pss_cons (ps_set (i := 8) sc_law.nd rfl (by first | exact Or.inl rfl | exact Or.inr rfl) (pe_kal (ok_Edition_init T) hr (by decide) (pa_cons pe_str (pa_cons pe_dnewK (pa_cons pe_dnewK (pa_cons (pe_tup pa_nil) (pa_cons (pe_callTy (T := "tuple") call_tuple_of rfl (n_tuple T) (by decide +kernel) (pa_cons (pv 4) pa_nil)) pa_nil)))))))
      (pss_cons (ps_setLc (i := 9) (own := [("_law_block", 10)]) (g := gName 10) rfl sc_law.nd rfl rfl (sw_true rfl rfl rfl (by decide +kernel)) (pi_tup (pe_fld (pv 8) rfl)) (blkOk_by (own := [("_law_block", 10)]) (N := ["_law_script", "_law_at", "_law_bag_here", "_law_names_here", "_law_blocks_here", "_law_due", "_law_name", "_law_place", "_law_edition", "_law_heads", "_law_block", "_law_found", "_law_empty"]) (sc := defScope s_law) (by decide +kernel)) (fun _ _ _ _ _ => pg_name (i := 10) sc_law.nd rfl (Or.inl rfl)) (fun _ _ _ _ _ => pts_nil) (fun _ _ _ _ _ => (show PE _ _ (tMG P w K mg base 1 "head" _) from pe_mG (k := 1) hr (by decide) (pv 10))))
      (pss_cons (ps_set (i := 11) sc_law.nd rfl (by first | exact Or.inl rfl | exact Or.inr rfl) (pe_cal (ok_first_order T) hr (by decide) (pa_cons (pv 8) pa_nil)))
      (pss_cons (ps_if (PW.pt (pw_or (pt_not (pt_val (pe_callB (id := "isinstance") (r := rIsi K) call_isi rfl (n_isinstance T) (by decide +kernel) (pa_cons (pv 11) (pa_cons (pe_bltn (v := .ty "list") rfl (n_list T) (by decide +kernel) rfl) pa_nil))))) (pw_or1 (pt_cmpR op_ne (pe_callB (id := "repr") (call_reprL hr hg) rfl (n_repr T) (by decide +kernel) (pa_cons (pv 11) pa_nil)) (pe_callB (id := "repr") (call_reprL hr hg) rfl (n_repr T) (by decide +kernel) (pa_cons (pv 5) pa_nil)) (nomark _))))) (pss_one (ps_ret pe_bl)) pss_nil)
      (pss_cons (ps_expr (pe_bm PySem.F.plainAttrs_list PySem.F.slot_list_append PySem.F.type_list_append mt_append (pv 11) (pa_cons pe_str pa_nil)))
      (pss_cons (ps_if (PW.pt (pw_or (pt_cmpR op_ne (pe_callB (id := "repr") (call_reprL hr hg) rfl (n_repr T) (by decide +kernel) (pa_cons (pe_cal (ok_first_order T) hr (by decide) (pa_cons (pv 8) pa_nil)) pa_nil)) (pe_callB (id := "repr") (call_reprL hr hg) rfl (n_repr T) (by decide +kernel) (pa_cons (pv 5) pa_nil)) (nomark _)) (pw_or1 (pt_cmpR (op_neD hr.units) (pe_lc (own := [("_law_block", 10)]) (g := gName 10) rfl sc_law.nd (pi_tup (pe_fld (pv 8) rfl)) (blkOk_by (own := [("_law_block", 10)]) (N := ["_law_script", "_law_at", "_law_bag_here", "_law_names_here", "_law_blocks_here", "_law_due", "_law_name", "_law_place", "_law_edition", "_law_heads", "_law_block", "_law_found", "_law_empty"]) (sc := defScope s_law) (by decide +kernel)) (fun _ _ _ _ _ => pg_name (i := 10) sc_law.nd rfl (Or.inl rfl)) (fun _ _ _ _ _ => pts_nil) (fun _ _ _ _ _ => (show PE _ _ (tMG P w K mg base 1 "head" _) from pe_mG (k := 1) hr (by decide) (pv 10)))) (pv 9) (nomark _))))) (pss_one (ps_ret pe_bl)) pss_nil)
      (pss_cons (ps_set (i := 12) sc_law.nd rfl (by first | exact Or.inl rfl | exact Or.inr rfl) (pe_kal (ok_Edition_init T) hr (by decide) (pa_cons pe_str (pa_cons pe_dnewK (pa_cons pe_dnewK (pa_cons (pe_tup pa_nil) (pa_cons (pe_callTy (T := "tuple") call_tuple_of rfl (n_tuple T) (by decide +kernel) (pa_cons (pe_lc (own := [("_law_block", 10)]) (g := gName 10) rfl sc_law.nd (pi_list (pv 4)) (blkOk_by (own := [("_law_block", 10)]) (N := ["_law_script", "_law_at", "_law_bag_here", "_law_names_here", "_law_blocks_here", "_law_due", "_law_name", "_law_place", "_law_edition", "_law_heads", "_law_block", "_law_found", "_law_empty"]) (sc := defScope s_law) (by decide +kernel)) (fun _ _ _ _ _ => pg_name (i := 10) sc_law.nd rfl (Or.inl rfl)) (fun _ _ _ _ _ => (pts_one (pt_val (pe_callB (id := "isinstance") (r := rIsi K) call_isi rfl (n_isinstance T) (by decide +kernel) (pa_cons (pv 10) (pa_cons (pe_glob (v := .ref _) rfl (g_Member T) rfl) pa_nil)))))) (fun _ _ _ _ _ => (pv 10))) pa_nil)) pa_nil)))))))
      (pss_one (ps_if (PW.pt (pw_or (pt_cmpR (op_neD hr.units) (pe_cal (ok_first_order T) hr (by decide) (pa_cons (pv 12) pa_nil)) (pe_lst pa_nil) (nomark _)) (pw_or1 (pt_cmpR op_ne (pe_callB (id := "repr") (call_reprL hr hg) rfl (n_repr T) (by decide +kernel) (pa_cons (pe_cal (ok_first_order T) hr (by decide) (pa_cons (pv 8) pa_nil)) pa_nil)) (pe_callB (id := "repr") (call_reprL hr hg) rfl (n_repr T) (by decide +kernel) (pa_cons (pv 5) pa_nil)) (nomark _))))) (pss_one (ps_ret pe_bl)) pss_nil))))))))))))))
    (pss_one (ps_ret pe_bl))), ?_⟩
  refine ⟨_, rfl, a, _, rfl, .inl hS, _, _, rfl, _, _, rfl, _, rfl, by split <;> omega, by split <;> split <;> omega, ?_⟩
  generalize hn : (Int.toNat _) = turns
  have ht : turns ≤ 6 := by
    rw [← hn]
    split <;> split <;> omega
  clear hn
  refine for_range (lo := 0) (n := turns) (fun i σ G => ∃ k1 k2 k3 k4 k5 k6 k7 k8 k9 k10 k11 k12 : Option V, σ = [some (.ref a), k1, k2, k3, k4, k5, k6, k7, k8, k9, k10, k11, k12] ∧ Same H G)
    ⟨none, none, none, none, none, none, none, none, none, none, none, none, rfl, Same.refl _⟩ ?_ (fun σ G _ => k G)
  rintro i σ G hi ⟨k1, k2, k3, k4, k5, k6, k7, k8, k9, k10, k11, k12, rfl, sG⟩
  refine ⟨_, rfl, _, rfl, a, ns, 0 + (i : Int), rfl, sG.sl hS, by omega, by omega, fun p H1 hp s1 b1 => ?_⟩
  refine ⟨_, rfl, p, rfl, b1, fun l H2 x y z hl n2 b2 hl2 h3 => ?_⟩
  refine ⟨_, rfl, _, rfl, p, l, x, y, z, rfl, b2, hl2, h3, fun R L D bs d H3 n3 b3 hL hD nLD hR hL3 hD3 hq lb ff due okd => ⟨R, _, rfl, SqT.of hR, rfl, _, _, rfl, _, _, rfl, rfl, ?_⟩⟩
  have t2 : Same G H2 := same_kp s1 hp n2
  have t3 : Same G H3 := same_kp t2 hp n3
  have tH3 : Same H H3 := sG.trans t3
  have nlp : l ≠ p := Ne.symm (b1.ne hl)
  have nLp : L ≠ p := Ne.symm (b2.ne hL)
  have nDp : D ≠ p := Ne.symm (b2.ne hD)
  have hl3 := n3 _ _ nlp hl2
  have GL : H L = none := (sG.trans t2).free hL
  have Gp : H p = none := sG.free hp
  -- routines among them
  refine ⟨_, rfl, _, rfl, p, 4, rfl, b3, by decide, by decide, fun m H4 m0 m1 n4 b4 => ⟨_, rfl, l, _, rfl, SqL.of (n4 _ _ nlp hl3), fun S hS => ⟨S, rfl, ⟨_, SqL.of upd_same⟩, ?_⟩⟩⟩
  obtain ⟨ss, ec, lss, oks⟩ := cut3 h3 m0 m1
  rw [ec]
  have sS : ∀ {u : HO}, Same H4 (upd H4 S u) := Same.new hS
  have hL4 := n4 _ _ nLp hL3
  have nSL : L ≠ S := ne_of_none hL4 hS
  have tH4 : Same H H4 := same_kp tH3 Gp n4
  have qb4 : ∀ q ∈ bs, BA K H4 q.1 q.2 := fun q h => by
    obtain ⟨b, c, e, _⟩ := b3
    exact (hq q h).kp n4 e (fun _ _ _ z => by cases z) (fun _ z => by cases z)
  refine for_list (K := K) (a := S) (xs := ss.map V.str) (fun j σ G => ∃ (k6 k7 : Option V) (bs' : List At), σ = [some (.ref a), some (.int (0 + (i : Int))), some (.ref p), some (.ref l), some (.ref L), some (.ref D), k6, k7, k8, k9, k10, k11, k12] ∧
      G L = some (.lst (rf bs')) ∧ fsts bs' = bs ∧ (∀ q ∈ bs', BA K G q.1 q.2) ∧ bs'.length ≤ 2 + j ∧ Bag G p ∧ G D = some (.lst (d.map V.str)) ∧ G S = some (.lst (ss.map V.str)) ∧ Same H G)
    ⟨k6, k7, bs, rfl, sS _ _ hL4, ff, fun q h => (qb4 q h).same sS, by omega, b4.same sS, sS _ _ (n4 _ _ nDp hD3), upd_same, tH4.trans sS⟩ (fun j σ G _ ⟨_, _, _, _, _, _, _, _, _, _, z, _⟩ => SqL.of z) ?_ ?_
  · rintro j v σ G1 hj ⟨k6, k7, bs', rfl, hL5, ff5, hq5, lb5, b5, hD5, hS5, t5⟩
    rw [List.getElem?_map] at hj
    obtain ⟨n, hn, rfl⟩ : ∃ n, ss[j]? = some n ∧ V.str n = v := by
      cases e : ss[j]? with
      | none => rw [e] at hj; cases hj
      | some n => rw [e] at hj; exact ⟨n, rfl, Option.some.inj hj⟩
    have hj3 : j < 3 := Nat.lt_of_lt_of_le (List.getElem?_eq_some_iff.mp hn).1 lss
    have okn : txOk n := oks n (List.mem_of_getElem? hn)
    refine ⟨_, rfl, _, rfl, L, _, rfl, .inl (SqL.of hL5), _, _, rfl, rfl, p, _, rfl, b5, by rw [rf_len]; omega, by rw [rf_len]; omega, fun pl G2 p0 p1 m2 b6 => ?_⟩
    rw [rf_len] at p1
    have hL6 := m2 _ _ nLp hL5
    have nSp : S ≠ p := by
      rintro rfl
      obtain ⟨b, c, e, _⟩ := b4
      rw [e] at hS; cases hS
    refine ⟨_, rfl, .inl ⟨rfl, _, SqL.of hL6⟩, _, rfl, _, rfl, sz1 (by simp), fun n1 hn1 => fun x1 dx1 nx nd ne => ?_⟩
    refine ⟨x1, dx1, n1, _, rfl, upd_same, mk_keep nx nd _ _ upd_same, fun G3 kk => ⟨rfl, sz1 (by simp), fun r hr2 => fun o dx nx2 nd2 ne2 => ?_⟩⟩
    have s7 : Same G2 G3 := (Same.new hn1).trans (mk_same nx nd kk)
    refine ⟨o, dx, n, r, _, rfl, upd_same, okn, mk_keep nx2 nd2 _ _ upd_same, fun G4 kk2 ba => ⟨rfl, ?_⟩⟩
    have s8 : Same G2 G4 := (s7.trans (Same.new hr2)).trans (mk_same nx2 nd2 kk2)
    have hL8 := s8 _ _ hL6
    refine ⟨L, _, pl, .ref o, rfl, rfl, hL8, sz2 (by rw [rf_len]; omega), p0, by omega, ?_⟩
    have t8 : Same H G4 := (same_kp t5 Gp m2).trans s8
    have e1 : (rf bs').take pl.toNat ++ [V.ref o] ++ (rf bs').drop pl.toNat = rf (bs'.take pl.toNat ++ [(o, .mem n)] ++ bs'.drop pl.toNat) := by
      rw [rf_app, rf_app]
      show _ = (bs'.take pl.toNat).map _ ++ [V.ref o] ++ (bs'.drop pl.toNat).map _
      rw [List.map_take, List.map_drop]; rfl
    rw [e1]
    refine ⟨_, _, _, rfl, upd_same, (fsts_ins _).trans ff5, fun q h => ?_, ?_, ?_, (upd_ne (Ne.symm nLD)).trans (s8 _ _ (m2 _ _ nDp hD5)), (upd_ne (Ne.symm nSL)).trans (s8 _ _ (m2 _ _ nSp hS5)), t8.mut GL⟩
    · have old : ∀ q ∈ bs', BA K (upd G4 L (.lst (rf (bs'.take pl.toNat ++ [(o, .mem n)] ++ bs'.drop pl.toNat)))) q.1 q.2 := fun q h => by
        obtain ⟨b, c, e, _⟩ := b5
        exact (((hq5 q h).kp m2 e (fun _ _ _ z => by cases z) (fun _ z => by cases z)).same s8).updl hL8
      rcases List.mem_append.mp h with h | h
      · rcases List.mem_append.mp h with h | h
        · exact old q (List.mem_of_mem_take h)
        · have e : q = (o, .mem n) := by simpa using h
          subst e; exact ba.updl hL8
      · exact old q (List.mem_of_mem_drop h)
    · rw [List.length_append, List.length_append, List.length_take, List.length_drop]
      simp; omega
    · obtain ⟨b, c, e, r⟩ := b6
      exact ⟨b, c, (upd_ne (Ne.symm nLp)).trans (s8 _ _ e), r⟩
  rintro σ G1 ⟨k6, k7, bs', rfl, hL5, ff5, hq5, lb5, _, hD5, _, t5⟩
  rw [List.length_map] at lb5
  have due5 : Due (fsts bs') d := by rw [ff5]; exact due
  have ld : d.length ≤ 1000 := by rw [due.1]; omega
  have lf : (fsts bs').length ≤ 20 := by rw [ff5]; omega
  -- the edition
  refine fun nu hnu ce hce => ⟨sz1 (by simp), fun wa hwa => ⟨_, rfl, L, _, rfl, .inl ⟨SqL.of ((((Same.new hnu).trans (Same.new hce)).trans (Same.new hwa)) _ _ hL5), fun bl hbl => fun e dx nx nd ne => ?_⟩⟩⟩
  have v1 : Same G1 (upd (upd (upd (upd G1 nu (.dK [])) ce (.dK [])) wa (.tup [])) bl (.tup (rf bs'))) := (((Same.new hnu).trans (Same.new hce)).trans (Same.new hwa)).trans (Same.new hbl)
  have v2 : (upd (upd (upd (upd G1 nu (.dK [])) ce (.dK [])) wa (.tup [])) bl (.tup (rf bs'))) nu = some (.dK []) := (((Same.new hce).trans (Same.new hwa)).trans (Same.new hbl)) _ _ upd_same
  have v3 : (upd (upd (upd (upd G1 nu (.dK [])) ce (.dK [])) wa (.tup [])) bl (.tup (rf bs'))) ce = some (.dK []) := ((Same.new hwa).trans (Same.new hbl)) _ _ upd_same
  have v4 : (upd (upd (upd (upd G1 nu (.dK [])) ce (.dK [])) wa (.tup [])) bl (.tup (rf bs'))) wa = some (.tup []) := (Same.new hbl) _ _ upd_same
  have v5 : (upd (upd (upd (upd G1 nu (.dK [])) ce (.dK [])) wa (.tup [])) bl (.tup (rf bs'))) bl = some (.tup (rf bs')) := upd_same
  generalize upd (upd (upd (upd G1 nu (.dK [])) ce (.dK [])) wa (.tup [])) bl (.tup (rf bs')) = GB at nx nd v1 v2 v3 v4 v5 ⊢
  have mk := mk_keep (C := He.ga K "Edition") nx nd
  refine ⟨e, dx, "book", nu, ce, wa, bl, bs', rfl, upd_same, mk _ _ v2, mk _ _ v3, mk _ _ v4, mk _ _ v5, fun q h => ((hq5 q h).same v1).same mk, by omega, fun G6 kk ed => ⟨rfl, ?_⟩⟩
  have s16 : Same G1 G6 := v1.trans (mk_same nx nd kk)
  have ed' := ed
  obtain ⟨dxe, bl2, fi, fs, he, hbk, hfi, hbt, hft, hqe⟩ := ed'
  have lowH : ∀ y ∈ bs'.map (fun q => headT q.2), low y := fun y hy => by
    obtain ⟨q, h, rfl⟩ := List.mem_map.mp hy
    exact low_head (hqe q h)
  have eH : (bs'.map fun q => V.str (headT q.2)) = (bs'.map fun q => headT q.2).map V.str := by rw [List.map_map]; rfl
  -- heads
  refine ⟨_, rfl, e, _, dxe, fs, _, rfl, he, c_Edition T, na_Edition_blocks T, hbk, bl2, rfl, ⟨_, SqT.of hbt⟩, fun HD hHD => ?_⟩
  refine lc_tup (K := K) (a := bl2) (xs := rf bs') (fun j G => G HD = some (.lst ((bs'.take j).map fun q => V.str (headT q.2))) ∧ Same G6 G) ⟨upd_same, Same.new hHD⟩ (fun j G _ z => SqT.of (z.2 _ _ hbt)) ?_ ?_
  · rintro j v G hj ⟨hG, sG2⟩
    obtain ⟨q, hl, rfl⟩ := rf_at hj
    refine ⟨rfl, _, rfl, mg_head T ((hqe q (List.mem_of_getElem? hl)).same sG2) fun G' s' => ⟨_, s' _ _ hG, sz2 (by rw [List.length_map, List.length_take]; omega), ?_, Same.mut (sG2.trans s') hHD⟩⟩
    rw [upd_same, List.take_add_one, hl, List.map_append]; rfl
  rintro G7 ⟨hH7, s67⟩
  rw [rf_len, List.take_length, eH] at hH7
  -- the order found
  refine ⟨_, rfl, e, bs', d, rfl, ed.same s67, lf, due5, fun f G8 hf s78 hf8 => ?_⟩
  have hD7 := s67 _ _ (s16 _ _ hD5)
  refine ⟨_, rfl, _, .ty "list", _, .type "list", true, rfl, .ty _, .base (.lst hf8), kit_ty (by decide +kernel), true, rfl, iteF ?_⟩
  refine ⟨_, rfl, f, d, rfl, hf8, ld, okd, _, rfl, D, d, rfl, s78 _ _ hD7, ld, okd, rfl, _, rfl, uF rfl ?_⟩
  refine ⟨_, rfl, .inl ⟨rfl, _, SqL.of hf8⟩, f, _, .str "x", rfl, rfl, hf8, sz2 (by rw [List.length_map]; omega), ?_⟩
  have s79 : Same G7 (upd G8 f (.lst (d.map V.str ++ [V.str "x"]))) := s78.mut hf
  generalize upd G8 f (.lst (d.map V.str ++ [V.str "x"])) = G9 at s79 ⊢
  have s69 : Same G6 G9 := s67.trans s79
  refine ⟨_, rfl, e, bs', d, rfl, ed.same s69, lf, due5, fun f2 GA hf2 s9A hfA => ⟨f2, d, rfl, hfA, ld, okd, _, rfl, D, d, rfl, s9A _ _ (s79 _ _ hD7), ld, okd, rfl, _, rfl, uF rfl ?_⟩⟩
  have s6A : Same G6 GA := s69.trans s9A
  have hHA := s9A _ _ (s79 _ _ hH7)
  refine ⟨_, rfl, e, _, dxe, fs, _, rfl, s6A _ _ he, c_Edition T, na_Edition_blocks T, hbk, bl2, rfl, ⟨_, SqT.of (s6A _ _ hbt)⟩, fun HE hHE => ?_⟩
  refine lc_tup (K := K) (a := bl2) (xs := rf bs') (fun j G => G HE = some (.lst ((bs'.take j).map fun q => V.str (headT q.2))) ∧ Same GA G) ⟨upd_same, Same.new hHE⟩ (fun j G _ z => SqT.of (z.2 _ _ (s6A _ _ hbt))) ?_ ?_
  · rintro j v G hj ⟨hG, sG2⟩
    obtain ⟨q, hl, rfl⟩ := rf_at hj
    refine ⟨rfl, _, rfl, mg_head T ((hqe q (List.mem_of_getElem? hl)).same (s6A.trans sG2)) fun G' s' => ⟨_, s' _ _ hG, sz2 (by rw [List.length_map, List.length_take]; omega), ?_, Same.mut (sG2.trans s') hHE⟩⟩
    rw [upd_same, List.take_add_one, hl, List.map_append]; rfl
  rintro GC ⟨hHC, sAC⟩
  rw [rf_len, List.take_length, eH] at hHC
  refine ⟨_, rfl, .list ((bs'.map fun q => headT q.2).map PyData.str), .list ((bs'.map fun q => headT q.2).map PyData.str), .lst (SqL.of hHC) (strs_dp _), .lst (SqL.of (sAC _ _ hHA)) (strs_dp _), (strs_shp lowH).1, (strs_shp lowH).1, _, rfl, ?_⟩
  rw [(strs_shp lowH).2]
  refine iteF ?_
  have s6C : Same G6 GC := s6A.trans sAC
  have s1C : Same G1 GC := s16.trans s6C
  -- an edition without first blocks
  refine fun nu2 hnu2 ce2 hce2 => ⟨sz1 (by simp), fun wa2 hwa2 => ?_⟩
  have w1 : Same GC (upd (upd (upd GC nu2 (.dK [])) ce2 (.dK [])) wa2 (.tup [])) := ((Same.new hnu2).trans (Same.new hce2)).trans (Same.new hwa2)
  have w2 : (upd (upd (upd GC nu2 (.dK [])) ce2 (.dK [])) wa2 (.tup [])) nu2 = some (.dK []) := ((Same.new hce2).trans (Same.new hwa2)) _ _ upd_same
  have w3 : (upd (upd (upd GC nu2 (.dK [])) ce2 (.dK [])) wa2 (.tup [])) ce2 = some (.dK []) := (Same.new hwa2) _ _ upd_same
  have w4 : (upd (upd (upd GC nu2 (.dK [])) ce2 (.dK [])) wa2 (.tup [])) wa2 = some (.tup []) := upd_same
  generalize upd (upd (upd GC nu2 (.dK [])) ce2 (.dK [])) wa2 (.tup []) = GD at w1 w2 w3 w4 ⊢
  have s1D : Same G1 GD := s1C.trans w1
  have hLD := s1D _ _ hL5
  refine ⟨_, rfl, L, rfl, ⟨_, SqL.of hLD⟩, fun M hM => ?_⟩
  refine lc_list (K := K) (a := L) (xs := rf bs') (fun j G => G = upd GD M (.lst (rf ((bs'.take j).filter fun q => !q.2.isF)))) rfl (fun j G _ z => by subst z; exact SqL.of (Same.new hM _ _ hLD)) ?_ ?_
  · rintro j v G hj rfl
    obtain ⟨q, hl, rfl⟩ := rf_at hj
    obtain ⟨t, ty, _, kf⟩ := tyB T (((hq5 q (List.mem_of_getElem? hl)).same s1D).same (Same.new hM (o := .lst (rf ((bs'.take j).filter fun q => !q.2.isF)))))
    refine ⟨rfl, _, rfl, .ref q.1, .ref (He.ga K "Member"), t, _, !q.2.isF, rfl, .own _, ty, kf, _, rfl, bC (fun b => ?_) fun b => ?_⟩
    · refine ⟨_, rfl, _, upd_same, sz2 (by rw [rf_len]; have := List.length_filter_le (fun q : At => !q.2.isF) (bs'.take j); rw [List.length_take] at this; omega), ?_⟩
      rw [upd_upd, take_filter _ bs' hl, if_pos b]
      show _ = upd GD M (.lst (List.map _ (_ ++ _)))
      rw [List.map_append]; rfl
    · show upd GD M _ = upd GD M (.lst (rf _))
      rw [take_filter _ bs' hl, if_neg (by rw [b]; exact nofun), List.append_nil]
  rintro G rfl
  rw [rf_len, List.take_length]
  refine ⟨M, _, rfl, .inl ⟨SqL.of upd_same, fun bl3 hbl3 => fun e2 dx2 nx2 nd2 ne2 => ?_⟩⟩
  have x1 : Same GD (upd (upd GD M (.lst (rf (bs'.filter fun q => !q.2.isF)))) bl3 (.tup (rf (bs'.filter fun q => !q.2.isF)))) := (Same.new hM).trans (Same.new hbl3)
  have x2 : (upd (upd GD M (.lst (rf (bs'.filter fun q => !q.2.isF)))) bl3 (.tup (rf (bs'.filter fun q => !q.2.isF)))) bl3 = some (.tup (rf (mems bs'))) := upd_same
  generalize upd (upd GD M (.lst (rf (bs'.filter fun q => !q.2.isF)))) bl3 (.tup (rf (bs'.filter fun q => !q.2.isF))) = GE at nx2 nd2 x1 x2 ⊢
  have mk2 := mk_keep (C := He.ga K "Edition") nx2 nd2
  have lm : (mems bs').length ≤ 100 := by
    have := List.length_filter_le (fun q : At => !q.2.isF) bs'
    show (bs'.filter fun q => !q.2.isF).length ≤ 100
    omega
  refine ⟨e2, dx2, "page", nu2, ce2, wa2, bl3, mems bs', rfl, upd_same, mk2 _ _ (x1 _ _ w2), mk2 _ _ (x1 _ _ w3), mk2 _ _ (x1 _ _ w4), mk2 _ _ x2, fun q h => ((hq5 q (List.mem_filter.mp h).1).same (s1D.trans x1)).same mk2, lm, fun GF kk2 ed2 => ⟨rfl, ?_⟩⟩
  have s1F : Same G1 GF := (s1D.trans x1).trans (mk_same nx2 nd2 kk2)
  have s6F : Same G6 GF := (s6C.trans (w1.trans x1)).trans (mk_same nx2 nd2 kk2)
  refine ⟨_, rfl, e2, mems bs', [], rfl, ed2, by rw [fsts_mems]; simp, by rw [fsts_mems]; exact due0, fun f3 GG hf3 sFG hfG => ⟨sz1 (by simp), fun g hgn => ⟨.list [], .list [], .lst (SqL.of (Same.new hgn _ _ hfG)) .nil, .lst (SqL.of upd_same) .nil, rfl, rfl, _, rfl, ?_⟩⟩⟩
  rw [show PyData.eqv (.list []) (.list []) = true from rfl]
  refine iteF ?_
  have sFH : Same GF (upd GG g (.lst [])) := sFG.trans (Same.new hgn)
  generalize upd GG g (.lst []) = GH at sFH ⊢
  refine ⟨_, rfl, e, bs', d, rfl, ed.same (s6F.trans sFH), lf, due5, fun f4 GI hf4 sHI hfI => ⟨f4, d, rfl, hfI, ld, okd, _, rfl, D, d, rfl, sHI _ _ (sFH _ _ (s1F _ _ hD5)), ld, okd, rfl, _, rfl, uF rfl ?_⟩⟩
  exact ⟨_, _, _, _, _, _, _, _, _, _, _, _, rfl, t5.trans ((s1F.trans sFH).trans sHI)⟩
end
end K16
open PySem PySem.W PySem.Calls PyProof.Rows
theorem PySem.Challenge.cw_quietedition_k16_first_blocks_holds : PySem.Challenge.rw_quietedition_k16_first_blocks.Holds := by
  w_on; o_law
  refine HandSHeadRun.head_any (r := OpenLaw.row PySem.Challenge.rw_quietedition_k16_first_blocks) (q := view (OpenLaw.row PySem.Challenge.rw_quietedition_k16_first_blocks).prog [73]) (H := K16.hkz 4) (ob := K16.ob) (M := 9000) (loose := K16.loose) (d := HandSHeadRun.topDef (OpenLaw.row PySem.Challenge.rw_quietedition_k16_first_blocks).prog 73) (kwd := []) K16.ob_eq
    (by kernel_rfl) (fun s => by kernel_rfl) K16.run (by kernel_rfl) (by kernel_rfl) (by kernel_rfl) (by rfl) (by first | assumption | decide +kernel) (by decide +kernel) ⟨rfl, rfl, rfl, rfl, rfl, by decide +kernel⟩ ?hw ?hc
  case hw => w_witness2
  case hc =>
    refine Cm.walk_at (l := PySem.Challenge.rw_quietedition_k16_first_blocks) (n := 63) (x := "_law_script") (CX := L2.CX0) rfl (by decide) (by kernel_rfl) ?F (fun _ _ _ _ z => z)
    intro w mg fa h Y G g0
    obtain ⟨K, KX, c, ck⟩ := Y
    have gl : mg ("law" : PySem.Str) = some (.ref fa) := by
      have nm : (HandSHeadRun.topDef (OpenLaw.row PySem.Challenge.rw_quietedition_k16_first_blocks).prog 73).name = ("law" : PySem.Str) := by kernel_rfl
      rw [← nm]
      exact g0
    have T : K16.Tx K mg (0 : Addr) [] := K16.tx_of KX G c ck
    obtain ⟨fd, F⟩ := K16.f_law T
    cases gl.symm.trans (K16.g_law T)
    have b := L2.FunD.bindsA (ps := ["_law_script"]) F fun _ _ _ _ _ _ us hl => match us, hl with | [_], _ => rfl
    exact ⟨K, fd, K16.spLaw K, KX, fun s v => b s [v] rfl, fun _ a ns _ _ q => ⟨a, ns, rfl, q, fun _ => rfl⟩, fun _ _ _ => K16.ok_law T F ⟨rfl, by decide, by decide⟩⟩
