import PyProof.Rows.All
import Wide.All
import OpenK.AllK
import Wide.FinOn
import KE.KStateDown
import HandS.ForMost
import HandS.FStr
import HandS.IsInst
import HandS.Wide
import HandS.SlotsOwn
import HandS.Defaults
import HandS.Head0
import HandS.Head1
import HandS.Head2
import HandS.HeadEnd
import HandS.HeadHook1
import HandS.HeadHook2
import KE.KOpsOwn
import HandS.OwnIter
import KE.KDictIter
import PyProof.TupleIter
import PyProof.WalksMore
import HandS.ExcInit
import HandS.ExcField
import HandS.ExcIs
import HandS.Nested
import KE.KExcSuper
import KE.KSuper
import HandS.FStrTup
import PyProof.ReprHeads
import HandS.ClsMeth
import HandS.Star
import HandS.Deep
import HandS.TupAny
import HandS.SetKeys
import HandS.SortKw
import KE.DataMinMax
import PySem.Challenge.RW_quietedition_k87_sets_of_manners
set_option Elab.async false
set_option linter.all false
set_option maxRecDepth 100000
set_option maxHeartbeats 0
namespace Cm
open PySem PySem.Spec PyProof.Rows L2

/-! ### defs, methods, makers of the module, each as one fact -/
/-- the module's name x is a def that keeps sp at level k -/
def Cal (P : Program) (w : World) (K : PySem.W.Frag) (mg : Str → Option Value) (base : Heap) (k : Nat) (x : Str) (sp : Sp) : Prop :=
  ∃ f fd ps, FnOk P w K mg base CX0 k f fd ps sp ∧ Binds K fd ps [] ∧ mg x = some (.ref f) ∧ PySem.W.keepIn K (.ref f) = true
/-- the class at C has the method m, which keeps sp at level k -/
def MCal (P : Program) (w : World) (K : PySem.W.Frag) (mg : Str → Option Value) (base : Heap) (k : Nat) (C : Addr) (m : Str) (sp : Sp) : Prop :=
  Cls K C ∧ ∃ f fd ps, FnOk P w K mg base CX0 k f fd ps sp ∧ Binds K fd ps [] ∧ Meth K C m f
/-- the module's name x is the class at C, whose maker keeps sp; dv fills up -/
def KCal (P : Program) (w : World) (K : PySem.W.Frag) (mg : Str → Option Value) (base : Heap) (k : Nat) (x : Str) (C : Addr) (sp : Sp) (dv : List V) : Prop :=
  mg x = some (.ref C) ∧ ∃ f fd ps ds, Mk K C f ∧ FnOk P w K mg base CX0 k f fd ps sp ∧ Binds K fd ps ds ∧ Vals dv ds
section
variable {X : Cx} {j k : Nat} {x m : Str} {C : Addr} {sp : Sp} {dv : List V} {e o : Expr} {es : List Expr} {p pos apos : Pos} {t : TA} {ta : TE}
theorem pe_cal (c : Cal X.prog X.w X.K X.mg X.base k x sp) (hr : Room j X.A) (hk : k ≤ j) (ha : PA X (e :: es) t) (hg : Gl X x := by rfl) (hd : (x == ("__debug__" : Str)) = false := by decide)
    (h1 : starEach (e :: es) X.env = (false, eval e X.env) :: starEach es X.env := by rfl) (h2 : (backTo pos (starEach es X.env)).any (·.1) = false := by rfl) :
    PE X (.Call (.Name x p) (e :: es) [] pos) (tCall sp [] E0 t) := by
  obtain ⟨f, fd, ps, F, b, g, kp⟩ := c
  exact pe_call F (hr.mono hk) hg g kp b .nil pass0 ha hd h1 h2
theorem pe_kal (c : KCal X.prog X.w X.K X.mg X.base k x C sp dv) (hr : Room j X.A) (hk : k + 1 ≤ j) (ha : PA X (e :: es) t) (hg : Gl X x := by rfl) (hd : (x == ("__debug__" : Str)) = false := by decide)
    (h1 : starEach (e :: es) X.env = (false, eval e X.env) :: starEach es X.env := by rfl) (h2 : (backTo pos (starEach es X.env)).any (·.1) = false := by rfl) :
    PE X (.Call (.Name x p) (e :: es) [] pos) (tMake C sp dv E0 t) := by
  obtain ⟨g, f, fd, ps, ds, M, F, b, v⟩ := c
  exact pe_make M F (hr.mono hk) hg g b v pass0 ha hd h1 h2
theorem pe_mcal0 {pl : Sem Bool} (c : MCal X.prog X.w X.K X.mg X.base k C m sp) (hr : Room j X.A) (hk : k ≤ j) (ho : PE X o ta)
    (ht : eval (.Call (.Attribute o m apos) [] [] pos) X.env = (do
      let ov ← eval o X.env
      standAt apos.atName
      let (f, first) ← holding [ov] (getMethod ov m pl)
      callWith pos f first (backTo pos (starEach [] X.env)) (backToKw pos (keywordEach [] X.env))) := by rfl) : PE X (.Call (.Attribute o m apos) [] [] pos) (tMeth C m sp [] E0 ta tNil) := by
  obtain ⟨cl, f, fd, ps, F, b, M⟩ := c
  exact pe_meth0 ho cl M F (hr.mono hk) b .nil pass0 ht
/-- two readings of one expression -/
theorem PE.or2 {t1 t2 : TE} (h1 : PE X e t1) (h2 : PE X e t2) : PE X e (fun σ H Q => t1 σ H Q ∨ t2 σ H Q) :=
  ⟨fun pins s σ H Q I h => h.elim (h1.run pins s σ H Q I) (h2.run pins s σ H Q I)⟩
end
theorem MCal.mono {P : Program} {w : World} {K : PySem.W.Frag} {mg : Str → Option Value} {base : Heap} {j k : Nat} {C : Addr} {m : Str} {sp : Sp} (h : MCal P w K mg base j C m sp) (l : j ≤ k) : MCal P w K mg base k C m sp :=
  let ⟨c, f, fd, ps, F, r⟩ := h; ⟨c, f, fd, ps, F.mono l, r⟩
/-! ### methods and == of an instance whose class the reading tells -/
def tMG (P : Program) (w : World) (K : PySem.W.Frag) (mg : Str → Option Value) (base : Heap) (k : Nat) (m : Str) (ta : TE) : TE := fun σ H Q =>
  ta σ H fun x H1 => ∃ a C dx fs sp, x = .ref a ∧ H1 a = some (.ins C dx fs) ∧ fs.lookup m = none ∧ MCal P w K mg base k C m sp ∧ sp [.ref a] H1 Q E0
def rOwnG (P : Program) (w : World) (K : PySem.W.Frag) (mg : Str → Option Value) (base : Heap) (k : Nat) (m : Str) : R2 := fun x y H Q =>
  ∃ a C dx fs sp, x = .ref a ∧ H a = some (.ins C dx fs) ∧ MCal P w K mg base k C m sp ∧
    ((∃ b D dy gs, y = .ref b ∧ H b = some (.ins D dy gs) ∧ PySem.W.notFirst K C (.ref D) = true) ∨ (∃ z, y = .str z ∧ PySem.W.notFirst K C (.type "str") = true)) ∧ sp [x, y] H Q E0
section
variable {X : Cx} {j k : Nat} {m : Str} {o : Expr} {pos apos : Pos} {ta : TE}
theorem pe_mG {pl : Sem Bool} (hr : Room j X.A) (hk : k ≤ j) (he : PE X o ta)
    (ht : eval (.Call (.Attribute o m apos) [] [] pos) X.env = (do
      let ov ← eval o X.env
      standAt apos.atName
      let (f, first) ← holding [ov] (getMethod ov m pl)
      callWith pos f first (backTo pos (starEach [] X.env)) (backToKw pos (keywordEach [] X.env))) := by rfl) : PE X (.Call (.Attribute o m apos) [] [] pos) (tMG X.prog X.w X.K X.mg X.base k m ta) := by
  constructor
  intro pins s σ H Q I h
  refine PySem.W.methodCall_KW (pl := pl) (thn (he.run pins s σ H _ I h) ?_) ht
  rintro u s1 ⟨x, H1, I1, rx, a, C, dx, fs, sp, ex, ea, l, ⟨c, f, fd, ps, F, b, M⟩, q⟩
  subst ex
  cases (show u = Value.ref a from rx)
  refine getmeth_ok I1 ea c M l ?_
  exact PySem.W.callWith_K0 (first := [.ref a]) I1.kIn M.kp (run_fn (vs := [.ref a]) F (hr.mono hk) b .nil pass0 I1 (.cons rfl .nil) q)
theorem op_ownG (hr : Room j X.A) (hk : k ≤ j) : OpR X (compareOp .Eq) (rOwnG X.prog X.w X.K X.mg X.base k "__eq__") := by
  intro pins s σ H x y v u Q I rx ry h
  obtain ⟨a, C, dx, fs, sp, ex, ha, ⟨c, f, fd, ps, F, b, M⟩, hy, q⟩ := h
  subst ex
  cases (show v = Value.ref a from rx)
  obtain ⟨mA, O, _⟩ := ins_get I.hok ha
  obtain ⟨od, J, _⟩ := O.look
  obtain ⟨mm, hF⟩ := I.fr
  have go : ∀ tb, PySem.W.Looks (model X.prog X.w) s.heap (typeOf u) tb → PySem.W.notFirst X.K C tb = true → wpAny (model X.prog X.w) X.A (compareOp .Eq (.ref a) u) (EP X pins σ Q) X.xe s := by
    intro tb hb hn
    show wpAny _ X.A (richCompare .Eq (.ref a) u) _ _ s
    refine PySem.W.cmp_K (op := .Eq) hr.units0 hF I.ok.mod.kin J hb hn M.at_ M.fn ?_
    refine wpAny_mono (run_fn (us := [.ref a, u]) (vs := [.ref a, y]) F (hr.mono hk) b .nil pass0 I (.cons rfl (.cons ry .nil)) q) ?_ fun _ _ z => z
    rintro r s' ⟨z, H', I', rz, qz⟩
    exact SlX.cmpback rz ⟨z, H', I', rz, qz⟩
  rcases hy with ⟨b', D, dy, gs, ey, hb, hn⟩ | ⟨z, ey, hn⟩
  · subst ey
    cases (show u = Value.ref b' from ry)
    obtain ⟨mB, O', _⟩ := ins_get I.hok hb
    obtain ⟨od', J', _⟩ := O'.look
    exact go _ J'.type hn
  · subst ey
    obtain ⟨t, e⟩ := (show ∃ t, u = Value.str z t from ry)
    cases e
    exact go (.type "str") .now hn
end
/-! ### an instance of a class without a maker of its own -/
section
variable {X : Cx} {x : Str} {C : Addr} {p pos : Pos}
/-- C() where no __init__ stands but object's -/
def tMk0 (C : Addr) : TE := fun _ H Q => ∀ y dx, H y = none → H dx = none → dx ≠ y → Q (.ref y) (upd (upd H dx (.own y)) y (.ins C dx []))
theorem pe_mk0 (hm : PySem.W.makesIn X.K C = true) (hi : PySem.W.findIn X.K (.ref C) "__init__" = some (some (.builtin "object.__init__"))) (kp : PySem.W.keepIn X.K (.ref C) = true) (g : X.mg x = some (.ref C)) (hg : Gl X x := by rfl)
    (hd : (x == ("__debug__" : Str)) = false := by decide) : PE X (.Call (.Name x p) [] [] pos) (tMk0 C) := by
  constructor
  intro pins s σ H Q I h
  refine wpAny_Call_Name_kw (ld_glob I hg g ?_ hd)
  refine PySem.W.callWith_K0 I.kIn kp ?_
  have I2 := Inv.made (C := C) I
  have q := h (s.heap.objs.size + 1) s.heap.objs.size (I.hok.fresh (Nat.le_succ _)) (I.hok.fresh (Nat.le_refl _)) (Nat.ne_of_lt (Nat.lt_succ_self _))
  have Y := PySem.W.makes_of (M := model X.prog X.w) I.kIn hm
  refine wpAny_call (make_map0 I.kIn hm hi (fun self => PySem.W.Looks.of_pure (PySem.W.oi_bind self)) ?_)
  have e2 : ((s.heap.push PySem.W.emptyDict).push (PySem.W.instObj C s.heap.objs.size)).get? (s.heap.objs.size + 1) = some (PySem.W.instObj C s.heap.objs.size) := by
    have z := Heap.get?_push_size (s.heap.push PySem.W.emptyDict) (o := PySem.W.instObj C s.heap.objs.size) rfl
    rwa [Heap.size_push] at z
  have t1 : PySem.W.Looks (model X.prog X.w) ((s.heap.push PySem.W.emptyDict).push (PySem.W.instObj C s.heap.objs.size)) (typeOf (.ref (s.heap.objs.size + 1))) (.ref C) := (PySem.W.Looks.ld e2).andThen .now
  have t2 : PySem.W.Looks (model X.prog X.w) ((s.heap.push PySem.W.emptyDict).push (PySem.W.instObj C s.heap.objs.size)) (isInstance (.ref (s.heap.objs.size + 1)) (.type "object")) true :=
    t1.andThen (Y.top.keeps fun b o e => Heap.get?_push_of_some _ (Heap.get?_push_of_some _ e))
  refine codeAny_call_builtin PySem.W.oi_plain PySem.W.entry_oi (@PySem.W.check_slot (model X.prog X.w) _ _ _ "object.__init__" "object" "__init__" (.ref (s.heap.objs.size + 1)) [] [] _ PySem.W.oi_kind PySem.W.oi_split t2 (PySem.W.oi_args _) ?_)
  rw [PySem.W.oi_run]
  exact wpAny_pure (And.intro rfl ⟨V.ref _, _, I2, rfl, q⟩)
end
/-! ### a def of the text keeps its promise -/
section
variable {P : Program} {w : World} {K : PySem.W.Frag} {mg : Str → Option Value} {base : Heap} {x qual : Str} {a : Arguments} {b : List Stmt} {sc : Scope} {dv : List V} {f : Addr} {fd : FuncData} {N ps : List Str} {k : Nat} {sp : Sp}
theorem fnok (F : FunD K x qual a b sc dv [] f fd) (S : FnScope N ps sc) (len : ∀ vs H Q E, sp vs H Q E → vs.length = ps.length)
    (body : ∀ (cdv : Value) (A : Around) (outer : List Env) (s : Shared) (H : Hp) (vs : List V) (Q : VK) (E : XK), Room k (A.deeper (envOfC qual sc s.heap.objs.size f cdv)) → sp vs H Q E →
      ∃ t, PSs (cxOf CX0 P w K mg base N qual sc f cdv A outer s H E).nox b t ∧ t { nx := fun _ H' => Q .non H', rt := Q } (start N vs) H) : FnOk P w K mg base CX0 (k + 1) f fd ps sp :=
  F.ok S len fun cdv A outer s H vs Q E hr h => let ⟨t, d, q⟩ := body cdv A outer s H vs Q E hr h; ⟨t, d.nox, q⟩
end
/-! ### heaps: all but p is kept -/
def Kp (p : Addr) (H H' : Hp) : Prop := ∀ a o, a ≠ p → H a = some o → H' a = some o
theorem Kp.refl {p : Addr} {H : Hp} : Kp p H H := fun _ _ _ h => h
theorem Kp.trans {p : Addr} {H H1 H2 : Hp} (a : Kp p H H1) (b : Kp p H1 H2) : Kp p H H2 := fun c o n h => b c o n (a c o n h)
theorem Kp.at {p : Addr} {H H' : Hp} {o : HO} (a : Kp p H H') : Kp p H (upd H' p o) := fun c u n h => by rw [upd_ne n]; exact a c u n h
theorem Kp.new {p q : Addr} {H H' : Hp} {o : HO} (a : Kp p H H') (h : H' q = none) : Kp p H (upd H' q o) := fun c u n e => by
  rw [upd_ne (ne_of_none (a c u n e) h)]; exact a c u n e
theorem Kp.rd {p a : Addr} {H H' : Hp} {u : HO} (k : Kp p H H') (n : a ≠ p) (h : Rd H a u) : Rd H' a u := h.elim (fun h => .inl (k _ _ n h)) fun ⟨o, h⟩ => .inr ⟨o, k _ _ n h⟩
theorem Kp.sl {K : PySem.W.Frag} {p a : Addr} {H H' : Hp} {xs : List V} (k : Kp p H H') (n : a ≠ p) (h : SqL K H a xs) : SqL K H' a xs := h.elim (fun h => .inl (k.rd n h)) .inr
theorem Kp.st {K : PySem.W.Frag} {p a : Addr} {H H' : Hp} {xs : List V} (k : Kp p H H') (n : a ≠ p) (h : SqT K H a xs) : SqT K H' a xs := h.elim (fun h => .inl (k.rd n h)) .inr
theorem sz1 {n : Nat} (h : n ≤ 100000) : n ≤ sizeLine := Nat.le_trans h (by decide)
theorem sz2 {n : Nat} (h : n ≤ 100000) : n < sizeLine := Nat.lt_of_le_of_lt h (by decide)
theorem log_of {i : Int} (h : i.natAbs < 2 ^ 1000) : i.natAbs.log2 < 1920 := Nat.lt_of_lt_of_le (PySem.Flt.log2_lt_of (by decide) h) (by decide)
/-! ### texts -/
theorem app_len (a b : Str) : (a ++ b).length = a.length + b.length := by
  show (a.cps ++ b.cps).size = a.cps.size + b.cps.size
  exact Array.size_append
theorem emp_app (a : Str) : Str.empty ++ a = a := by
  show (⟨#[] ++ a.cps⟩ : Str) = a
  rw [Array.empty_append]
theorem app_assoc (a b c : Str) : a ++ b ++ c = a ++ (b ++ c) := by
  show (⟨a.cps ++ b.cps ++ c.cps⟩ : Str) = ⟨a.cps ++ (b.cps ++ c.cps)⟩
  rw [Array.append_assoc]
/-! ### tests -/
theorem tT {c A B : Prop} [Decidable c] (h : c) (a : A) : if decide c = true then A else B := by
  rw [decide_eq_true h]; exact iteT a
theorem tF {c A B : Prop} [Decidable c] (h : ¬ c) (b : B) : if decide c = true then A else B := by
  rw [decide_eq_false h]; exact iteF b
theorem uT {c A B : Prop} [Decidable c] (h : ¬ c) (a : A) : if (!decide c) = true then A else B := by
  rw [decide_eq_false h]; exact iteT a
theorem uF {c A B : Prop} [Decidable c] (h : c) (b : B) : if (!decide c) = true then A else B := by
  rw [decide_eq_true h]; exact iteF b
theorem bT {b : Bool} {A B : Prop} (h : b = true) (a : A) : if b = true then A else B := by rw [h]; exact iteT a
theorem bF {b : Bool} {A B : Prop} (h : b = false) (a : B) : if b = true then A else B := by rw [h]; exact iteF a
theorem dC {c A B : Prop} [Decidable c] (hT : c → A) (hF : ¬ c → B) : if decide c = true then A else B := by
  by_cases h : c
  · exact tT h (hT h)
  · exact tF h (hF h)
theorem uC {c A B : Prop} [Decidable c] (hT : ¬ c → A) (hF : c → B) : if (!decide c) = true then A else B := by
  by_cases h : c
  · exact uF h (hF h)
  · exact uT h (hT h)
theorem bC {b : Bool} {A B : Prop} (hT : b = true → A) (hF : b = false → B) : if b = true then A else B := by
  cases h : b
  · exact iteF (hF h)
  · exact iteT (hT h)
/-! ### attributes -/
theorem fl1 {f : Str} {v : V} {fs : List (Str × V)} : (putF f v fs).lookup f = some v := by rw [lookup_putF, if_pos rfl]
theorem fl2 {f g : Str} {v : V} {fs : List (Str × V)} {o : Option V} (h : ¬ g = f) (e : fs.lookup g = o) : (putF f v fs).lookup g = o := by rw [lookup_putF, if_neg h, e]
theorem fn0 : ([] : List (Str × V)).length < 1000 := by decide
theorem fnS {f : Str} {v : V} {fs : List (Str × V)} (h : fs.length < 900) : (putF f v fs).length < 1000 := by
  have := length_putF f v fs; omega
theorem fs0 : ([] : List (Str × V)).length < 900 := by decide
theorem fs1 {f : Str} {v : V} {fs : List (Str × V)} (h : fs.length < 800) : (putF f v fs).length < 900 := by
  have := length_putF f v fs; omega
end Cm
namespace Cm
open PySem PySem.Spec PyProof.Rows L2
/-! ### operators, in, len of an instance by its own defs -/
section
open PySem.W
variable {prog : Program} {w : World} {A : Around} {E : Value → Shared → Prop} {s : Shared} {K : PySem.W.Frag} {x y C f : Addr} {ox oy : Obj} {od od' : Option Obj}
theorem bin_same {op : Operator} {Q : Value → Shared → Prop} (X : K.In s.heap) (I : InstAt s.heap x ox C od) (J : InstAt s.heap y oy C od') (hc : selfFirst K C = true)
    (hs : findIn K (.ref C) (PySem.dunder op.info.2) = some (some (.ref f))) (hf : isFn K (.ref f) = true) (h : wpAny (model prog w) A (call (.ref f) [.ref x, .ref y]) (PySem.W.CmpBack Q) E s) :
    wpAny (model prog w) A (binaryOp op (.ref x) (.ref y)) Q E s := by
  obtain ⟨cd, rest, hcd, hm⟩ := ksp_first hc
  rcases hi : op.info with ⟨sym, nm'⟩
  rw [hi] at hs
  dsimp only at hs
  have one := ksp_try X I hs hf h
  obtain ⟨hh, g, d, tt, os⟩ := s
  have L1 : Looks (model prog w) hh (typeOf (.ref x)) (.ref C) := I.type
  have L2 : Looks (model prog w) hh (typeOf (.ref y)) (.ref C) := J.type
  have L3 : Looks (model prog w) hh (fillsNumberSlot (.ref C) nm') true := fills_K X hcd hm hs
  have e1 : (Value.ref C == Value.ref C) = true := beq_self_eq_true _
  simp only [binaryOp, hi]
  refine wpAny_holding (wpAny_bind ?_)
  unfold binaryOp1
  refine wpAny_bind (L1.at (wpAny_bind (L2.at (wpAny_bind (L3.at ?_)))))
  simp only [e1, if_true]
  ksp_lk
  refine wpAny_mono one (fun r s' hr' => ?_) fun _ _ e => e
  obtain ⟨v, rfl, hq⟩ := hr'
  ksp_lk
  exact hq
theorem own_in {v : Value} {Q : Bool → Shared → Prop} (X : K.In s.heap) (I : InstAt s.heap x ox C od) (hs : findIn K (.ref C) "__contains__" = some (some (.ref f))) (hf : isFn K (.ref f) = true)
    (h : wpAny (model prog w) A (call (.ref f) [.ref x, v]) (fun r s' => ∃ b, r = .bool b ∧ Q b s') E s) : wpAny (model prog w) A (contains (.ref x) v) Q E s := by
  have hf2 := beq_iff_eq.mp hf
  unfold contains
  refine wpAny_holding ?_
  show wpAny _ _ (specialOf (.ref x) "__contains__" >>= _) _ _ _
  refine wpAny_bind ?_
  refine wpAny_bind (I.type.here ((looks_findIn X hs).here ?_))
  refine KFB.if_not rfl ?_
  refine wpAny_bind ?_
  unfold callSpecialUnlessNone?
  refine wpAny_bind ?_
  refine wpAny_bind (I.type.here ((looks_findIn X hs).here ?_))
  refine wpAny_holding (wpAny_bind ((bind_fn X _ hf2).here ?_))
  refine KFB.if_not rfl ?_
  refine wpAny_bind (wpAny_mono h (fun r s' z => ?_) fun _ _ e => e)
  obtain ⟨b, rfl, q⟩ := z
  exact wpAny_pure (wpAny_pure q)
end
/-! ### the same over the layer -/
section
variable {X : Cx} {j k : Nat} {m : Str}
def rOwnBin (P : Program) (w : World) (K : PySem.W.Frag) (mg : Str → Option Value) (base : Heap) (k : Nat) (m : Str) : R2 := fun x y H Q =>
  ∃ a b C dx dy fs gs sp, x = .ref a ∧ y = .ref b ∧ H a = some (.ins C dx fs) ∧ H b = some (.ins C dy gs) ∧ PySem.W.selfFirst K C = true ∧ MCal P w K mg base k C m sp ∧ sp [x, y] H Q E0
theorem op_ownBin {op : Operator} (hm : m = PySem.dunder op.info.2) (hr : Room j X.A) (hk : k ≤ j) : OpR X (binaryOp op) (rOwnBin X.prog X.w X.K X.mg X.base k m) := by
  intro pins s σ H x y v u Q I rx ry h
  obtain ⟨a, b', C, dx, dy, fs, gs, sp, ex, ey, ha, hb, hc, ⟨c, f, fd, ps, F, b, M⟩, q⟩ := h
  subst ex ey hm
  cases (show v = Value.ref a from rx)
  cases (show u = Value.ref b' from ry)
  obtain ⟨mA, O, _⟩ := ins_get I.hok ha
  obtain ⟨od, J, _⟩ := O.look
  obtain ⟨mB, O', _⟩ := ins_get I.hok hb
  obtain ⟨od', J', _⟩ := O'.look
  refine bin_same I.kIn J J' hc M.at_ M.fn ?_
  refine wpAny_mono (run_fn (us := [.ref a, .ref b']) (vs := [.ref a, .ref b']) F (hr.mono hk) b .nil pass0 I (.cons rfl (.cons rfl .nil)) q) ?_ fun _ _ z => z
  rintro r s' ⟨z, H', I', rz, qz⟩
  exact SlX.cmpback rz ⟨z, H', I', rz, qz⟩
def rOwnIn (P : Program) (w : World) (K : PySem.W.Frag) (mg : Str → Option Value) (base : Heap) (k : Nat) (neg : Bool) : R2 := fun x y H Q =>
  ∃ a C dx fs sp, y = .ref a ∧ H a = some (.ins C dx fs) ∧ MCal P w K mg base k C "__contains__" sp ∧ sp [y, x] H (fun z H' => ∃ b, z = .bl b ∧ Q (.bl (if neg then !b else b)) H') E0
theorem op_ownIn (hr : Room j X.A) (hk : k ≤ j) : OpR X (compareOp .In) (rOwnIn X.prog X.w X.K X.mg X.base k false) := by
  intro pins s σ H x y v u Q I rx ry h
  obtain ⟨a, C, dx, fs, sp, ey, ha, ⟨c, f, fd, ps, F, b, M⟩, q⟩ := h
  subst ey
  cases (show u = Value.ref a from ry)
  obtain ⟨mA, O, _⟩ := ins_get I.hok ha
  obtain ⟨od, J, _⟩ := O.look
  refine wpAny_bind (own_in I.kIn J M.at_ M.fn ?_)
  refine wpAny_mono (run_fn (us := [.ref a, v]) (vs := [.ref a, x]) F (hr.mono hk) b .nil pass0 I (.cons rfl (.cons rx .nil)) q) ?_ fun _ _ z => z
  rintro r s' ⟨z, H', I', rz, b, ez, qz⟩
  subst ez
  cases (show r = Value.bool b from rz)
  exact ⟨b, rfl, wpAny_pure ⟨.bl b, H', I', rfl, qz⟩⟩
theorem op_ownNotIn (hr : Room j X.A) (hk : k ≤ j) : OpR X (compareOp .NotIn) (rOwnIn X.prog X.w X.K X.mg X.base k true) := by
  intro pins s σ H x y v u Q I rx ry h
  obtain ⟨a, C, dx, fs, sp, ey, ha, ⟨c, f, fd, ps, F, b, M⟩, q⟩ := h
  subst ey
  cases (show u = Value.ref a from ry)
  obtain ⟨mA, O, _⟩ := ins_get I.hok ha
  obtain ⟨od, J, _⟩ := O.look
  refine wpAny_bind (own_in I.kIn J M.at_ M.fn ?_)
  refine wpAny_mono (run_fn (us := [.ref a, v]) (vs := [.ref a, x]) F (hr.mono hk) b .nil pass0 I (.cons rfl (.cons rx .nil)) q) ?_ fun _ _ z => z
  rintro r s' ⟨z, H', I', rz, b, ez, qz⟩
  subst ez
  cases (show r = Value.bool b from rz)
  exact ⟨b, rfl, wpAny_pure ⟨.bl (!b), H', I', rfl, qz⟩⟩
end
/-! ### len(x) by an own __len__ -/
section
variable {X : Cx} {j k : Nat}
theorem run_in {A' : Around} {pins : List (Addr × Obj)} {σ : L2.St} {H : Hp} {s : Shared} {Q : VK} {f : Addr} {fd : FuncData} {ps : List Str} {sp : Sp} {us : List Value} {vs : List V} (F : FnOk X.prog X.w X.K X.mg X.base CX0 k f fd ps sp) (hr : Room k A')
    (e0 : Env0 X.prog X.w X.K X.mg X.base A' X.stack s H) (hb : Binds X.K fd ps []) (I : Inv X pins σ H s) (r : Vals vs us) (h : sp vs H Q E0) : wpAny (model X.prog X.w) A' (call (.ref f) us) (EP X pins σ Q) X.xe s := by
  have hl : (us ++ []).length = ps.length := by rw [List.append_nil, ← r.length]; exact F.len _ _ _ _ h
  have b2 := hb s us I.kIn hl
  rw [List.append_nil] at b2
  refine wpAny_call (codeAny_mono (F.run A' X.stack s H ⟨us, []⟩ us vs Q E0 hr e0 b2 r h) fun r s2 z => ?_)
  match r, z with
  | .error e, z => exact (pass0 (X := X)) pins σ H s e s2 I z
  | .ok (.ret u), z => exact I.after z
  | .ok .next, z => exact (show False from z).elim
  | .ok .brk, z => exact (show False from z).elim
  | .ok .cont, z => exact (show False from z).elim
theorem call_ownLen (hr : Room j X.A) (hk : k + 1 ≤ j) : CallR X (.builtin "len") (fun xs H Q => ∃ a C dx fs sp, xs = [.ref a] ∧ H a = some (.ins C dx fs) ∧ MCal X.prog X.w X.K X.mg X.base k C "__len__" sp ∧ sp [.ref a] H (fun z H' => ∃ i : Int, z = .int i ∧ 0 ≤ i ∧ i < 2 ^ 63 ∧ Q (.int i) H') E0) := by
  intro pins s σ H xs us Q I r h
  obtain ⟨a, C, dx, fs, sp, rfl, ha, ⟨c, f, fd, ps, F, b, M⟩, q⟩ := h
  obtain ⟨u, rfl, e⟩ := vals1 r
  cases (show u = Value.ref a from e)
  obtain ⟨mA, O, _⟩ := ins_get I.hok ha
  obtain ⟨od, J, _⟩ := O.look
  refine PySem.Calls.call_function_entry PySem.kind_len PySem.plain_len PySem.entry_len (PySem.args_len1 _) ?_
  unfold Builtin.«len»
  refine wpAny_bind (m := oneArg "len" _) (wpAny_pure ?_)
  refine wpAny_bind (PySem.W.special_fn I.kIn J M.at_ (beq_iff_eq.mp M.fn) ?_)
  refine wpAny_mono (run_in (us := [.ref a]) (vs := [.ref a]) F (hr.mono hk).in1 I.env0.in1 b I (.cons rfl .nil) q) ?_ fun _ _ z => z
  rintro r s2 ⟨z, H', I', rz, i, ez, i0, i1, qz⟩
  subst ez
  obtain ⟨t, rfl⟩ := (show ∃ t, r = Value.int i t from rz)
  refine wpAny_bind (wpAny_holding (wpAny_pure ?_))
  refine wpAny_bind (wpAny_letGo ?_)
  show wpAny _ _ (if i < 0 then _ else _) _ _ _
  rw [if_neg (by omega)]
  show wpAny _ _ (if i ≥ 2 ^ 63 then _ else _) _ _ _
  rw [if_neg (by omega)]
  exact wpAny_bind (wpAny_mkInt (wpAny_pure ⟨_, rfl, ⟨.int i, H', I'.tok _, ⟨_, rfl⟩, qz⟩⟩))
end
/-! ### str(x) by an own __str__ -/
section
open PySem.W PySem.Calls
variable {prog : Program} {w : World} {A : Around} {E : Value → Shared → Prop} {s : Shared} {K : PySem.W.Frag} {x C f : Addr} {ox : Obj} {od : Option Obj}
theorem strOf_own {A : Around} {Q : Value → Shared → Prop} (hu : A.units < cLine) (X : K.In s.heap) (I : InstAt s.heap x ox C od) (hs : findIn K (.ref C) "__str__" = some (some (.ref f))) (hf : isFn K (.ref f) = true)
    (h : wpAny (model prog w) A (call (.ref f) [.ref x]) (fun r s' => ∃ y u, r = .str y u ∧ Q r s') E s) : wpAny (model prog w) A (PySem.Builtin.Str.strOf (.ref x)) (fun r s' => ∃ y u, r = .str y u ∧ Q r s') E s := by
  unfold PySem.Builtin.Str.strOf
  rw [show PySem.Builtin.Str.isExactStr (.ref x) = false from rfl]
  refine wpAny_bind (m := cRoomFor _ _) (wpAny_cRoomFor hu ?_)
  refine wpAny_bind (special_fn X I hs (beq_iff_eq.mp hf) (wpAny_mono h (fun r s2 z => ?_) fun _ _ y => y))
  obtain ⟨y, u, rfl, q⟩ := z
  exact wpAny_pure ⟨y, u, rfl, q⟩
theorem str_own {Q : Value → Shared → Prop} (hu : A.in1.in1.units < cLine) (X : K.In s.heap) (I : InstAt s.heap x ox C od) (hs : findIn K (.ref C) "__str__" = some (some (.ref f))) (hf : isFn K (.ref f) = true)
    (h : wpAny (model prog w) A.in1.in1 (call (.ref f) [.ref x]) (fun r s' => ∃ y u, r = .str y u ∧ Q r s') E s) : wpAny (model prog w) A (call (.type "str") [.ref x]) Q E s := by
  have one := strOf_own (A := A.in1.in1) hu X I hs hf h
  refine callType_codes (T := "str") (Bi := PySem.Builtin.«object.__init__») (Q₁ := fun r t => ∃ y u, r = .str y u ∧ Q r t) PySem.F.called_str (PySem.F.typeCall_str_1 _) PySem.F.entry_object_init (codeAny_of_tree ?_) ?_
  · show wpAny _ A.in1.in1 (do checkBuiltinCall "str.__new__" ⟨[.type "str", .ref x], []⟩; again (.builtin "str.__new__" ⟨[.type "str", .ref x], []⟩)) _ _ s
    refine wpAny_bind (wpAny_of_eq (PySem.F.newCall_str_1 _) (wpAny_pure ⟨PySem.plainId_quiet (by decide +kernel) _, codeAny_builtin PySem.F.entry_str_new ?_⟩))
    rw [Around.under_plainId (by decide +kernel) _, PySem.str_new_tree]
    refine wpAny_bind (wpAny_pure (wpAny_bind (wpAny_of_eq PySem.isSubtype_str_str ?_)))
    exact wpAny_bind (wpAny_mono one (fun r t z => wpAny_pure z) fun _ _ y => y)
  · rintro obj t ⟨y, u, rfl, q⟩
    exact ⟨typeIs_str _ _ _, PySem.F.args_object_init_2 _ _, PySem.object_init_meets PySem.F.called_str.init.lookup PySem.F.called_str.made (by decide) prog w A.in1 _ t ⟨typeIs_str _ _ _, rfl, q⟩⟩
end
section
variable {X : Cx} {j k : Nat}
theorem call_ownStr (hr : Room j X.A) (hk : k + 2 ≤ j) : CallR X (.type "str") (fun xs H Q => ∃ a C dx fs sp, xs = [.ref a] ∧ H a = some (.ins C dx fs) ∧ MCal X.prog X.w X.K X.mg X.base k C "__str__" sp ∧ sp [.ref a] H (fun z H' => ∃ y, z = .str y ∧ Q (.str y) H') E0) := by
  intro pins s σ H xs us Q I r h
  obtain ⟨a, C, dx, fs, sp, rfl, ha, ⟨c, f, fd, ps, F, b, M⟩, q⟩ := h
  obtain ⟨u, rfl, e⟩ := vals1 r
  cases (show u = Value.ref a from e)
  obtain ⟨mA, O, _⟩ := ins_get I.hok ha
  obtain ⟨od, J, _⟩ := O.look
  have r2 : Room k X.A.in1.in1 := (show Room (k + 1) X.A.in1 from Room.in1 (hr.mono hk)).in1
  refine str_own (by have := r2.units; omega) I.kIn J M.at_ M.fn ?_
  refine wpAny_mono (run_in (us := [.ref a]) (vs := [.ref a]) F r2 I.env0.in1.in1 b I (.cons rfl .nil) q) ?_ fun _ _ z => z
  rintro r s2 ⟨z, H', I', rz, y, ez, qz⟩
  subst ez
  obtain ⟨t, rfl⟩ := (show ∃ t, r = Value.str y t from rz)
  exact ⟨y, t, rfl, .str y, H', I', ⟨t, rfl⟩, qz⟩
end
end Cm
namespace Cm
open PySem PySem.Spec PyProof.Rows
open L2 hiding Same
/-! ### iter(t) as a value; list(x) of an own __iter__ that answers it -/
def ItT (t it : Addr) (i : Nat) : HO := .ext fun h => h.IsTupleIter it t i
def ItD (it : Addr) : HO := .ext fun h => ∃ o, h.get? it = some o
section
variable {P : Program} {w : World} {H : Hp} {h : Heap} {t it : Addr} {i : Nat}
theorem itT_ok (e : h.IsTupleIter it t i) : ObjOk P w H h it (ItT t it i) :=
  ⟨e, let ⟨o, ho, _⟩ := e; ⟨o, ho⟩, fun h1 h2 q k => Heap.IsTupleIter.at q fun o e => k o e⟩
theorem itD_ok (e : ∃ o, h.get? it = some o) : ObjOk P w H h it (ItD it) := ⟨e, e, fun h1 h2 ⟨o, q⟩ k => ⟨o, k o q⟩⟩
end
section
variable {X : Cx} {pins : List (Addr × Obj)} {σ : L2.St} {H : Hp} {s : Shared} {t it q a : Addr} {i : Nat} {zs : List V}
theorem itT_get (I : Inv X pins σ H s) (e : H it = some (ItT t it i)) : s.heap.IsTupleIter it t i := (I.hok it _ e).1
def rIterT (K : PySem.W.Frag) : List V → Hp → VK → Prop := fun xs H Q => ∃ t zs, xs = [V.ref t] ∧ SqT K H t zs ∧ ∀ it, H it = none → Q (.ref it) (upd H it (ItT t it 0))
theorem call_iterT : CallR X (.builtin "iter") (rIterT X.K) := by
  intro pins s σ H xs us Q I r h
  obtain ⟨t, zs, rfl, hq, q⟩ := h
  obtain ⟨u, rfl, ru⟩ := vals1 r
  cases (show u = Value.ref t from ru)
  obtain ⟨its, rv, pl, hz⟩ := I.tuple hq
  refine Calls.call_function_entry (by decide +kernel) (by decide +kernel) PySem.W.kdk_entry_iter (PySem.W.kdk_args_iter _) ?_
  unfold Builtin.«iter»
  refine wpAny_bind (m := someArgs "iter" 1 2 _) (wpAny_of_eq (a := [Value.ref t]) (by first | rfl | kernel_rfl!) ?_)
  show wpAny _ _ (pyIter (.ref t) >>= _) _ _ _
  refine wpAny_bind (wpAny_pyIter_tuple pl ?_)
  exact wpAny_pure ⟨_, rfl, ⟨.ref s.heap.objs.size, _, I.laid (t' := s.toks) (fun b u e => Heap.get?_push_of_some _ e) (Nat.le_refl _) (itT_ok ⟨_, Heap.get?_push_size _ rfl, rfl, rfl⟩), rfl, q _ (I.hok.fresh (Nat.le_refl _))⟩⟩
theorem next_end {prog : Program} {w : World} {A : Around} {E : Value → Shared → Prop} {items} {Q : Option Value → Shared → Prop} (hh : A.handled = none)
    (hit : s.heap.IsTupleIter it t i) (ht : s.heap.IsTuple t items) (hx : items[i]? = none)
    (hQ : ∀ h', Heap.ExtBut it s.heap h' → (∃ o, h'.get? it = some o) → Q none { s with heap := h' }) : wpAny (model prog w) A (pyNext (.ref it)) Q E s := by
  obtain ⟨o, ho, hc, hd⟩ := id hit
  obtain ⟨ol, hol, _, nl, hdl⟩ := ht
  unfold pyNext
  refine wpAny_bind (wpAny_attempt (wpAny_callSpecial?_slot (name := Str.ofString "__next__") hit.typeIs F.slot_tuple_iterator_next
    (wpAny_call_entry F.slot_tuple_iterator_next hit.typeIs F.entry_tuple_iterator_next ?_ (F.args_tuple_iterator_next_1 _))))
  show wpAny _ _ (field (.ref it) 0 >>= _) _ _ s
  refine wpAny_bind (wpAny_field ho hd (x := .ref t) rfl ?_)
  show wpAny _ _ (if (Value.ref t == Value.none) = true then _ else _) _ _ s
  rw [if_neg (show ¬ ((Value.ref t == Value.none) = true) from Bool.false_ne_true)]
  show wpAny _ _ (field (.ref it) 1 >>= _) _ _ s
  refine wpAny_bind (wpAny_field ho hd (x := .int i 0) rfl ?_)
  show wpAny _ _ (seqItems? (.ref t) >>= _) _ _ s
  refine wpAny_bind (wpAny_seqItems hol hdl ?_)
  simp only [Int.toNat_natCast, hx]
  refine wpAny_bind (wpAny_rule (wpAny_bind (wpAny_setField ho hd (by simp) ?_)))
  show wpAny _ _ (newExc (.type "StopIteration") [] >>= _) _ _ _
  refine wpAny_bind ?_
  simp only [newExc, newTuple]
  refine wpAny_bind (wpAny_newObj_type ?_ (by size_fits))
  refine wpAny_bind (m := firstArgMember _ _) (wpAny_of_eq (a := Value.none) (by first | rfl | (simp only [firstArgMember]; rfl)) ?_)
  refine wpAny_newObj_type ?_ (by size_fits)
  simp only [raiseNew]
  refine wpAny_bind (wpAny_handled ?_)
  first | rw [show A.in1.handled = none from hh] | rw [hh]
  refine wpAny_bind (wpAny_pure (wpAny_throw ?_))
  refine wpAny_bind (wpAny_isInstance (T := "StopIteration") (b := true) ⟨_, Heap.get?_push_size _ rfl, rfl⟩ isSubtype_stop ?_)
  exact wpAny_pure (hQ _ (((Heap.SameBut.update ..).extBut.push _).push _) ⟨_, Heap.get?_push_of_some _ (Heap.get?_push_of_some _ (Heap.get?_update_self _ ho (Obj.isFreed_of_fields (Obj.data_mapFields hd _))))⟩)
theorem upd_two {H : Hp} {it q : Addr} {a b c d : HO} (n : it ≠ q) : upd (upd (upd (upd H it a) q b) q c) it d = upd (upd H q c) it d := by
  funext x
  by_cases h1 : x = it
  · rw [h1, upd_same, upd_same]
  · by_cases h2 : x = q
    · rw [h2, upd_ne (Ne.symm n), upd_same, upd_ne (Ne.symm n), upd_same]
    · rw [upd_ne h1, upd_ne h2, upd_ne h2, upd_ne h1, upd_ne h1, upd_ne h2]
theorem tup_ne (I : Inv X pins σ H s) (h : SqT X.K H t zs) (e : H it = some (ItT t it i)) : t ≠ it := by
  obtain ⟨its, rv, ⟨o, ho, hc, _⟩, _⟩ := I.tuple h
  obtain ⟨o2, ho2, hc2, _⟩ := itT_get I e
  intro z
  rw [z, ho2] at ho
  cases ho
  rw [hc2] at hc
  exact absurd (Value.type.inj hc) (by decide)
theorem tup_neL {xs : List V} (I : Inv X pins σ H s) (h : SqT X.K H t zs) (e : H q = some (.lst xs)) : t ≠ q := by
  obtain ⟨its, rv, ⟨o, ho, hc, _⟩, _⟩ := I.tuple h
  obtain ⟨_, its2, n, _, _, ho2⟩ := I.lstM e
  intro z
  rw [z, ho2] at ho
  cases ho
  exact absurd (Value.type.inj hc) (by decide)
theorem tupit_loop {A1 : Around} {Rs : Result → Shared → Prop} (hh : A1.in1.handled = none) : ∀ (k i : Nat) (H : Hp) (s : Shared), zs.length - i = k → i ≤ zs.length → Inv X pins σ H s → H q = some (.lst (zs.take i)) → H it = some (ItT t it i) → SqT X.K H t zs → it ≠ q →
    (∀ s', Inv X pins σ (upd (upd H q (.lst zs)) it (ItD it)) s' → Rs (.ok (.ret .none)) s') → codeAny (model X.prog X.w) A1 (.builtin "list.extend.loop" ⟨[.ref q, .ref it, .none], []⟩) Rs s := by
  intro k
  induction k with
  | zero =>
    intro i H s hk hi I hq hit ht hne hd
    have ei : i = zs.length := by omega
    subst ei
    refine codeAny_builtin PySem.F.entry_extend_loop ?_
    rw [Around.under_plainId PySem.F.plain_extend_loop _]
    show wpAny _ A1.in1 (pyNext (.ref it) >>= _) _ _ s
    obtain ⟨its, rv, pl, hz⟩ := I.tuple ht
    refine wpAny_bind (next_end hh (itT_get I hit) pl (by rw [List.getElem?_toArray]; exact rv.none_of (List.getElem?_eq_none (Nat.le_refl _))) fun h' eb ho => ?_)
    have J := I.write (t' := s.toks) (x := it) (e := it) (o := ItD it) (h' := h') (by rw [hit]; exact True.intro) (.inl rfl) (fun b o hb e => eb b o hb e) ho (itD_ok ho)
    refine wpAny_pure (hd _ ?_)
    have e1 : upd H q (.lst zs) = H := by
      funext x
      by_cases hx : x = q
      · rw [hx, upd_same, hq, List.take_length]
      · rw [upd_ne hx]
    rw [e1]
    exact J
  | succ k ih =>
    intro i H s hk hi I hq hit ht hne hd
    have hi2 : i < zs.length := by omega
    refine codeAny_builtin PySem.F.entry_extend_loop ?_
    rw [Around.under_plainId PySem.F.plain_extend_loop _]
    show wpAny _ A1.in1 (pyNext (.ref it) >>= _) _ _ s
    obtain ⟨its, rv, pl, hz⟩ := I.tuple ht
    have tne := tup_ne I ht hit
    have tnq := tup_neL I ht hq
    obtain ⟨u, hu, ru⟩ := rv.get (List.getElem?_eq_getElem hi2)
    refine wpAny_bind (wpAny_pyNext_tuple_item (itT_get I hit) pl (x := u) (by rw [List.getElem?_toArray]; exact hu) fun h' st' sb => ?_)
    have J := I.write (t' := s.toks) (x := it) (e := it) (o := ItT t it (i + 1)) (h' := h') (by rw [hit]; exact True.intro) (.inl rfl) (fun b o hb e => (sb.2 b hb).trans e) (let ⟨o, ho, _⟩ := st'; ⟨o, ho⟩) (itT_ok st')
    have hq2 : upd H it (ItT t it (i + 1)) q = some (.lst (zs.take i)) := by rw [upd_ne (Ne.symm hne)]; exact hq
    show wpAny _ A1.in1 (updateSeq q (·.push u) >>= _) _ _ _
    obtain ⟨z, its2, n, r2, hl, e⟩ := J.lstM hq2
    have hzl : zs.length ≤ sizeLine := by
      have := rv.length
      omega
    refine wpAny_bind (wpAny_updateSeq e rfl (wpAny_pure ⟨plainId_quiet PySem.F.plain_extend_loop _, ?_⟩) (by rw [List.size_toArray]; omega) (by show (its2.toArray.push u).size ≤ sizeLine + 1; rw [Array.size_push, List.size_toArray]; omega))
    have hlt : (zs.take i ++ [zs[i]]).length ≤ sizeLine := by
      rw [List.length_append, List.length_take, List.length_singleton]; omega
    have J2 := J.lset (f := (·.push u)) (its' := its2 ++ [u]) (t' := s.toks) (ys := zs.take i ++ [zs[i]]) hq2 e (by simp) (r2.append (.cons ru .nil)) hlt
    have et : zs.take i ++ [zs[i]] = zs.take (i + 1) := by rw [List.take_succ, List.getElem?_eq_getElem hi2]; rfl
    rw [et] at J2
    have st2 : SqT X.K (upd (upd H it (ItT t it (i + 1))) q (.lst (zs.take (i + 1)))) t zs := by
      have k1 : Kp it H (upd H it (ItT t it (i + 1))) := Kp.refl.at
      have k2 : Kp q (upd H it (ItT t it (i + 1))) (upd (upd H it (ItT t it (i + 1))) q (.lst (zs.take (i + 1)))) := Kp.refl.at
      exact k2.st tnq (k1.st tne ht)
    refine ih (i + 1) _ _ (by omega) (by omega) J2 upd_same (by rw [upd_ne hne, upd_same]) st2 hne fun s' I' => hd s' ?_
    rw [upd_two hne] at I'
    exact I'
end
section
variable {X : Cx} {pins : List (Addr × Obj)} {σ : L2.St} {H : Hp} {s : Shared} {a C dx : Addr} {k : Nat} {fs : List (Str × V)}
theorem run_inE {A' : Around} {Q : VK} {E : Value → Shared → Prop} {f : Addr} {fd : FuncData} {ps : List Str} {sp : Sp} {us : List Value} {vs : List V} (F : FnOk X.prog X.w X.K X.mg X.base CX0 k f fd ps sp) (hr : Room k A')
    (e0 : Env0 X.prog X.w X.K X.mg X.base A' X.stack s H) (hb : Binds X.K fd ps []) (I : Inv X pins σ H s) (r : Vals vs us) (h : sp vs H Q E0) : wpAny (model X.prog X.w) A' (call (.ref f) us) (EP X pins σ Q) E s := by
  have hl : (us ++ []).length = ps.length := by rw [List.append_nil, ← r.length]; exact F.len _ _ _ _ h
  have b2 := hb s us I.kIn hl
  rw [List.append_nil] at b2
  refine wpAny_call (codeAny_mono (F.run A' X.stack s H ⟨us, []⟩ us vs Q E0 hr e0 b2 r h) fun r s2 z => ?_)
  match r, z with
  | .error e, z => exact (show False from z).elim
  | .ok (.ret u), z => exact I.after z
  | .ok .next, z => exact (show False from z).elim
  | .ok .brk, z => exact (show False from z).elim
  | .ok .cont, z => exact (show False from z).elim
/-- len(x) by an own __len__, under another around -/
theorem len_in {A' : Around} {sp : Sp} {E : Value → Shared → Prop} (hr : Room k A'.in1) (fr : A'.frames = X.A.frames) (I : Inv X pins σ H s) (ha : H a = some (.ins C dx fs)) (M : MCal X.prog X.w X.K X.mg X.base k C "__len__" sp)
    (q : sp [.ref a] H (fun z H2 => H2 = H ∧ ∃ n : Nat, z = .int n ∧ n ≤ 1000) E0) {Q : Value → Shared → Prop} (h : ∀ (n : Nat) t s', n ≤ 1000 → Inv X pins σ H s' → Q (.int n t) s') :
    wpAny (model X.prog X.w) A' (call (.builtin "len") [.ref a]) Q E s := by
  obtain ⟨c, f, fd, ps, F, b, M⟩ := M
  obtain ⟨mA, O, _⟩ := ins_get I.hok ha
  obtain ⟨od, J, _⟩ := O.look
  have e0 : Env0 X.prog X.w X.K X.mg X.base A'.in1 X.stack s H := by
    have e := I.env0
    exact ⟨fr.trans e.frames, e.mod, e.bs, e.bsz, e.funs, e.frf, e.hok, e.bare⟩
  refine PySem.Calls.call_function_entry PySem.kind_len PySem.plain_len PySem.entry_len (PySem.args_len1 _) ?_
  unfold Builtin.«len»
  refine wpAny_bind (m := oneArg "len" _) (wpAny_pure ?_)
  refine wpAny_bind (PySem.W.special_fn I.kIn J M.at_ (beq_iff_eq.mp M.fn) ?_)
  refine wpAny_mono (run_inE (us := [.ref a]) (vs := [.ref a]) F hr e0 b I (.cons rfl .nil) q) ?_ fun _ _ z => z
  rintro r s2 ⟨z, H', I', rz, eH, n, ez, hn⟩
  subst ez eH
  obtain ⟨t, rfl⟩ := (show ∃ t, r = Value.int (n : Nat) t from rz)
  refine wpAny_bind (wpAny_holding (wpAny_pure ?_))
  refine wpAny_bind (wpAny_letGo ?_)
  show wpAny _ _ (if ((n : Nat) : Int) < 0 then _ else _) _ _ _
  rw [if_neg (by omega)]
  show wpAny _ _ (if ((n : Nat) : Int) ≥ 2 ^ 63 then _ else _) _ _ _
  rw [if_neg (by omega)]
  exact wpAny_bind (wpAny_mkInt (wpAny_pure ⟨_, rfl, h n _ _ hn (I'.tok _)⟩))
theorem hint_in {A' : Around} {sp : Sp} {E : Value → Shared → Prop} (hr : Room k A'.in1) (fr : A'.frames = X.A.frames) (I : Inv X pins σ H s) (ha : H a = some (.ins C dx fs)) (M : MCal X.prog X.w X.K X.mg X.base k C "__len__" sp)
    (q : sp [.ref a] H (fun z H2 => H2 = H ∧ ∃ n : Nat, z = .int n ∧ n ≤ 1000) E0) {Q : Bool → Shared → Prop} (hQ : ∀ b s', Inv X pins σ H s' → Q b s') :
    wpAny (model X.prog X.w) A' (Builtin.List.listLengthHint (.ref a)) Q E s := by
  obtain ⟨c, f, fd, ps, F, b, Mt⟩ := id M
  obtain ⟨mA, O, _⟩ := ins_get I.hok ha
  obtain ⟨od, J, _⟩ := O.look
  unfold Builtin.List.listLengthHint
  refine wpAny_bind (wpAny_bind (J.type.here ((PySem.W.looks_findIn I.kIn Mt.at_).here ?_)))
  refine PySem.W.KFB.if_not rfl ?_
  refine PySem.W.KFB.if_so rfl ?_
  refine wpAny_bind (wpAny_rule ?_)
  refine wpAny_bind (wpAny_attempt (len_in hr fr I ha M q (fun n t s' hn I' => ?_)))
  refine wpAny_bind (wpAny_pure ?_)
  show wpAny _ _ (if Builtin.List.listTooLong ((n : Nat) : Int).toNat = true then _ else _) _ _ _
  rw [if_neg (by rw [Int.toNat_natCast, notLongL (by rw [sizeLine_eq]; omega)]; decide)]
  exact wpAny_pure (hQ _ _ I')
/-- the iterator that an own __iter__ answers -/
def rOwnT (P : Program) (w : World) (K : PySem.W.Frag) (mg : Str → Option Value) (base : Heap) (k : Nat) : List V → Hp → VK → Prop := fun xs H Q =>
  ∃ a C dx fs spI spL, xs = [V.ref a] ∧ H a = some (.ins C dx fs) ∧ MCal P w K mg base k C "__iter__" spI ∧ MCal P w K mg base k C "__len__" spL ∧
    ∀ q, H q = none → spI [.ref a] (upd H q (.lst [])) (fun v H' => ∃ it t zs, v = .ref it ∧ it ≠ q ∧ H' it = some (ItT t it 0) ∧ SqT K H' t zs ∧ H' q = some (.lst []) ∧ H' a = some (.ins C dx fs) ∧
      spL [.ref a] H' (fun z H2 => H2 = H' ∧ ∃ n : Nat, z = .int n ∧ n ≤ 1000) E0 ∧ Q (.ref q) (upd (upd H' q (.lst zs)) it (ItD it))) E0
theorem own_extT {A1 : Around} {Rs : Result → Shared → Prop} {q : Addr} {Q : VK} {spI spL : Sp} (hh : A1.in1.handled = none) (hr : Room k A1.in1) (hr2 : Room k A1.in1.in1) (fr : A1.frames = X.A.frames)
    (MI : MCal X.prog X.w X.K X.mg X.base k C "__iter__" spI) (ML : MCal X.prog X.w X.K X.mg X.base k C "__len__" spL)
    (I : Inv X pins σ H s) (ha : H a = some (.ins C dx fs)) (hq : H q = some (.lst []))
    (sp : spI [.ref a] H (fun v H' => ∃ it t zs, v = .ref it ∧ it ≠ q ∧ H' it = some (ItT t it 0) ∧ SqT X.K H' t zs ∧ H' q = some (.lst []) ∧ H' a = some (.ins C dx fs) ∧
      spL [.ref a] H' (fun z H2 => H2 = H' ∧ ∃ n : Nat, z = .int n ∧ n ≤ 1000) E0 ∧ Q (.ref q) (upd (upd H' q (.lst zs)) it (ItD it))) E0)
    (hdone : ∀ H' s', Inv X pins σ H' s' → Q (.ref q) H' → Rs (.ok (.ret .none)) s') :
    wpAny (model X.prog X.w) A1.in1 (Builtin.List.listExtendWith (.ref q) (.ref a) .none)
      (fun fin s' => match fin with | .done f => Rs (.ok f) s' | .again c' => c'.quiet = true ∧ codeAny (model X.prog X.w) A1 c' Rs s') (fun e s' => Rs (.error e) s') s := by
  have hne : q ≠ a := ne_of hq ha (fun z => nomatch z)
  obtain ⟨mA, O, _⟩ := ins_get I.hok ha
  obtain ⟨od, J, _⟩ := O.look
  obtain ⟨m0, hF⟩ := I.fr
  obtain ⟨c, f, fd, ps, F, b, M⟩ := MI
  unfold Builtin.List.listExtendWith
  refine wpAny_bind (J.type.here ?_)
  have h1 : Builtin.List.listSameRef (.ref q) (.ref a) = false := by simp [Builtin.List.listSameRef, hne]
  have h2 : (Value.ref C == Value.type "list") = false := rfl
  have h3 : (Value.ref C == Value.type "tuple") = false := rfl
  simp only [h1, h2, h3, Bool.or_false, Bool.false_eq_true, if_false]
  refine wpAny_bind (PySem.W.owit_iter hF I.ok.mod.kin J M.at_ M.fn ?_)
  have e0 : Env0 X.prog X.w X.K X.mg X.base A1.in1 X.stack s H := by
    have e := I.env0
    exact ⟨fr.trans e.frames, e.mod, e.bs, e.bsz, e.funs, e.frf, e.hok, e.bare⟩
  refine wpAny_mono (run_inE (us := [.ref a]) (vs := [.ref a]) F hr e0 b I (.cons rfl .nil) sp) ?_ fun _ _ z => z
  rintro r s2 ⟨z, H', I', rz, it, t, zs, ez, hnq, hit, ht, hq', ha', hl, qd⟩
  subst ez
  cases (show r = Value.ref it from rz)
  have ti := (itT_get I' hit).typeIs
  unfold PySem.W.OwitIt
  refine wpAny_specialOf (name := Str.ofString "__next__") ti PySem.F.slot_tuple_iterator_next.lookup ?_
  show wpAny _ A1.in1 (holding [Value.ref it] (Builtin.List.listLengthHint (.ref a)) >>= _) _ _ _
  refine wpAny_bind (wpAny_holding (hint_in (A' := A1.in1) hr2 fr I' ha' ML hl fun bb s3 I3 => ?_))
  obtain ⟨z, its, kk, r3, hl3, e3⟩ := I3.lstM hq'
  cases r3
  have go : ∀ s4, Inv X pins σ H' s4 → codeAny (model X.prog X.w) A1 (.builtin "list.extend.loop" ⟨[.ref q, .ref it, .none], []⟩) Rs s4 := fun s4 I4 =>
    tupit_loop hh zs.length 0 H' s4 (Nat.sub_zero _) (Nat.zero_le _) I4 (by rw [List.take_zero]; exact hq') hit ht hnq fun s' I5 => hdone _ s' I5 qd
  refine wpAny_ite_split (fun _ => ?_) (fun _ => wpAny_pure ⟨plainId_quiet PySem.F.plain_extend_loop _, go _ I3⟩)
  refine wpAny_bind (wpAny_rule ?_)
  refine wpAny_bind ?_
  show wpAny _ _ (updateSeq q (·.push .none) >>= fun _ => updateSeq q (·.pop)) _ _ _
  refine wpAny_bind (wpAny_updateSeq e3 rfl ?_)
  have I2 := I3.lset (f := (·.push Value.none)) (its' := [Value.none]) (ys := [.non]) (t' := s3.toks) hq' e3 (by simp) (.cons rfl .nil) (by rw [List.length_singleton, sizeLine_eq]; decide)
  obtain ⟨z4, its4, k4, r4, hl4, e4⟩ := I2.lstM upd_same
  obtain ⟨u4, rfl, ru4⟩ := r4.one
  refine wpAny_updateSeq e4 rfl ?_ (by show 1 ≤ sizeLine; rw [sizeLine_eq]; decide) (by show 0 ≤ sizeLine + 1; exact Nat.zero_le _)
  refine wpAny_pure ⟨plainId_quiet PySem.F.plain_extend_loop _, go _ ?_⟩
  have I5 := I2.lset (f := (·.pop)) (its := [u4]) (its' := []) (ys := []) (t' := s3.toks) upd_same e4 (by rfl) .nil (Nat.zero_le _)
  rw [upd_upd] at I5
  have hH : upd H' q (.lst []) = H' := by
    funext x
    by_cases hb : x = q
    · rw [hb, upd_same, hq']
    · rw [upd_ne hb]
  rw [hH] at I5
  exact I5
theorem call_listOwnT {j : Nat} (hc : X.calm = true) (hr : Room j X.A) (hk : k + 3 ≤ j) : CallR X (.type "list") (rOwnT X.prog X.w X.K X.mg X.base k) := by
  intro pins s σ H xs us Q I rv h
  obtain ⟨a, C, dx, fs, spI, spL, rfl, ha, MI, ML, hq⟩ := h
  obtain ⟨u, rfl, ru⟩ := vals1 rv
  cases (show u = Value.ref a from ru)
  have sb : Sub X (k + 1) X.A.in1.in1 := Sub.in1 (Sub.in1 (⟨hr.mono hk, rfl⟩ : Sub X (k + 3) X.A))
  have sb2 : Sub X k X.A.in1.in1.in1 := Sub.in1 sb
  refine callType_codes (Q₁ := fun obj s₁ => obj = .ref s.heap.objs.size ∧ s₁ = { s with heap := s.heap.push { cls := .type "list", data := .seq #[] } }) PySem.F.called_list (PySem.F.typeCall_list_1 _) PySem.F.entry_list_init
    (code_list_new _ ⟨rfl, rfl⟩) fun obj s₁ h₁ => ?_
  obtain ⟨rfl, rfl⟩ := h₁
  have hS : (s.heap.push { cls := .type "list", data := .seq #[] }).get? s.heap.objs.size = some { cls := .type "list", data := .seq #[] } := Heap.get?_push_size _ rfl
  refine ⟨⟨_, hS, rfl⟩, PySem.F.args_list_init_2 _ _, ?_⟩
  have fr : H s.heap.objs.size = none := I.hok.fresh (Nat.le_refl _)
  have I1 : Inv X pins σ (upd H s.heap.objs.size (.lst [])) { s with heap := s.heap.push { cls := .type "list", data := .seq #[] } } := I.lnew (its := []) (t' := s.toks) .nil (Nat.zero_le _)
  show wpAny _ _ (do let old ← Builtin.List.listItems (.ref s.heap.objs.size); Builtin.List.listUpdate (.ref s.heap.objs.size) (fun _ => #[]); letGo old.toList.reverse; Builtin.List.listExtendWith (.ref s.heap.objs.size) (.ref a) .none) _ _ _
  refine wpAny_bind ?_
  unfold Builtin.List.listItems
  refine wpAny_bind (wpAny_seqItems hS rfl (wpAny_pure ?_))
  show wpAny _ _ (updateSeq s.heap.objs.size (fun _ => #[]) >>= fun _ => letGo (#[] : Array Value).toList.reverse >>= fun _ => Builtin.List.listExtendWith (.ref s.heap.objs.size) (.ref a) .none) _ _ _
  refine wpAny_bind (wpAny_updateSeq hS rfl ?_)
  have I2 := I1.lset (f := fun _ => #[]) (its := []) (its' := []) (ys := []) (t' := s.toks) upd_same hS rfl .nil (Nat.zero_le _)
  rw [upd_upd] at I2
  refine wpAny_bind (wpAny_letGo ?_)
  have ha2 : upd H s.heap.objs.size (.lst []) a = some (.ins C dx fs) := by rw [upd_ne (ne_of_none ha fr)]; exact ha
  exact own_extT (A1 := X.A.in1) (Rs := wants (fun r s₂ => r = .none ∧ EP X pins σ Q (.ref s.heap.objs.size) s₂) X.xe) (I.ok.hd hc) (sb.room.mono (Nat.le_succ _)) sb2.room rfl MI ML I2 ha2 upd_same (hq _ fr)
    fun H' s' I' hR => ⟨rfl, .ref s.heap.objs.size, H', I', rfl, hR⟩
end
end Cm
namespace Cm
open PySem PySem.Spec PyProof.Rows
open L2 hiding Same
open NdefX
/-! ### super().__init__(e) in the __init__ of an own error over ValueError -/
section
open PySem.W PySem.Calls
variable {prog : Program} {w : World} {A : Around} {E : Value → Shared → Prop} {h : Heap} {g : Array GenState} {d : Drawn} {t : Nat} {os : OsState}
/-- the bound ValueError.__init__, called: the args are laid anew -/
theorem call_mw {u e C t0 : Addr} {rest : List Value} {Q : Value → Shared → Prop} {nm q : Str} {N : Addr} {bs bm : List Value} {hdct : Bool} {sn : List Str} {sub : List Value} {ab : Bool} {col : Option Bool} {dd : Option Addr} {k0 k1 k2 k3 k5 : Option Value}
    (hC : h.get? C = some (excClassObj nm q C N bs bm hdct sn sub ab col dd k0 k1 k2 k3 k5 "ValueError.__new__")) (he : h.get? e = some ({ cls := .ref C, dict := none, data := .fields #[.ref t0, .none, .none, .none, .bool false, .none] } : Obj))
    (hu : h.get? u = some (kxs_mw "ValueError.__init__" e)) (hz : rest.length ≤ sizeLine)
    (hq : ∀ h' t1, (∀ b o, b ≠ e → h.get? b = some o → h'.get? b = some o) → h'.get? e = some ({ cls := .ref C, dict := none, data := .fields #[.ref t1, .none, .none, .none, .bool false, .none] } : Obj) → Q .none ⟨h', g, d, t, os⟩) :
    wpAny (model prog w) A (call (.ref u) rest) Q E ⟨h, g, d, t, os⟩ := by
  refine wpAny_call (codeAny_of_tree ?_)
  show wpAny _ A.in1 (callAny (.ref u) ⟨rest, []⟩) _ _ _
  simp only [callAny]
  refine wpAny_bind (wpAny_load hu ?_)
  simp only [kxs_mw, show (Value.type "method-wrapper" == Value.type "method" || Value.type "method-wrapper" == Value.type "builtin_function_or_method" || Value.type "method-wrapper" == Value.type "method-wrapper") = true by decide, if_true]
  refine KFB.if_so (by decide) ?_
  refine wpAny_bind (check_bound_init F.excBase_ValueError.toExcCallFacts hC he rfl ?_)
  refine wpAny_bind (wpAny_pure (wpAny_pure ?_))
  refine ⟨plainId_quiet F.excBase_ValueError.init.plain _, codeAny_builtin F.excBase_ValueError.initEntry ?_⟩
  exact exc_init_tree (cls := .ref C) (t0 := t0) (dv := none) (c2 := .none) (c3 := .none) (b4 := .bool false) he hz fun h' k e' t' => hq h' _ k e'
end
theorem inv_pin {X : Cx} {σ : L2.St} {H : Hp} {s : Shared} {u : Addr} {o : Obj} (I : Inv X [] σ H s) (hu : s.heap.get? u = some o) (hH : H u = none) (nl : u ≠ X.env.locals) (nf : u ∉ X.fs) (nc : ∀ v, o.data ≠ .cell v) : Inv X [(u, o)] σ H s := by
  refine ⟨I.ok, I.os, I.bare, I.base, I.loc, I.cell, I.free, I.freeC, fun p hp => ?_, I.hok, I.len⟩
  rcases List.mem_append.mp hp with hp | hp
  · exact I.pin p (List.mem_append.mpr (.inl hp))
  · have e : p = (u, o) := by simpa using hp
    subst e
    exact ⟨hu, hH, nl, nf, nc⟩
/-- the __init__ of the class at C: what the written part says -/
structure SupC (P : Program) (K : PySem.W.Frag) (mg : Str → Option Value) (C f cc c : Addr) (x qual : Str) (params : Arguments) (body : List Stmt) (scope : Scope) (fd : FuncData) : Prop where
  fdE : ∃ (dV kV doc pm : Value) (an : Option Addr) (ct : Value), fd = PySem.W.fnX x qual params body scope [("__class__", cc)] dV kV doc pm an (.ref c) ct
  lk : ∃ (oc : Value) (od : Option Addr) (osl : Array (Option Value)), K.lookup f = some ⟨oc, od, .func fd, osl⟩
  code : PySem.W.codeIn K (.ref c) qual = true
  file : ∃ (co : Obj) (vs : Array Value) (file : Str) (tf : Tok), K.lookup c = some co ∧ co.data = .fields vs ∧ vs[2]? = some (.str file tf) ∧ ((P.main.file : Str) == file) = true
  cell : ∃ o, K.lookup cc = some o ∧ o.data = .cell (some (.ref C))
  sup : PySem.W.ks_superIn K C C "__init__" = some (some (.builtin "ValueError.__init__"))
  nop : PySem.W.nsIn K cStatics "thirdparty.any" = some none
  sB : PySem.W.subIn K (.ref C) (.type "ValueError") = some true
  sC : PySem.W.mroIn K C (.ref C) = some true
  nS : mg "super" = none
  ex : OexC K C
section
variable {CX : CXT} {P : Program} {w : World} {K : PySem.W.Frag} {mg : Str → Option Value} {base : Heap} {N ps : List Str} {k : Nat} {f C cc c : Addr} {x qual : Str} {params : Arguments} {scope : Scope} {fd : FuncData} {sp : Sp} {rest : List Stmt} {e : Expr} {p0 p1 p2 p3 p4 : Pos} {ar : Arg}
theorem sup_ok (S : SupC P K mg C f cc c x qual params (.Expr (.Call (.Attribute (.Call (.Name "super" p0) [] [] p1) "__init__" p2) [e] [] p3) p4 :: rest) scope fd)
    (NS : NScope N ps ["__class__"] scope) (hks : scope.names.lookup ("super" : Str) = some .globalImplicit) (hp : (params.posonlyargs ++ params.args).head? = some ar) (hp0 : ps[0]? = some ar.arg)
    (htop : (P.main.scope.names.lookup ("super" : Str)).isSome = false) (len : ∀ vs H Q E, sp vs H Q E → vs.length = ps.length)
    (hbody : ∀ (A : Around) (outer : List Env) (s : Shared) (H : Hp) (vs : List V) (Q : VK) (E : XK), Room k (A.deeper (envF ⟨x, qual, params, [], scope, [("__class__", cc)], c⟩ f s.heap.objs.size)) → sp vs H Q E →
      ∃ te tr a, PE (ncx CX P w K mg base N ⟨x, qual, params, [], scope, [("__class__", cc)], c⟩ f A outer s H E) e te ∧ PSs (ncx CX P w K mg base N ⟨x, qual, params, [], scope, [("__class__", cc)], c⟩ f A outer s H E) rest tr ∧ vs[0]? = some (.ref a) ∧ H a = some (exo a C none) ∧
        te (startF N vs [some (.ref C)]) H fun y H1 => ([y] : List V).length ≤ 1 ∧ H1 a = some (exo a C none) ∧ tr { nx := fun _ H' => Q .non H', rt := Q } (startF N vs [some (.ref C)]) H1)
    (hms : ∀ (L : Addr) (env : Env), env = envF ⟨x, qual, params, [], scope, [("__class__", cc)], c⟩ f L → ∃ pl, eval (.Call (.Attribute (.Call (.Name "super" p0) [] [] p1) "__init__" p2) [e] [] p3) env = (do
      let ov ← attributeBase (.Call (.Name "super" p0) [] [] p1) "__init__" env (eval (.Call (.Name "super" p0) [] [] p1) env)
      standAt p2.atName
      let (f, first) ← holding [ov] (getMethod ov "__init__" pl)
      callWith p3 f first (backTo p3 (starEach [e] env)) []) )
    (hsw : ∀ L, swapsWith (.Call (.Attribute (.Call (.Name "super" p0) [] [] p1) "__init__" p2) [e] [] p3) none p4.line (envF ⟨x, qual, params, [], scope, [("__class__", cc)], c⟩ f L) = pure false)
    (hint : ∀ L, interactive (envF ⟨x, qual, params, [], scope, [("__class__", cc)], c⟩ f L) = false)
    (hse : ∀ (L : Addr) (env : Env), env = envF ⟨x, qual, params, [], scope, [("__class__", cc)], c⟩ f L → starEach [e] env = (false, eval e env) :: starEach [] env) :
    FnOk P w K mg base CX (k + 1) f fd ps sp := by
  refine ⟨len, fun A outer s H args us vs Q E hr e0 hb r hsp => ?_⟩
  obtain ⟨dV, kV, doc, pm, an, ct, rfl⟩ := S.fdE
  obtain ⟨oc, od, osl, lk⟩ := S.lk
  have hl := len _ _ _ _ hsp
  have KX : K.In s.heap := e0.mod.kin.keeps fun b o e => (e0.bs b o e).1
  have lim : s.heap.NoLimit := e0.mod.nolimit.keeps fun b o e => (e0.bs b o e).1
  have kH : ∀ {b : Addr} {o : Obj}, K.lookup b = some o → H b = none := fun {b o} z => (e0.bs b o (e0.mod.kin b o z)).2
  refine codeAny_call_function hr.depth (KX _ _ lk) rfl NS.co NS.gen rfl (PySem.W.codeRec_of KX S.code) (hb _ _ _ _ ?_)
  refine wpAny_newFunctionEnv NS.nocell (fun ⟨n, _⟩ hy => NS.par n (List.of_mem_zip hy).1) (fun h₁ hns hsb => ⟨lim.fresh _ hsb, ?_⟩) NS.kind
  show codeAny _ _ (.func _ (envF ⟨x, qual, params, [], scope, [("__class__", cc)], c⟩ f s.heap.objs.size)) _ _
  refine ks_codeAny_funcAt ?_
  have kp : ∀ b o, s.heap.get? b = some o → h₁.get? b = some o := fun b o e => hsb.extBut b o (Nat.ne_of_lt (Heap.lt_size e)) (Heap.get?_push_of_some _ e)
  obtain ⟨te, tr, a, de, dr, hva, haH, hq⟩ := hbody A outer s H vs Q E (hr.deeper _) hsp
  obtain ⟨oc2, lcc, dcc⟩ := S.cell
  have CA : CellsAt [("__class__", cc)] ["__class__"] [some (V.ref C)] s.heap H := by
    refine ⟨rfl, fun y z hy => ?_, fun y z d h1 h2 => ?_, fun i y hi => ?_⟩
    · by_cases e : y = "__class__"
      · subst e
        have : cc = z := by simpa [List.lookup] using hy
        subst this
        exact ⟨kH lcc, _, oc2, KX _ _ lcc, dcc⟩
      · rw [List.lookup_cons, beq_false_of_ne e] at hy; cases hy
    · by_cases e1 : y = "__class__"
      · by_cases e2 : z = "__class__"
        · rw [e1, e2]
        · rw [List.lookup_cons, beq_false_of_ne e2] at h2; cases h2
      · rw [List.lookup_cons, beq_false_of_ne e1] at h1; cases h1
    · cases i with
      | succ i => simp at hi
      | zero =>
        have : y = "__class__" := by simpa using hi.symm
        subst this
        exact ⟨cc, by simp [List.lookup], fun v hv => ⟨.ref C, by cases (Option.some.inj (Option.some.inj hv)); rfl, oc2, KX _ _ lcc, dcc⟩⟩
  have I : Inv (ncx CX P w K mg base N ⟨x, qual, params, [], scope, [("__class__", cc)], c⟩ f A outer s H E) [] (startF N vs [some (V.ref C)]) H { s with heap := h₁, toks := s.toks + (ps.zip us).length } := inv_startN (F := ⟨x, qual, params, [], scope, [("__class__", cc)], c⟩) NS hr.hd e0 hl r CA hns kp
  have hva0 : (startF N vs [some (V.ref C)])[0]? = some (some (V.ref a)) := by
    unfold startF
    have h0 : 0 < vs.length := (List.getElem?_eq_some_iff.mp hva).1
    rw [List.getElem?_append_left (by simpa using h0), List.getElem?_map, hva]; rfl
  obtain ⟨pl, hm⟩ := hms s.heap.objs.size _ rfl
  have hse := hse s.heap.objs.size _ rfl
  obtain ⟨nm, q, N0, bs, bm, sn, sub, ab, col, dd, k0, k1, k2, k3, k5, hC, hbm⟩ := S.ex.cls
  obtain ⟨co, cvs, file, tf, lc, dc, hv2, hfile⟩ := S.file
  have K1 : K.In h₁ := KX.keeps kp
  have e1 : H a = some (exo a C none) := haH
  obtain ⟨t1, hoa⟩ := exo_at I.hok e1
  have hkc : scope.names.lookup ("__class__" : Str) = some .free := NS.frk _ (by simp)
  have hka : scope.names.lookup ar.arg = some .local := NS.par _ (List.mem_of_getElem? hp0)
  refine ks_wpAt_execs_cons (ks_wpAt_Expr_any (ks_wpAt_MethodCall ?_ hm) (hint _) (hsw _))
  refine ks_wpAt_super_base (of := ⟨oc, od, .func (PySem.W.fnX x qual params (.Expr (.Call (.Attribute (.Call (.Name "super" p0) [] [] p1) "__init__" p2) [e] [] p3) p4 :: rest) scope [("__class__", cc)] dV kV doc pm an (.ref c) ct), osl⟩)
    (env := envF ⟨x, qual, params, [], scope, [("__class__", cc)], c⟩ f s.heap.objs.size) hks hkc (by decide +kernel) rfl (K1 _ _ lk) rfl hp rfl (K1 _ _ lc) dc hv2 hfile htop ?_
  obtain ⟨mb, hb1, hb2⟩ := I.mod.blt
  refine PySem.W.ks_loadName_global NS.kind hks (PySem.Calls.loadGlobal_builtin (env := envF ⟨x, qual, params, [], scope, [("__class__", cc)], c⟩ f s.heap.objs.size) (I.mod.glob.keeps I.bk) S.nS (hb1.keeps I.bk) ((hb2 _ (by decide)).trans (by decide +kernel)) ⟨rfl, ?_⟩)
  refine wpAny_loadName_free NS.kind hkc rfl ⟨oc2, K1 _ _ lcc, dcc⟩ ?_
  obtain ⟨m, hnm, hloc⟩ := I.loc
  have hN0 : N[0]? = some ar.arg := by
    have hpre := NS.pre
    have h0 : 0 < ps.length := (List.getElem?_eq_some_iff.mp hp0).1
    have z : (ps ++ [("__class__" : Str)])[0]? = some ar.arg := by rw [List.getElem?_append_left h0]; exact hp0
    rw [← hpre, List.getElem?_take_of_lt (by omega)] at z
    exact z
  obtain ⟨u, ru, hlk⟩ := hloc 0 ar.arg (.ref a) hN0 hva0 (.inl hka)
  obtain rfl : u = Value.ref a := ru
  have hma : m ar.arg = some (.ref a) := by
    rcases hlk with ⟨_, z⟩ | ⟨z, _⟩
    · exact z
    · have z2 : scope.names.lookup ar.arg = some .cell ∨ scope.names.lookup ar.arg = some .free := z
      rw [hka] at z2
      rcases z2 with z2 | z2 <;> cases z2
  refine wpAny_loadName_local NS.kind hka hnm hma ?_
  refine ks_wpAny_isType_cls (K1 _ _ hC) rfl ⟨rfl, ?_⟩
  refine ks_wpAny_call_super (K1 _ _ hC) rfl hoa rfl (fun c e => by cases e) (PySem.W.looks_mroIn K1 S.sC) (fun h₂ hso k2 => ?_)
  · -- the bound __init__
    have I2 := I.kept (t' := s.toks + (ps.zip us).length) k2
    have K2 : K.In h₂ := I2.kIn
    have hcl : PySem.W.clsIn K C = some { name := nm, bases := bs, mro := .ref C :: bm, ns := N0, qualname := q, hasDict := true, slotNames := sn, subclasses := sub, abstract := ab, collection := col, hasDel := false } := by unfold PySem.W.clsIn; rw [hC] <;> rfl
    have hsup := S.sup
    unfold PySem.W.ks_superIn at hsup
    rw [hcl] at hsup
    have IA : PySem.W.InstAt h₂ a ({ cls := .ref C, dict := none, data := .fields #[.ref t1, .none, .none, .none, .bool false, .none] } : Obj) C none := ⟨k2 _ _ hoa, rfl, rfl, trivial⟩
    refine PySem.W.kxs_getMethod PySem.W.kxs_ValueError hso (PySem.W.looks_opaque K2 S.nop) (l₀ := .ref C :: bm) (fun A Q E s k q => wpAny_bind ((PySem.W.looks_clsIn K2 hcl) A _ E s k (wpAny_pure q))) rfl K2 hsup (IA.type.andThen (PySem.W.looks_subIn K2 S.sB)) (PySem.W.ks_ne K2 IA hcl) (by decide +kernel) ?_
    have I3 := I2.kept (t' := s.toks + (ps.zip us).length + 1) (h' := h₂.push (PySem.W.kxs_mw "ValueError.__init__" a)) (fun b o e => Heap.get?_push_of_some _ e)
    have hu : (h₂.push (PySem.W.kxs_mw "ValueError.__init__" a)).get? h₂.objs.size = some (PySem.W.kxs_mw "ValueError.__init__" a) := Heap.get?_push_at rfl rfl
    have Ip := inv_pin I3 hu (I2.hok.fresh (Nat.le_refl _)) (Nat.ne_of_gt I2.lt) (I2.nofs (Nat.le_refl _)) (fun v z => by cases z)
    refine PySem.W.kxs_callWith (i := "ValueError.__init__") (x := a) (by rw [hse]; rfl) ?_
    rw [hse]
    refine PySem.Calls.evalArgs_plain ?_
    have pa : PA (ncx CX P w K mg base N ⟨x, qual, params, [], scope, [("__class__", cc)], c⟩ f A outer s H E) [e] (tCons te tNil) := pa_cons (hs := hse) de pa_nil
    have run := pa.run p3 [(h₂.objs.size, PySem.W.kxs_mw "ValueError.__init__" a)] _ _ H (fun ws H1 => ws.length ≤ 1 ∧ H1 a = some (exo a C none) ∧ tr { nx := fun _ H' => Q .non H', rt := Q } (startF N vs [some (.ref C)]) H1) Ip hq
    have hse2 := hse
    refine thn (Q := AP (ncx CX P w K mg base N ⟨x, qual, params, [], scope, [("__class__", cc)], c⟩ f A outer s H E) [(h₂.objs.size, PySem.W.kxs_mw "ValueError.__init__" a)] (startF N vs [some (V.ref C)]) (fun ws H1 => ws.length ≤ 1 ∧ H1 a = some (exo a C none) ∧ tr { nx := fun _ H' => Q .non H', rt := Q } (startF N vs [some (.ref C)]) H1)) ?_ (fun us' s2 z => ?_)
    · have z := run
      rw [show (ncx CX P w K mg base N ⟨x, qual, params, [], scope, [("__class__", cc)], c⟩ f A outer s H E).env = envF ⟨x, qual, params, [], scope, [("__class__", cc)], c⟩ f s.heap.objs.size from rfl, hse] at z
      exact z
    obtain ⟨ws, H2, J, rw', l1, ha2, q2⟩ := z
    obtain ⟨hus, _⟩ := J.pin (h₂.objs.size, PySem.W.kxs_mw "ValueError.__init__" a) (List.mem_append.mpr (.inr (by simp)))
    refine ⟨hus, ?_⟩
    obtain ⟨t2, hoa2⟩ := exo_at J.hok ha2
    have hlen : us'.length ≤ sizeLine := by
      have := rw'.length
      rw [sizeLine_eq]; omega
    have KJ := J.kIn
    obtain ⟨hp2, g2, d2, tk2, os2⟩ := s2
    refine call_mw (KJ _ _ hC) hoa2 hus (by simpa using hlen) fun h' t1 k' hx => ?_
    have J2 := J.write (t' := tk2) (x := a) (e := a) (o := exo a C none) (by rw [ha2]; exact True.intro) (.inl rfl) k' ⟨_, hx⟩ (exo_ok hx)
    have eu : upd H2 a (exo a C none) = H2 := by
      funext b
      by_cases hb : b = a
      · rw [hb, upd_same, ha2]
      · rw [upd_ne hb]
    rw [eu] at J2
    refine wpAt_of_wpAny ?_
    refine wpAny_mono (dr.run _ _ _ _ _ J2 q2) (fun fl s' hs => ?_) fun e s' hs => hs
    have fin : ∀ {σ' : L2.St} {H' : Hp} {v : V} {u : Value}, Inv (ncx CX P w K mg base N ⟨x, qual, params, [], scope, [("__class__", cc)], c⟩ f A outer s H E) [(h₂.objs.size, PySem.W.kxs_mw "ValueError.__init__" a)] σ' H' s' → L2.RelV v u → Q v H' → CE outer P w H s Q u s' :=
      fun {σ' H' v u} J rv q => ⟨v, H', J.os, J.bare, J.base, J.hok, rv, q⟩
    cases fl with
    | ret u =>
      obtain ⟨v, σ', H', J, rv, q⟩ := hs
      exact fin J rv q
    | next =>
      obtain ⟨σ', H', J, q⟩ := hs
      exact fin (v := V.non) (u := Value.none) J rfl q
    | brk =>
      obtain ⟨_, _, _, q⟩ := hs
      exact False.elim q
    | cont =>
      obtain ⟨_, _, _, q⟩ := hs
      exact False.elim q
end
end Cm
namespace Cm
open PySem PySem.Spec PyProof.Rows
open L2 hiding Same
/-! ### {x!r}, whatever is under way -/
section
open Sem (wp)
theorem list_head_any {M : Model} {A : Around} {E : Value → Shared → Prop} {s : Shared} {Q : Fin → Shared → Prop} {a : Addr} {o : Obj} {x : Value} {l : List Value} {n} {b : Nat}
    (hget : s.heap.get? a = some o) (hd : o.data = .seq (x :: l).toArray n)
    (h2 : ∀ u tk, Q (.done (.ret (.str "[...]" u))) { s with toks := tk })
    (h : wpAny M A (do again (.builtin "list.__repr__.loop" ⟨[.ref a, rawInt 0, ← newList [], rawInt b], []⟩)) Q E s) : wpAny M A (Builtin.listReprAt b ⟨[.ref a], []⟩) Q E s := by
  intro Γ p hΓ
  have h1 := h Γ p hΓ
  have h3 : wpAny M A (do rule "list.__repr__.in-itself"; retStr ("[...]" : Str)) Q E s := by
    refine wpAny_bind (wpAny_rule ?_)
    refine wpAny_bind (wpAny_mkStr (wpAny_pure ?_) (by decide +kernel))
    exact h2 _ _
  have h4 := h3 Γ p hΓ
  unfold Builtin.listReprAt
  simp [slotArgs, Builtin.List.listItems, seqItems?, Sem.wp_load_of (h := hget), hd, PySem.stack]
  show wp M Γ (if (Γ.below.any _) = true then _ else _) _ _ p s
  split
  · exact h4
  · exact h1
end
section
variable {prog : Program} {w : World} {A : Around} {E : Value → Shared → Prop} {s : Shared} {a : Addr} {oa : Obj} {x : Value} {l : List Value} {na : Nat} {ts : List Str}
theorem call_list_any {Q : Value → Shared → Prop} (hTy : s.TypeIs (.ref a) "list")
    (ha : s.heap.get? a = some oa) (hda : oa.data = .seq (x :: l).toArray na) (hlen : ts.length = (x :: l).toArray.size)
    (hT : ∀ (i : Nat) (y : Value), (x :: l).toArray[i]? = some y → ∃ t, ts[i]? = some t ∧ ReprIs prog w y t)
    (hQ : ∀ h' m u tk, m.length ≤ (listText ts).length + 5 → (∀ b o, s.heap.get? b = some o → h'.get? b = some o) → Q (.str m u) { s with heap := h', toks := tk })
    (hsz : (listText ts).length ≤ sizeLine) :
    wpAny (model prog w) A (call (.builtin "list.__repr__") [.ref a]) Q E s := by
  refine wpAny_call (codeAny_call_builtin F.slot_list_repr.plain F.entry_list_repr (F.slot_list_repr.check _ _ _ _ _ _ _ _ hTy (F.args_list_repr_1 _) ?_))
  refine list_head_any (A := A.in1) ha hda (fun u tk => hQ s.heap _ _ _ (Nat.le_trans (by decide +kernel) (Nat.le_add_left _ _)) fun _ _ z => z) ?_
  refine wpAny_bind (m := newList []) (wpAny_newObj_type ?_)
  refine wpAny_pure ⟨F.quiet_list_repr_loop _, ?_⟩
  refine codeAny_list_repr_start (P := s.heap.objs.size) (Nat.ne_of_lt (Heap.lt_size ha)) hlen hT (Heap.get?_push_of_some _ ha) hda (Heap.get?_push_size _ rfl) (fun h' u tk hk => ?_) (by omega)
  exact hQ h' _ u tk (Nat.le_add_right _ _) fun b o e => hk b o (Nat.ne_of_lt (Heap.lt_size e)) (Heap.get?_push_of_some _ e)
end
/-! ### odd values -/
inductive OdK
  | str (z : Str) | non | zero | tru | tup | lst
def OdAt (K : PySem.W.Frag) (H : Hp) (v : V) : OdK → Prop
  | .str z => v = .str z ∧ z.length ≤ 1000 ∧ ∀ c ∈ z.cps.toList, c < 128
  | .non => v = .non
  | .zero => v = .int 0
  | .tru => v = .bl true
  | .tup => ∃ a, v = .ref a ∧ H a = some (.tup [.str "asks"])
  | .lst => ∃ a, v = .ref a ∧ H a = some (.lst [.str "free"])
def tFmtO (K : PySem.W.Frag) (te : TE) : TE := fun σ H Q => te σ H fun x H1 => (∃ k, OdAt K H1 x k) ∧ ∀ m : Str, m.length ≤ 11000 → Q (.str m) H1
theorem small {n : Nat} (h : n ≤ 11000) : n ≤ sizeLine := Nat.le_trans h (by decide)
theorem pe_fmtRO {X : Cx} {e : Expr} {te : TE} {pos : Pos} {k : Nat} (hr : Room k X.A) (he : PE X e te) : PE X (.FormattedValue e 114 none pos) (tFmtO X.K te) := by
  refine ⟨fun pins s σ H Q I h => ?_⟩
  refine wpAny_FormattedValue_repr (thn (he.run pins s σ H _ I h) fun v s1 hv => ?_)
  obtain ⟨x, H1, I1, r1, ⟨k, ho⟩, q⟩ := hv
  have hu := hr.units
  have fin : ∀ (m : Str) (u : Tok) (s2 : Shared), m.length ≤ 11000 → Inv X pins σ H1 s2 → wpAny (model X.prog X.w) X.A (formatField (.str m u) Str.empty) (EP X pins σ Q) X.xe s2 := fun m u s2 hm J =>
    wpAny_formatField_str ⟨.str m, H1, J, ⟨_, rfl⟩, q m hm⟩ ⟨.str m, H1, J.tok _, ⟨_, rfl⟩, q m hm⟩ (small hm)
  cases k with
  | str z =>
    obtain ⟨rfl, hz, hc⟩ := ho
    obtain ⟨t, rfl⟩ := r1
    have h1 := StrLaws.reprText_len z fun c h => Nat.lt_of_lt_of_le (hc c h) (by decide)
    exact pyReprObj_str (fin _ _ _ (by omega) (I1.tok _)) (small (by omega))
  | non =>
    obtain rfl : x = .non := ho
    obtain rfl : v = Value.none := r1
    exact pyReprObj_none (fin _ _ _ (by decide +kernel) (I1.tok _))
  | zero =>
    obtain rfl : x = .int 0 := ho
    obtain ⟨t, rfl⟩ := r1
    exact pyReprObj_int (by decide +kernel) (fin _ _ _ (by decide +kernel) (I1.tok _))
  | tru =>
    obtain rfl : x = .bl true := ho
    obtain rfl : v = Value.bool true := r1
    exact pyReprObj_bool (fin _ _ _ (by decide +kernel) (I1.tok _))
  | tup =>
    obtain ⟨a, rfl, ha⟩ := ho
    obtain rfl : v = Value.ref a := r1
    obtain ⟨its, rv, ⟨o, ho, hcl, n, hd⟩, _⟩ := I1.tuple (SqT.of ha)
    have rv2 : Vals ([("asks" : Str)].map V.str) its := rv
    refine wpAny_pyReprObj_slot (by omega) ⟨o, ho, hcl⟩ F.slot_tuple_repr (fmt_tuple_repr (ts := [("asks" : Str)].map reprText) ho hcl hd (repr_all rv2 fun y hy => ?_) (by decide +kernel) fun m u tk hm => ⟨m, u, rfl, fin m u _ ?_ (I1.tok _)⟩)
    · have e : y = "asks" := by simpa using hy
      rw [e]; decide +kernel
    · have : (tupleText ([("asks" : Str)].map reprText)).length ≤ 100 := by decide +kernel
      omega
  | lst =>
    obtain ⟨a, rfl, ha⟩ := ho
    obtain rfl : v = Value.ref a := r1
    obtain ⟨its, rv, ⟨o, n, ho, hcl, _, hd⟩, _⟩ := I1.list (SqL.of ha)
    obtain ⟨u1, rfl, t, rfl⟩ := vals1 rv
    refine wpAny_pyReprObj_slot (by omega) ⟨o, ho, hcl⟩ F.slot_list_repr.toG (call_list_any (ts := [("free" : Str)].map reprText) ⟨o, ho, hcl⟩ ho hd rfl (fun i y hy => ?_) (fun h' m u tk hm hk => ⟨m, u, rfl, fin m u _ ?_ (I1.kept hk)⟩) (by decide +kernel))
    · cases i with
      | zero =>
        have e : Value.str "free" t = y := by simpa using hy
        subst e
        exact ⟨_, rfl, ReprIs.str "free" t (by decide +kernel)⟩
      | succ i => simp at hy
    · have : (listText ([("free" : Str)].map reprText)).length ≤ 100 := by decide +kernel
      omega
end Cm
namespace Cm
open PySem PySem.Spec PyProof.Rows
open L2 hiding Same
open NdefX
/-! ### what the written part says of an own error's class and of its __init__ -/
def oexB (K : PySem.W.Frag) (C : Addr) : Bool := match K.lookup C with
  | some ⟨.type "type", _, .cls cd, sl⟩ => (match cd.mro, sl.toList with
    | .ref C' :: bm, [_, _, _, _, some (.builtin n), _] => C' == C && n == "ValueError.__new__" && !cd.hasDel && cd.hasDict && PySem.HandSPX.refsVE bm
    | _, _ => false)
  | _ => false
theorem oexB_ok {K : PySem.W.Frag} {C : Addr} (q : oexB K C = true) : ∃ nm q N bs bm sn sub ab col dd k0 k1 k2 k3 k5, K.lookup C = some (excClassObj nm q C N bs bm true sn sub ab col dd k0 k1 k2 k3 k5 "ValueError.__new__") ∧ PySem.HandSPX.refsVE bm = true := by
  unfold oexB at q
  split at q
  · rename_i dd cd sl ho
    split at q
    · rename_i C' bm k0 k1 k2 k3 n k5 hm hs
      simp only [Bool.and_eq_true, beq_iff_eq, Bool.not_eq_true'] at q
      obtain ⟨⟨⟨⟨rfl, rfl⟩, hdel⟩, hd⟩, ht⟩ := q
      obtain ⟨nm, bs, mro, ns, qn, hd', sn, sub, ab, col, del⟩ := cd
      dsimp only at hm hdel hd
      subst hm hdel hd
      have hsl : sl = #[k0, k1, k2, k3, some (.builtin "ValueError.__new__"), k5] := by
        obtain ⟨l⟩ := sl
        simp only at hs
        rw [hs]
      subst hsl
      exact ⟨nm, qn, ns, bs, bm, sn, sub, ab, col, dd, k0, k1, k2, k3, k5, ho, ht⟩
    · cases q
  · cases q
abbrev FnWS : Type := Option (Str × Str × Arguments × FuncBody × Scope × Addr × List Str × Addr)
def fnWS (K : PySem.W.Frag) (f : Addr) : FnWS := match K.lookup f with
  | some ⟨_, _, .func fd, _⟩ => some (fd.name, fd.qualname, fd.params, fd.body, fd.scope, fd.globals, fd.closure.map (·.1), fd.builtins)
  | _ => none
def codeB (file : Str) (K : PySem.W.Frag) (c : Addr) : Bool := match K.lookup c with
  | some o => (match o.data with
    | .fields vs => (match (vs[2]? : Option Value) with
      | some (Value.str f _) => file == f
      | _ => false)
    | _ => false)
  | _ => false
def cellB (K : PySem.W.Frag) (C cc : Addr) : Bool := match K.lookup cc with
  | some o => (match o.data with
    | .cell (some (.ref D)) => D == C
    | _ => false)
  | _ => false
def supB (file : Str) (K : PySem.W.Frag) (C f : Addr) (qual : Str) : Bool := match K.lookup f with
  | some ⟨_, _, .func fd, _⟩ => (match fd.code with
    | .ref c => PySem.W.codeIn K (.ref c) qual && codeB file K c
    | _ => false) && (match fd.closure with
    | [(_, cc)] => cellB K C cc
    | _ => false)
  | _ => false
theorem codeB_ok {file : Str} {K : PySem.W.Frag} {c : Addr} (h : codeB file K c = true) : ∃ (co : Obj) (vs : Array Value) (f : Str) (tf : Tok), K.lookup c = some co ∧ co.data = .fields vs ∧ vs[2]? = some (.str f tf) ∧ (file == f) = true := by
  unfold codeB at h
  split at h
  · rename_i o ho
    split at h
    · rename_i vs hv
      split at h
      · rename_i f t ht
        exact ⟨o, vs, f, t, ho, hv, ht, h⟩
      · cases h
    · cases h
  · cases h
theorem cellB_ok {K : PySem.W.Frag} {C cc : Addr} (h : cellB K C cc = true) : ∃ o, K.lookup cc = some o ∧ o.data = .cell (some (.ref C)) := by
  unfold cellB at h
  split at h
  · rename_i o ho
    split at h
    · rename_i D hD
      have e : D = C := beq_iff_eq.mp h
      subst e
      exact ⟨o, ho, hD⟩
    · cases h
  · cases h
/-- the facts of one own error over ValueError: its class, its __init__ -/
structure ExB (K : PySem.W.Frag) (C f : Addr) : Prop where
  o : oexB K C = true
  sa : PySem.W.findIn K (.ref C) "__setattr__" = some (some (.builtin "object.__setattr__"))
  exC : PySem.W.subIn K (.ref C) (.type "BaseException") = some true
  tyC : PySem.W.typeIn K (.ref C) = some (.type "type")
  kC : PySem.W.keepIn K (.ref C) = true
  iC : PySem.W.findIn K (.ref C) "__init__" = some (some (.ref f))
  tI : PySem.W.typeIn K (.ref f) = some (.type "function")
  sup : PySem.W.ks_superIn K C C "__init__" = some (some (.builtin "ValueError.__init__"))
  nop : PySem.W.nsIn K cStatics "thirdparty.any" = some none
  sB : PySem.W.subIn K (.ref C) (.type "ValueError") = some true
  sC : PySem.W.mroIn K C (.ref C) = some true
  xf : xfB K C = true
  em : PySem.W.exmOne K (.ref C) (.ref C) = some true
  cc : PySem.W.findIn K (.ref C) "__class__" = some (some (.builtin "object.__class__"))
  mo : PySem.W.mroIn K C (.type "object") = some true
def exB (K : PySem.W.Frag) (C f : Addr) : List Bool := [oexB K C,
  decide (PySem.W.findIn K (.ref C) "__setattr__" = some (some (.builtin "object.__setattr__"))),
  decide (PySem.W.subIn K (.ref C) (.type "BaseException") = some true),
  decide (PySem.W.typeIn K (.ref C) = some (.type "type")),
  PySem.W.keepIn K (.ref C),
  decide (PySem.W.findIn K (.ref C) "__init__" = some (some (.ref f))),
  decide (PySem.W.typeIn K (.ref f) = some (.type "function")),
  decide (PySem.W.ks_superIn K C C "__init__" = some (some (.builtin "ValueError.__init__"))),
  decide (PySem.W.nsIn K cStatics "thirdparty.any" = some none),
  decide (PySem.W.subIn K (.ref C) (.type "ValueError") = some true),
  decide (PySem.W.mroIn K C (.ref C) = some true),
  xfB K C,
  decide (PySem.W.exmOne K (.ref C) (.ref C) = some true),
  decide (PySem.W.findIn K (.ref C) "__class__" = some (some (.builtin "object.__class__"))),
  decide (PySem.W.mroIn K C (.type "object") = some true)]
theorem exB_ok {K : PySem.W.Frag} {C f : Addr} (h : (exB K C f).all id = true) : ExB K C f := by
  have g : ∀ (i : Nat) {b : Bool}, (exB K C f)[i]? = some b → b = true := fun i b e => List.all_eq_true.mp h b (List.mem_of_getElem? e)
  exact ⟨g 0 rfl, of_decide_eq_true (g 1 rfl), of_decide_eq_true (g 2 rfl), of_decide_eq_true (g 3 rfl), g 4 rfl, of_decide_eq_true (g 5 rfl), of_decide_eq_true (g 6 rfl), of_decide_eq_true (g 7 rfl), of_decide_eq_true (g 8 rfl), of_decide_eq_true (g 9 rfl),
    of_decide_eq_true (g 10 rfl), g 11 rfl, of_decide_eq_true (g 12 rfl), of_decide_eq_true (g 13 rfl), of_decide_eq_true (g 14 rfl)⟩
theorem ExB.oex {K : PySem.W.Frag} {C f : Addr} (h : ExB K C f) : OexC K C := ⟨oexB_ok h.o, h.sa, h.exC, h.tyC, h.kC⟩
/-- the def of the __init__ -/
theorem supC_of {P : Program} {K : PySem.W.Frag} {mg : Str → Option Value} {C f : Addr} {x qual : Str} {params : Arguments} {body : List Stmt} {scope : Scope} (X : ExB K C f) (w : fnWS K f = some (x, qual, params, FuncBody.stmts body, scope, mainGlobals, [("__class__" : Str)], builtinsNs))
    (b : supB P.main.file K C f qual = true) (nS : mg "super" = none) : ∃ (cc c : Addr) (fd : FuncData), SupC P K mg C f cc c x qual params body scope fd := by
  unfold fnWS at w
  unfold supB at b
  cases q : K.lookup f with
  | none => rw [q] at b; cases b
  | some o =>
    obtain ⟨oc, od, dt, osl⟩ := o
    rw [q] at w b
    cases dt with
    | func fd =>
      obtain ⟨n1, n2, n3, n4, n5, n6, n7, n8, n9, n10, n11, n12, n13, n14, n15⟩ := fd
      have e2 : (some (n1, n2, n3, n4, n5, n6, n7.map (·.1), n15) : FnWS) = some (x, qual, params, FuncBody.stmts body, scope, mainGlobals, [("__class__" : Str)], builtinsNs) := w
      simp only [Option.some.injEq, Prod.mk.injEq] at e2
      obtain ⟨h1, h2, h3, h4, h5, h6, h7, h8⟩ := e2
      subst h1 h2 h3 h4 h5 h6 h8
      dsimp only at b
      obtain ⟨b3, b4⟩ := Bool.and_eq_true_iff.mp b
      cases n7 with
      | nil => cases b4
      | cons z n7 =>
        cases n7 with
        | cons z2 n7 => cases b4
        | nil =>
          obtain ⟨y, cc⟩ := z
          have ey : y = "__class__" := by simpa using h7
          subst ey
          cases n13 with
          | ref c =>
            obtain ⟨b5, b6⟩ := Bool.and_eq_true_iff.mp b3
            exact ⟨cc, c, _, ⟨⟨n8, n9, n10, n11, n12, n14, rfl⟩, ⟨oc, od, osl, q⟩, b5, codeB_ok b6, cellB_ok b4, X.sup, X.nop, X.sB, X.sC, nS, X.oex⟩⟩
          | _ => cases b3
    | _ => cases b
end Cm
namespace PySem.W
open PySem PySem.Spec PySem.Calls PyProof.Rows
section
variable {prog : Program} {w : World} {A : Around} {E : Value → Shared → Prop} {s : Shared} {K : Frag} {x D : Addr} {ox : Obj}
theorem findObj_dataO {C : Addr} {od : Option Obj} {name : Str} {a g : Value} (hc : (clsIn K C).isSome = true) (ha : findIn K (.ref C) name = some (some a)) (hg : specialIn K a "__get__" = some (some g)) (ht : takesIn K a = some true) : findObj K C od name = some (.bind g a) := by
  obtain ⟨cd, hc⟩ := Option.isSome_iff_exists.mp hc
  unfold findObj
  rw [hc, Option.bind_some, ha, Option.bind_some]
  simp [hg, ht]
theorem kin_classO {od : Option Obj} {Q : Option Value → Shared → Prop} (hga : findIn K (.ref D) "__getattribute__" = some (some (.builtin "BaseException.__getattribute__"))) (hgt : findIn K (.ref D) "__getattr__" = some none) (hsub : subIn K (.ref D) (.type "BaseException") = some true)
    (hdct : hasDictIn K D = true) (ha : findIn K (.ref D) "__class__" = some (some (.builtin "object.__class__")))
    (hn : specialIn K (.builtin "object.__class__") "__get__" = some (some (.builtin "getset_descriptor.__get__"))) (htk : takesIn K (.builtin "object.__class__") = some true) (hm : mroIn K D (.type "object") = some true)
    (X : K.In s.heap) (I : InstAt s.heap x ox D od) (h : Q (some (.ref D)) { s with toks := s.toks + 1 }) : wpAny (model prog w) A (getAttr? (.ref x) "__class__") Q E s := by
  have hf : findObj K D od "__class__" = some (.bind (.builtin "getset_descriptor.__get__") (.builtin "object.__class__")) := findObj_dataO (by obtain ⟨cd, hc, _⟩ := any_some hdct; rw [hc]; rfl) ha hn htk
  obtain ⟨hp, g, d, t, os⟩ := s
  have L0 := I.type (M := model prog w)
  have L1 := looks_findIn (M := model prog w) X hga
  have L2 := looks_findIn (M := model prog w) X hgt
  have L3 := looks_find (M := model prog w) X I hf
  have sub : Looks (model prog w) hp (isInstance (.ref x) (.type "BaseException")) true := L0.andThen (looks_subIn X hsub)
  have hx0 : (false && onTheHeap (Value.builtin "BaseException.__getattribute__")) = false := rfl
  have hx2 : (Value.builtin "BaseException.__getattribute__" == Value.builtin "object.__getattribute__") = false := by decide +kernel
  have hx1 : (onTheHeap (Value.ref D) && Value.builtin "BaseException.__getattribute__" == Value.builtin "object.__getattribute__") = false := by rw [hx2]; rfl
  unfold getAttr? getAttrBy? getAttrBy
  refine wpAny_bind (wpAny_mkText (wpAny_bind (wpAny_attempt (wpAny_holding (wpAny_bind (L0.at (wpAny_bind (L1.at ?_))))))))
  show wpAny _ _ (if (onTheHeap (Value.ref D) && Value.builtin "BaseException.__getattribute__" == Value.builtin "object.__getattribute__") = true then _ else _) _ _ _
  rw [hx1, if_neg Bool.false_ne_true]
  unfold getAttrByItsOwn hookBefore
  refine wpAny_bind ?_
  rw [if_pos (show onTheHeap (Value.ref D) = true from rfl)]
  refine L2.at ?_
  refine wpAny_bind (wpAny_attempt (wpAny_holding ?_))
  unfold callGetattribute
  rw [hx0, if_neg Bool.false_ne_true]
  unfold boundAndCalled
  rw [PySem.F.excAttr_ValueError.ga.bind (.ref x)]
  refine wpAny_bind (wpAny_pure ?_)
  show wpAny _ _ (call (.builtin "BaseException.__getattribute__") [.ref x, .str "__class__" t]) _ _ _
  refine wpAny_call (codeAny_call_builtin PySem.F.excAttr_ValueError.ga.plain PySem.F.entry_bexc_ga ?_)
  refine @check_slot (model prog w) _ _ ⟨hp, g, d, t + 1, os⟩ "BaseException.__getattribute__" "BaseException" "__getattribute__" (.ref x) [.str "__class__" t] [] _ (by decide +kernel) (by decide +kernel) sub (PySem.F.args_bexc_ga (.ref x) (.str "__class__" t)) ?_
  unfold Builtin.«object.__getattribute__»
  refine wpAny_bind (wpAny_of_eq (a := ((Value.ref x : Value), [Value.str "__class__" t])) (by first | rfl | (simp only [slotArgs]; rfl)) ?_)
  refine wpAny_bind (wpAny_pure (wpAny_bind (L0.at (wpAny_bind (L3.at ?_)))))
  show wpAny _ _ (holding [Value.builtin "object.__class__"] (call (.builtin "getset_descriptor.__get__") [.builtin "object.__class__", .ref x, .ref D]) >>= ret) _ _ _
  refine wpAny_bind (wpAny_holding (wpAny_call (class_get (s := ⟨hp, g, d, t + 1, os⟩) (ox := ox) (od := od) X I hm ?_)))
  refine wpAny_pure ?_
  show wpAny _ _ (handedOut (.ref D)) _ _ _
  rw [handedOut_of (v := .ref D) rfl]
  first
    | exact wpAny_pure (wpAny_pure h)
    | exact wpAny_pure h
    | exact wpAny_pure (wpAny_bind (wpAny_pure (wpAny_pure h)))
theorem kitx_excO {od : Option Obj} (hga : findIn K (.ref D) "__getattribute__" = some (some (.builtin "BaseException.__getattribute__"))) (hgt : findIn K (.ref D) "__getattr__" = some none) (hsub : subIn K (.ref D) (.type "BaseException") = some true) (hdct : hasDictIn K D = true) (ha : findIn K (.ref D) "__class__" = some (some (.builtin "object.__class__")))
    (hn : specialIn K (.builtin "object.__class__") "__get__" = some (some (.builtin "getset_descriptor.__get__"))) (htk : takesIn K (.builtin "object.__class__") = some true) (hm : mroIn K D (.type "object") = some true) :
    KitX K (.ref x) (.ref D) (fun h => InstAt h x ox D od) where
  ty := fun _ _ _ I => I.type
  it := fun _ _ X _ => by
    obtain ⟨cdD, hcD, _⟩ := any_some hdct
    unfold clsIn at hcD
    split at hcD
    · rename_i c' d' cd' sl' ho
      intro A' Q' E' s' k q
      unfold isType loadHead
      exact wpAny_bind (wpAny_loadPart (k _ _ (X _ _ ho)) (wpAny_pure q))
    · cases hcD
  ne := fun h tp dd its n sl X htp => by
    obtain ⟨cdD, hcD, _⟩ := any_some hdct
    refine Bool.eq_false_iff.mpr fun q => ?_
    have e : D = tp := Value.ref.inj (beq_iff_eq.mp q)
    subst e
    unfold clsIn at hcD
    split at hcD
    · rename_i c' d' cd' sl' ho
      have z := (X _ _ ho).symm.trans htp
      cases z
    · cases hcD
  ca := fun X I k => kin_classO hga hgt hsub hdct ha hn htk hm X I k
end
end PySem.W
namespace Cm
open PySem PySem.Spec PyProof.Rows
open L2 hiding Same
/-! ### isinstance of a caught error that has fields -/
def rIsF (K : PySem.W.Frag) (D a : Addr) (cls : Value) (d : Option Addr) : List V → Hp → VK → Prop := fun xs H Q => ∃ (c : V) (cv : Value) (b : Bool) (dd : Addr) (fs : List (Str × V)), cls = .ref D ∧ xs = [.ref a, c] ∧ (∀ u, RelV c u → u = cv) ∧ PySem.W.kitOne K (.ref D) cv = some b ∧ d = some dd ∧ H dd = some (.xd fs) ∧ Q (.bl b) H
theorem call_isF {X : Cx} {a D : Addr} {oe : Obj} {cls : Value} {d : Option Addr} {pn : List (Addr × Obj)} (C : ExcC X.K D) (hz : Zc cls d oe) (hf : ∃ vs, oe.data = .fields vs) : CallR (X.suite a ((a, oe) :: pn)) (.builtin "isinstance") (rIsF X.K D a cls d) := by
  intro pins s σ H xs us Q I r h
  obtain ⟨c, cv, b, dd, fs, rfl, rfl, hcv, e, rfl, hd, q⟩ := h
  cases r with
  | cons rx rr =>
    cases rr with
    | cons rt rr =>
      cases rr
      cases rx
      have ec := hcv _ rt
      subst ec
      obtain ⟨hget, _⟩ := I.pin (a, oe) (List.mem_append.mpr (.inl List.mem_cons_self))
      obtain ⟨vs, hv⟩ := hf
      have hx : ObjOk X.prog X.w H s.heap dd (.xd fs) := I.hok dd _ hd
      obtain ⟨mA, hns, _⟩ := hx
      obtain ⟨od, ho, _⟩ := lookIn_ns hns
      have J : PySem.W.InstAt s.heap a oe D (some od) := ⟨hget, hz.1, by unfold PySem.W.notCls; rw [hv] <;> rfl, by rw [hz.2]; exact ho⟩
      exact PySem.W.kia_one (PySem.W.kitx_excO C.hg C.hk C.hs C.hd C.ha C.hn C.ht C.hm) I.kIn J e (fun z => nomatch z) fun tk => ⟨.bl b, H, I.kept (t' := tk) fun _ _ z => z, rfl, q⟩
theorem passes_len {X : Cx} {W : WX} {E : XK} (tk : Takes X W) (hW : ∀ cls d σ H, σ.length = X.N.length → E cls d H → W cls d σ H) : Passes (CX X.prog X.w) X E :=
  fun pins σ H s e s' I c => tk _ _ (XE.of_call I (fun cls d H' h => hW cls d σ H' I.len h) c)
/-! ### a call of a local name that holds a class; of a classmethod without arguments -/
section
variable {X : Cx} {CX : CXT} {k i : Nat} {C f : Addr} {fd : FuncData} {ps : List Str} {sp : Sp} {ds : List Value} {dvs : List V} {E : XK} {x : Str} {e : Expr} {es : List Expr} {p pos : Pos} {t : TA}
def tMakeL (i : Nat) (C : Addr) (sp : Sp) (dvs : List V) (E : XK) (t : TA) : TE := fun σ H Q => σ[i]? = some (some (.ref C)) ∧ tMake C sp dvs E t σ H Q
theorem pe_makeL (M : Mk X.K C f) (F : FnOk X.prog X.w X.K X.mg X.base CX k f fd ps sp) (hr : Room (k + 1) X.A) (hN : X.N[i]? = some x) (hv : Vis X.env.scope x) (hb : Binds X.K fd ps ds) (hd : Vals dvs ds) (hx : Passes CX X E)
    (ha : PA X (e :: es) t) (hdb : (x == ("__debug__" : Str)) = false := by decide) (hcd : (x == ("__classdict__" : Str)) = false := by decide)
    (he : starEach (e :: es) X.env = (false, eval e X.env) :: starEach es X.env := by rfl) (hpl : (backTo pos (starEach es X.env)).any (·.1) = false := by rfl) :
    PE X (.Call (.Name x p) (e :: es) [] pos) (tMakeL i C sp dvs E t) := by
  refine ⟨fun pins s σ H Q I h => ?_⟩
  obtain ⟨hs, ht⟩ := h
  refine wpAny_Call_Name_kw (thn ((pe_var (pos := p) hN hv hdb hcd).run pins s σ H (fun v H1 => v = .ref C ∧ H1 = H) I ⟨.ref C, hs, rfl, rfl⟩) fun u s1 ⟨v, H1, I1, r1, q1⟩ => ?_)
  obtain ⟨rfl, rfl⟩ := q1
  cases r1
  refine PySem.W.callWith_K (h₀ := X.base) I1.ok.mod.kin M.kp (thn (ha.run pos pins s1 σ _ _ I1 ht) fun us s2 ⟨vs, H2, I2, r, q⟩ => ⟨I2.kIn, ?_⟩) he hpl
  exact run_make M F hr hb hd hx I2 r q
end
section
variable {X : Cx} {CX : CXT} {k : Nat} {C p g : Addr} {mc : Value} {sp : Sp} {E : XK} {o : Expr} {m : Str} {pos apos : Pos} {ta : TE} {pl : Sem Bool}
theorem pe_cmeth0 (he : PE X o ta) (r : ClX.CRead X.K C mc) (c : ClX.CMet X.K C mc m p g) (F : FnR X.prog X.w X.K X.mg X.base CX k g sp) (hr : Room k X.A) (hx : Passes CX X E)
    (ht : eval (.Call (.Attribute o m apos) [] [] pos) X.env = (do
      let ov ← eval o X.env
      standAt apos.atName
      let (f, first) ← holding [ov] (getMethod ov m pl)
      callWith pos f first (backTo pos (starEach [] X.env)) (backToKw pos (keywordEach [] X.env))) := by rfl) :
    PE X (.Call (.Attribute o m apos) [] [] pos) (ClX.tCMeth C sp E ta tNil) := by
  refine ⟨fun pins s σ H Q I h => ?_⟩
  refine PySem.W.methodCall_KW (pl := pl) (thn (he.run pins s σ H _ I h) fun u s1 ⟨x, H1, I1, rx, ex, q⟩ => ?_) ht
  subst ex
  obtain rfl : u = Value.ref C := rx
  refine ClX.getmethcm_ok I1 r c fun s2 I2 => ?_
  exact PySem.W.callWith_M0 (first := []) ⟨ClX.pin_at I2, I2.kIn⟩ c.fi (ClX.run_cm (us := []) (vs := []) F hr hx I2 .nil q)
end
end Cm
namespace Cm
open PySem PySem.Spec PyProof.Rows
open L2 hiding Same
/-! ### constants and classmethods of a class -/
def valA (K : PySem.W.Frag) (C : Addr) (mc : Value) (f : Str) : Addr := match PySem.W.findCls K (.ref C) mc f with
  | some (.val (.ref a)) => a
  | _ => 0
def valB (K : PySem.W.Frag) (C : Addr) (mc : Value) (f : Str) : Bool := match PySem.W.findCls K (.ref C) mc f with
  | some (.val (.ref _)) => true
  | _ => false
theorem valB_ok {K : PySem.W.Frag} {C : Addr} {mc : Value} {f : Str} (h : valB K C mc f = true) : ClX.CVal K C mc f (.ref (valA K C mc f)) (.ref (valA K C mc f)) := by
  unfold valB at h
  unfold valA
  split at h
  · rename_i a e
    refine ⟨?_, rfl⟩
    rw [e]
  · cases h
def cmP (K : PySem.W.Frag) (C : Addr) (mc : Value) (m : Str) : Addr := match PySem.W.findCls K (.ref C) mc m with
  | some (.get _ (.ref p) _ _) => p
  | _ => 0
def cmG (K : PySem.W.Frag) (C : Addr) (mc : Value) (m : Str) : Addr := match PySem.W.recIn K (cmP K C mc m) "classmethod" with
  | some (.ref g :: _) => g
  | _ => 0
def cmB (K : PySem.W.Frag) (C : Addr) (mc : Value) (m : Str) : Bool := (match PySem.W.findCls K (.ref C) mc m with
  | some (.get (.builtin b) (.ref _) .none (.ref D)) => b == "classmethod.__get__" && D == C
  | _ => false) && ((match PySem.W.recIn K (cmP K C mc m) "classmethod" with
  | some (.ref _ :: _) => true
  | _ => false) && PySem.W.fnIn K (cmG K C mc m))
theorem cmB_ok {K : PySem.W.Frag} {C : Addr} {mc : Value} {m : Str} (h : cmB K C mc m = true) : ClX.CMet K C mc m (cmP K C mc m) (cmG K C mc m) := by
  unfold cmB at h
  obtain ⟨h1, h⟩ := Bool.and_eq_true_iff.mp h
  obtain ⟨h2, h3⟩ := Bool.and_eq_true_iff.mp h
  refine ⟨?_, ?_, h3⟩
  · unfold cmP
    split at h1
    · rename_i b p D e
      obtain ⟨e1, e2⟩ := Bool.and_eq_true_iff.mp h1
      have e1 := beq_iff_eq.mp e1
      have e2 := beq_iff_eq.mp e2
      subst e1 e2
      rw [e]
    · cases h1
  · unfold cmG
    split at h2
    · rename_i g r e
      rw [e]
      exact ⟨r, rfl⟩
    · cases h2
/-- a tuple of texts -/
def tsB (K : PySem.W.Frag) (a : Addr) (ts : List Str) : Bool := match K.lookup a with
  | some ⟨.type c, _, .seq its _, _⟩ => c == "tuple" && (decide (its.size ≤ sizeLine) && He.relAll (ts.map V.str) its.toList)
  | _ => false
theorem tsB_ok {K : PySem.W.Frag} {a : Addr} {ts : List Str} (h : tsB K a ts = true) (H : Hp) : SqT K H a (ts.map V.str) := by
  unfold tsB at h
  split at h
  · rename_i c d its n sl e
    obtain ⟨h1, h⟩ := Bool.and_eq_true_iff.mp h
    obtain ⟨h2, h3⟩ := Bool.and_eq_true_iff.mp h
    exact .inr ⟨_, its, n, e, congrArg Value.type (beq_iff_eq.mp h1), rfl, of_decide_eq_true h2, He.relAll_ok h3⟩
  · cases h
/-! ### def of(cls, *names) -/
def starB (K : PySem.W.Frag) (f : Addr) (qual : Str) : Bool := match K.lookup f with
  | some ⟨_, _, .func fd, _⟩ => PySem.W.codeIn K fd.code qual && fd.defaults == .none
  | _ => false
theorem star_of {K : PySem.W.Frag} {f : Addr} {x qual : Str} {params : Arguments} {body : List Stmt} {scope : Scope} (w : fnWS K f = some (x, qual, params, FuncBody.stmts body, scope, mainGlobals, [], builtinsNs)) (b : starB K f qual = true) :
    ∃ (oc : Value) (od : Option Addr) (kV doc pm : Value) (an : Option Addr) (cdv ct : Value) (osl : Array (Option Value)), K.lookup f = some ⟨oc, od, .func (PySem.W.fnOf x qual params body scope .none kV doc pm an cdv ct), osl⟩ ∧ PySem.W.codeIn K cdv qual = true := by
  unfold fnWS at w
  unfold starB at b
  cases q : K.lookup f with
  | none => rw [q] at b; cases b
  | some o =>
    obtain ⟨oc, od, dt, osl⟩ := o
    rw [q] at w b
    cases dt with
    | func fd =>
      obtain ⟨n1, n2, n3, n4, n5, n6, n7, n8, n9, n10, n11, n12, n13, n14, n15⟩ := fd
      have e2 : (some (n1, n2, n3, n4, n5, n6, n7.map (·.1), n15) : FnWS) = some (x, qual, params, FuncBody.stmts body, scope, mainGlobals, [], builtinsNs) := w
      simp only [Option.some.injEq, Prod.mk.injEq] at e2
      obtain ⟨h1, h2, h3, h4, h5, h6, h7, h8⟩ := e2
      subst h1 h2 h3 h4 h5 h6 h8
      dsimp only at b
      obtain ⟨b3, b4⟩ := Bool.and_eq_true_iff.mp b
      have b5 := beq_iff_eq.mp b4
      subst b5
      cases n7 with
      | nil => exact ⟨oc, od, n9, n10, n11, n12, n13, n14, osl, rfl, b3⟩
      | cons z n7 => cases h7
    | _ => cases b
def dfN (K : PySem.W.Frag) (f : Addr) : Bool := match K.lookup f with
  | some ⟨_, _, .func fd, _⟩ => fd.defaults == .none
  | _ => false
theorem dfN_ok {K : PySem.W.Frag} {f : Addr} {oc : Value} {od : Option Addr} {fd : FuncData} {osl : Array (Option Value)} (lk : K.lookup f = some ⟨oc, od, .func fd, osl⟩) (h : dfN K f = true) : fd.defaults = .none := by
  unfold dfN at h
  rw [lk] at h
  exact beq_iff_eq.mp h
/-! ### x not in t, of any depth -/
def rNotInT (K : PySem.W.Frag) : R2 := fun x y H Q => ∃ d ds, Dp K H x d ∧ Dp K H y (.tuple ds) ∧ SeqAt.shaped d = true ∧ SeqAt.shaped (.tuple ds) = true ∧ Q (.bl (!ds.any fun z => PyData.eqv z d)) H
theorem op_notInT {X : Cx} (hu : X.A.units + 65 < cLine) : OpR X (compareOp .NotIn) (rNotInT X.K) := by
  intro pins s σ H x y v u Q I rx ry h
  obtain ⟨d, ds, hd, he, sd, se, q⟩ := h
  obtain ⟨as, r1⟩ := Dp.reads I d x v hd rx
  obtain ⟨bs, r2⟩ := Dp.reads I (.tuple ds) y u he ry
  exact SeqAt.notIn_tuple_reads r2 r1 (SeqAt.canLay_of_shaped se) (SeqAt.canLay_of_shaped sd) (room_in_shaped sd hu) ⟨.bl _, H, I, rfl, q⟩
end Cm
namespace Cm
open PySem PySem.Spec PyProof.Rows L2 PySem.W
/-! ### max(ints, default=d) -/
theorem alike_ints (ns : List Int) : AlikeAll (ns.map PyData.int) := by
  constructor
  · intro x hx y hy
    obtain ⟨i, _, rfl⟩ := List.mem_map.mp hx
    obtain ⟨j, _, rfl⟩ := List.mem_map.mp hy
    rfl
  · intro x hx e
    obtain ⟨i, _, rfl⟩ := List.mem_map.mp hx
    cases e
theorem depth_ints : ∀ ns : List Int, PyData.depthAll (ns.map PyData.int) = 0
  | [] => rfl
  | n :: ns => by
    show max (PyData.depth (.int n)) (PyData.depthAll (ns.map PyData.int)) = 0
    rw [depth_ints ns]; rfl
theorem dpAll_ints {K : PySem.W.Frag} {H : Hp} : ∀ ns : List Int, DpAll K H (ns.map V.int) (ns.map PyData.int)
  | [] => .nil
  | n :: ns => .cons (.int n) (dpAll_ints ns)
theorem foldmax (n : Int) : ∀ ns : List Int, ns.foldl max n ∈ n :: ns ∧ ∀ k ∈ n :: ns, k ≤ ns.foldl max n
  | [] => ⟨List.mem_cons_self, fun k hk => by simp at hk; subst hk; exact Int.le_refl _⟩
  | m :: ns => by
    obtain ⟨h1, h2⟩ := foldmax (max n m) ns
    refine ⟨?_, fun k hk => ?_⟩
    · rcases List.mem_cons.mp h1 with e | e
      · rw [List.foldl_cons, e]
        by_cases c : n ≤ m
        · rw [show max n m = m from by omega]; simp
        · rw [show max n m = n from by omega]; simp
      · rw [List.foldl_cons]; exact List.mem_cons_of_mem _ (List.mem_cons_of_mem _ e)
    · rw [List.foldl_cons]
      have h3 := h2 (max n m) List.mem_cons_self
      rcases List.mem_cons.mp hk with e | e
      · omega
      · rcases List.mem_cons.mp e with e | e
        · omega
        · exact h2 k (List.mem_cons_of_mem _ e)
section
variable {X : Cx}
theorem call_maxD (hc : X.calm = true) (hu : X.A.units + 64 < cLine) : CallRK X (.builtin "max") [Str.ofString "default"] (fun vs zs H Q => ∃ (a : Addr) (ns : List Int) (d : V), vs = [V.ref a] ∧ zs = [d] ∧ SqL X.K H a (ns.map V.int) ∧
    (ns = [] → Q d H) ∧ ∀ m, m ∈ ns → (∀ n ∈ ns, n ≤ m) → Q (.int m) H) := by
  intro pins s σ H vs zs us ws Q I r rz h
  obtain ⟨a, ns, d, rfl, rfl, hs, q0, q1⟩ := h
  obtain ⟨u, rfl, e⟩ := vals1 r
  cases (show u = Value.ref a from e)
  obtain ⟨w1, rfl, e1⟩ := vals1 rz
  obtain ⟨its, rv, hl, hz⟩ := I.list hs
  obtain ⟨as, hr⟩ := Dp.readsAll I (ns.map PyData.int) _ its (dpAll_ints ns) rv
  refine max_list_default (vs := its.toArray) (I.ok.hd hc) hl.isList (by simpa using hr) (alike_ints ns) (by rw [depth_ints]; omega) (fun e h' tk k => ?_) (fun y ys i v h' tk bs e hi rd k => ?_)
  · exact ⟨d, H, I.kept k, e1, q0 (by simpa using e)⟩
  · cases ns with
    | nil => cases e
    | cons n ns =>
      obtain ⟨rfl, rfl⟩ : PyData.int n = y ∧ ns.map PyData.int = ys := by simpa using e
      rw [maxD_ints] at rd
      obtain ⟨m1, m2⟩ := foldmax n ns
      cases rd with
      | int _ t => exact ⟨.int (ns.foldl max n), H, I.kept k, ⟨t, rfl⟩, q1 _ m1 m2⟩
end
/-! ### heaps -/
def Same (H H' : Hp) : Prop := ∀ a o, H a = some o → H' a = some o
theorem Same.refl (H : Hp) : Same H H := fun _ _ h => h
theorem Same.trans {H H1 H2 : Hp} (a : Same H H1) (b : Same H1 H2) : Same H H2 := fun c o h => b c o (a c o h)
theorem Same.new {H : Hp} {p : Addr} {o : HO} (h : H p = none) : Same H (upd H p o) := fun c u e => by rw [upd_ne (ne_of_none e h)]; exact e
theorem Same.mut {H H' : Hp} {p : Addr} {o : HO} (s : Same H H') (h : H p = none) : Same H (upd H' p o) := fun c u e => by rw [upd_ne (ne_of_none e h)]; exact s c u e
theorem Same.free {H H' : Hp} {p : Addr} (s : Same H H') (h : H' p = none) : H p = none := by
  cases e : H p with
  | none => rfl
  | some o => rw [s _ _ e] at h; cases h
theorem Same.kp {H H' : Hp} {p : Addr} (s : Same H H') : Kp p H H' := fun a o _ h => s a o h
theorem Same.sl {K : PySem.W.Frag} {a : Addr} {H H' : Hp} {xs : List V} (k : Same H H') (h : SqL K H a xs) : SqL K H' a xs :=
  h.elim (fun h => .inl (h.elim (fun h => .inl (k _ _ h)) fun ⟨o, h⟩ => .inr ⟨o, k _ _ h⟩)) .inr
theorem kmut {H H' : Hp} {p q : Addr} {o : HO} (s : Kp p H H') (h : H q = none) : Kp p H (upd H' q o) := fun c u n e => by rw [upd_ne (ne_of_none e h)]; exact s c u n e
theorem kfree {H H' : Hp} {p q : Addr} (s : Kp p H H') (n : q ≠ p) (h : H' q = none) : H q = none := by
  cases e : H q with
  | none => rfl
  | some o => rw [s _ _ n e] at h; cases h
def IntOk (i : Int) : Prop := i.natAbs ≤ 4000000000
theorem io {m : Int} (h : m.natAbs ≤ 4000000000) : IntOk m := h
/-! ### the pool -/
def PoolAt (K : PySem.W.Frag) (sa : Addr) (sx : List Int) (H : Hp) (p : Addr) : Prop :=
  ∃ (i b s : Int), H p = some (.lst [V.ref sa, V.int i, V.int b, V.int s]) ∧ (sa ≠ p ∨ ∀ H', SqL K H' sa (sx.map V.int)) ∧ SqL K H sa (sx.map V.int) ∧ 0 ≤ i ∧ 0 ≤ b ∧ 0 ≤ s ∧ s < 2147483647
section
variable {K : PySem.W.Frag} {sa : Addr} {sx : List Int}
theorem pool_new {H : Hp} {p q : Addr} {o : HO} (hP : PoolAt K sa sx H p) (hq : H q = none) : PoolAt K sa sx (upd H q o) p := by
  obtain ⟨i, b, s, hp, na, hS, r⟩ := hP
  refine ⟨i, b, s, ?_, na, ?_, r⟩
  · rw [upd_ne (ne_of_none hp hq)]; exact hp
  · exact na.elim (fun n => Kp.sl (p := p) (Kp.refl.new hq) n hS) (fun z => z _)
theorem pool_ne {H : Hp} {p q : Addr} (hP : PoolAt K sa sx H p) (hq : H q = none) : q ≠ p := by
  obtain ⟨i, b, s, hp, _⟩ := hP
  exact (ne_of_none hp hq).symm
theorem sq_new {H : Hp} {a q : Addr} {xs : List V} (h : SqL K H a xs) (hq : H q = none) : a ≠ q ∨ ∀ H', SqL K H' a xs :=
  h.elim (fun r => .inl (r.elim (fun e => ne_of_none e hq) fun ⟨o, e⟩ => ne_of_none e hq)) fun r => .inr fun H' => .inr r
theorem pool_fresh {H : Hp} {p q : Addr} (hP : PoolAt K sa sx H p) (hq : H q = none) : sa ≠ q ∨ ∀ H', SqL K H' sa (sx.map V.int) := by
  obtain ⟨_, _, _, _, _, hS, _⟩ := hP
  exact sq_new hS hq
theorem pool_upd {H : Hp} {p D : Addr} {o : HO} (hP : PoolAt K sa sx H p) (nD : D ≠ p) (hd : sa ≠ D ∨ ∀ H', SqL K H' sa (sx.map V.int)) : PoolAt K sa sx (upd H D o) p := by
  obtain ⟨i, b, s, hp, na, hS, r⟩ := hP
  refine ⟨i, b, s, (upd_ne nD.symm).trans hp, na, ?_, r⟩
  rcases hd with n | z
  · refine hS.elim (fun q => .inl ?_) .inr
    exact q.elim (fun e => .inl ((upd_ne n).trans e)) fun ⟨o', e⟩ => .inr ⟨o', (upd_ne n).trans e⟩
  · exact z _
theorem pool_same {H H' : Hp} {p : Addr} (hP : PoolAt K sa sx H p) (s : Same H H') : PoolAt K sa sx H' p := by
  obtain ⟨i, b, s', hp, na, hS, r⟩ := hP
  exact ⟨i, b, s', s _ _ hp, na, s.sl hS, r⟩
/-- a list of ints is not the pool -/
theorem pool_int {H : Hp} {p a : Addr} {ns : List Int} (hP : PoolAt K sa sx H p) (ha : H a = some (.lst (ns.map V.int))) : a ≠ p := by
  rintro rfl
  obtain ⟨i, b, s, hp, _⟩ := hP
  rw [ha] at hp
  cases ns with
  | nil => cases hp
  | cons n ns => cases hp
theorem pool_tup {H : Hp} {p a : Addr} {xs : List V} (hP : PoolAt K sa sx H p) (ha : H a = some (.tup xs)) : a ≠ p := by
  rintro rfl
  obtain ⟨i, b, s, hp, _⟩ := hP
  rw [ha] at hp
  cases hp
theorem wd {m : Int} (h0 : 0 < m) (h : IntOk m) : CDivW 0 m := wide_div h0 (b := 40) (Nat.lt_of_le_of_lt h (by decide)) (by decide) (by decide)
end
/-! ### ints in lists -/
theorem at_int {ns : List Int} {i : Nat} (h : i < ns.length) : atI (ns.map V.int) ((i : Nat) : Int) = some (.int ns[i]) := atI_nat (by rw [List.getElem?_map, List.getElem?_eq_getElem h]; rfl)
theorem at_int' {ns : List Int} {k : Int} (h0 : 0 ≤ k) (h : k.toNat < ns.length) : atI (ns.map V.int) k = some (.int ns[k.toNat]) := by
  have e : k = ((k.toNat : Nat) : Int) := by omega
  exact (congrArg (atI (ns.map V.int)) e).trans (at_int h)
theorem map_at {ns : List Int} {i : Nat} {x : V} (h : (ns.map V.int)[i]? = some x) : ∃ hi : i < ns.length, x = .int ns[i] := by
  rw [List.getElem?_map] at h
  cases e : ns[i]? with
  | none => rw [e] at h; cases h
  | some n =>
    rw [e] at h
    obtain ⟨hi, e2⟩ := List.getElem?_eq_some_iff.mp e
    exact ⟨hi, by rw [e2]; exact (Option.some.inj h).symm⟩
theorem flat_ints (ns : List Int) : (ns.map V.int).all flatV = true := by
  rw [List.all_eq_true]
  intro x hx
  obtain ⟨i, _, rfl⟩ := List.mem_map.mp hx
  rfl
theorem inV_ints (n : Int) (ns : List Int) : inV (.int n) (ns.map V.int) = decide (n ∈ ns) := by
  unfold inV
  rw [List.any_map]
  apply Bool.eq_iff_iff.mpr
  rw [List.any_eq_true, decide_eq_true_iff]
  exact ⟨fun ⟨x, hx, e⟩ => by have e2 : x = n := by simpa [eqV] using e
                              subst e2; exact hx, fun h => ⟨n, h, by simp [eqV]⟩⟩
theorem tru_ints {K : PySem.W.Frag} {H : Hp} {a : Addr} {ns : List Int} (h : H a = some (.lst (ns.map V.int))) : TruV K (.ref a) H (!ns.isEmpty) :=
  .inl ⟨_, SqL.of h, by cases ns <;> rfl⟩
/-- a test by a list's truth -/
theorem lC {ns : List Int} {A B : Prop} (hT : ns ≠ [] → A) (hF : ns = [] → B) : if (!ns.isEmpty) = true then A else B := by
  cases ns with
  | nil => exact iteF (hF rfl)
  | cons n ns => exact iteT (hT (by simp))
end Cm
namespace Cm
open PySem PySem.Spec PyProof.Rows
open L2 hiding Same
theorem u65 {k : Nat} {A : Around} (r : Room k A) : A.units + 65 < cLine := by have := r.un; omega
theorem pe_cal0 {X : Cx} {j k : Nat} {x : Str} {sp : Sp} {p pos : Pos} (c : Cal X.prog X.w X.K X.mg X.base k x sp) (hr : Room j X.A) (hk : k ≤ j) (hg : Gl X x := by rfl) (hd : (x == ("__debug__" : Str)) = false := by decide) :
    PE X (.Call (.Name x p) [] [] pos) (tCall sp [] E0 tNil) := by
  obtain ⟨f, fd, ps, F, b, g, kp⟩ := c
  exact pe_call0 F (hr.mono hk) hg g kp b .nil pass0 hd
/-! ### a walk over a list or a tuple -/
theorem PI.or2 {X : Cx} {tg iter : Expr} {t1 t2 : TI} (h1 : PI X tg iter t1) (h2 : PI X tg iter t2) : PI X tg iter (fun σ H R => t1 σ H R ∨ t2 σ H R) :=
  ⟨fun pins s σ H R I h => h.elim (h1.run pins s σ H R I) (h2.run pins s σ H R I)⟩
def iSeq (K : PySem.W.Frag) (tl : TE) : TI := fun σ H R => iList K tl σ H R ∨ iTup K tl σ H R
theorem pi_seq {X : Cx} {tg l : Expr} {tl : TE} (hl : PE X l tl) : PI X tg l (iSeq X.K tl) := PI.or2 (pi_list hl) (pi_tup hl)
def Sq (K : PySem.W.Frag) (H : Hp) (a : Addr) (xs : List V) : Prop := SqL K H a xs ∨ SqT K H a xs
theorem for_seq {K : PySem.W.Frag} {a : Addr} {xs : List V} {g : TG} {tb : TS} {tl : TE} {D : Ends} {σ : L2.St} {H : Hp} (e : ∀ Q : VK, Q (.ref a) H → tl σ H Q) (hn : Sq K H a xs) (Pv : Nat → L2.St → Hp → Prop) (h0 : Pv 0 σ H)
    (hl : ∀ i σ H', i ≤ xs.length → Pv i σ H' → (SqL K H a xs → SqL K H' a xs) ∧ (SqT K H a xs → SqT K H' a xs))
    (hs : ∀ i x σ H, xs[i]? = some x → Pv i σ H → g x σ H fun σ2 H2 => tb { D with nx := Pv (i + 1), ct := Pv (i + 1), bk := D.nx } σ2 H2) (hd : ∀ σ H, Pv xs.length σ H → D.nx σ H) : tFor (iSeq K tl) g tb D σ H := by
  rcases hn with hn | hn
  · exact .inl (e _ ⟨a, rfl, ⟨xs, hn⟩, for_list Pv h0 (fun i σ H' hi p => (hl i σ H' hi p).1 hn) hs hd⟩)
  · exact .inr (e _ ⟨a, rfl, ⟨xs, hn⟩, for_tup Pv h0 (fun i σ H' hi p => (hl i σ H' hi p).2 hn) hs hd⟩)
theorem Same.st {K : PySem.W.Frag} {a : Addr} {H H' : Hp} {xs : List V} (k : Same H H') (h : SqT K H a xs) : SqT K H' a xs :=
  h.elim (fun h => .inl (h.elim (fun h => .inl (k _ _ h)) fun ⟨o, h⟩ => .inr ⟨o, k _ _ h⟩)) .inr
theorem Sq.same {K : PySem.W.Frag} {a : Addr} {H H' : Hp} {xs : List V} (h : Sq K H a xs) (k : Same H H') : Sq K H' a xs := h.elim (fun h => .inl (k.sl h)) fun h => .inr (k.st h)
/-! ### texts in lists -/
theorem flat_strs (ts : List Str) : (ts.map V.str).all flatV = true := by
  rw [List.all_eq_true]
  intro x hx
  obtain ⟨i, _, rfl⟩ := List.mem_map.mp hx
  rfl
theorem inV_strs (n : Str) (ts : List Str) : inV (.str n) (ts.map V.str) = decide (n ∈ ts) := by
  unfold inV
  rw [List.any_map]
  apply Bool.eq_iff_iff.mpr
  rw [List.any_eq_true, decide_eq_true_iff]
  exact ⟨fun ⟨x, hx, e⟩ => by have e2 : x = n := by simpa [eqV] using e
                              subst e2; exact hx, fun h => ⟨n, h, by simp [eqV]⟩⟩
theorem strs_at {ts : List Str} {i : Nat} {x : V} (h : (ts.map V.str)[i]? = some x) : ∃ hi : i < ts.length, x = .str ts[i] := by
  rw [List.getElem?_map] at h
  cases e : ts[i]? with
  | none => rw [e] at h; cases h
  | some n =>
    rw [e] at h
    obtain ⟨hi, e2⟩ := List.getElem?_eq_some_iff.mp e
    exact ⟨hi, by rw [e2]; exact (Option.some.inj h).symm⟩
theorem take_filter {ts : List Str} {p : Str → Bool} {i : Nat} (hi : i < ts.length) : (ts.take (i + 1)).filter p = if p ts[i] = true then (ts.take i).filter p ++ [ts[i]] else (ts.take i).filter p := by
  rw [List.take_add_one, List.getElem?_eq_getElem hi]
  show ((ts.take i) ++ [ts[i]]).filter p = _
  rw [List.filter_append]
  by_cases h : p ts[i] = true
  · rw [if_pos h, List.filter_cons_of_pos h, List.filter_nil]
  · rw [if_neg h, List.filter_cons_of_neg h, List.filter_nil, List.append_nil]
theorem filt_len {ts : List Str} {p : Str → Bool} {i n : Nat} (h : ts.length ≤ n) : ((ts.take i).filter p).length ≤ n := by
  have := List.length_filter_le p (ts.take i)
  have := List.length_take_le' i ts
  omega
theorem dp_strs {K : PySem.W.Frag} {H : Hp} : ∀ ts : List Str, DpAll K H (ts.map V.str) (ts.map PyData.str)
  | [] => .nil
  | n :: ns => .cons (.str n) (dp_strs ns)
theorem shp_strAll : ∀ ts : List Str, (∀ z ∈ ts, PyData.strOk z = true) → PyData.canLayAll0 (ts.map PyData.str) = true ∧ PyData.depthAll (ts.map PyData.str) = 0
  | [], _ => ⟨rfl, rfl⟩
  | n :: ns, hk => by
    obtain ⟨h1, h2⟩ := shp_strAll ns fun z hz => hk z (List.mem_cons_of_mem _ hz)
    exact ⟨by show (PyData.canLay0 (.str n) && PyData.canLayAll0 (ns.map PyData.str)) = true; rw [h1]; simp [PyData.canLay0, hk n List.mem_cons_self], by show max (PyData.depth (.str n)) (PyData.depthAll (ns.map PyData.str)) = 0; rw [h2]; rfl⟩
theorem shp_str {z : Str} (h : PyData.strOk z = true) : SeqAt.shaped (.str z) = true := by
  show ((PyData.str z).canLay0 && decide ((PyData.str z).depth ≤ 64)) = true
  simp [PyData.canLay0, PyData.depth, h]
theorem shp_strs {ts : List Str} (hk : ∀ z ∈ ts, PyData.strOk z = true) : SeqAt.shaped (.list (ts.map PyData.str)) = true := by
  obtain ⟨h1, h2⟩ := shp_strAll ts hk
  show ((PyData.list (ts.map PyData.str)).canLay0 && decide ((PyData.list (ts.map PyData.str)).depth ≤ 64)) = true
  simp only [PyData.canLay0, PyData.depth, h1, h2, Bool.true_and, decide_eq_true_eq]
  omega
theorem shp_strsT {ts : List Str} (hk : ∀ z ∈ ts, PyData.strOk z = true) : SeqAt.shaped (.tuple (ts.map PyData.str)) = true := by
  obtain ⟨h1, h2⟩ := shp_strAll ts hk
  show ((PyData.tuple (ts.map PyData.str)).canLay0 && decide ((PyData.tuple (ts.map PyData.str)).depth ≤ 64)) = true
  simp only [PyData.canLay0, PyData.depth, h1, h2, Bool.true_and, decide_eq_true_eq]
  omega
theorem eqvA_strs : ∀ xs ys : List Str, PyData.eqvAll (xs.map PyData.str) (ys.map PyData.str) = decide (xs = ys)
  | [], [] => by simp [PyData.eqvAll]
  | [], y :: ys => by simp [PyData.eqvAll]
  | x :: xs, [] => by simp [PyData.eqvAll]
  | x :: xs, y :: ys => by
    have h := eqvA_strs xs ys
    show (PyData.eqv (.str x) (.str y) && PyData.eqvAll (xs.map PyData.str) (ys.map PyData.str)) = _
    rw [h]
    have e : PyData.eqv (.str x) (.str y) = decide (x = y) := by
      simp only [PyData.eqv]
      by_cases h : x = y <;> simp [h]
    rw [e]
    by_cases h1 : x = y <;> by_cases h2 : xs = ys <;> simp [h1, h2]
theorem eqv_strs (xs ys : List Str) : PyData.eqv (.list (xs.map PyData.str)) (.list (ys.map PyData.str)) = decide (xs = ys) := by
  simp only [PyData.eqv]; exact eqvA_strs xs ys
theorem eqv_strsT (xs ys : List Str) : PyData.eqv (.tuple (xs.map PyData.str)) (.tuple (ys.map PyData.str)) = decide (xs = ys) := by
  simp only [PyData.eqv]; exact eqvA_strs xs ys
theorem any_strs (n : Str) (ts : List Str) : ((ts.map PyData.str).any fun z => PyData.eqv z (.str n)) = decide (n ∈ ts) := by
  rw [List.any_map]
  apply Bool.eq_iff_iff.mpr
  rw [List.any_eq_true, decide_eq_true_iff]
  have e : ∀ x, PyData.eqv (.str x) (.str n) = decide (x = n) := fun x => by
    simp only [PyData.eqv]
    by_cases h : x = n <;> simp [h]
  exact ⟨fun ⟨x, hx, q⟩ => by
    have q2 : x = n := by
      have := q
      simp only [Function.comp, e, decide_eq_true_eq] at this
      exact this
    subst q2; exact hx, fun h => ⟨n, h, by simp only [Function.comp, e, decide_true]⟩⟩
end Cm
namespace Cm
open PySem PySem.Spec PyProof.Rows
open L2 hiding Same
section
variable {X : Cx} {j k : Nat} {m : Str} {C : Addr} {sp : Sp} {e o : Expr} {es : List Expr} {pos apos : Pos} {t : TA} {ta : TE}
theorem pe_mcalA {pl : Sem Bool} (c : MCal X.prog X.w X.K X.mg X.base k C m sp) (hr : Room j X.A) (hk : k ≤ j) (ho : PE X o ta) (ha : PA X (e :: es) t)
    (hst : starEach (e :: es) X.env = (false, eval e X.env) :: starEach es X.env := by rfl) (hpl : (backTo pos (starEach es X.env)).any (·.1) = false := by rfl)
    (ht : eval (.Call (.Attribute o m apos) (e :: es) [] pos) X.env = (do
      let ov ← eval o X.env
      standAt apos.atName
      let (f, first) ← holding [ov] (getMethod ov m pl)
      callWith pos f first (backTo pos (starEach (e :: es) X.env)) (backToKw pos (keywordEach [] X.env))) := by rfl) : PE X (.Call (.Attribute o m apos) (e :: es) [] pos) (tMeth C m sp [] E0 ta t) := by
  obtain ⟨cl, f, fd, ps, F, b, M⟩ := c
  exact pe_meth (pl := pl) ho cl M F (hr.mono hk) b .nil pass0 ha hst hpl ht
/-- x == t, by x's own __eq__, t a tuple -/
def rOwnGT (P : Program) (w : World) (K : PySem.W.Frag) (mg : Str → Option Value) (base : Heap) (k : Nat) : R2 := fun x y H Q =>
  ∃ a C dx fs sp t xs, x = .ref a ∧ y = .ref t ∧ H a = some (.ins C dx fs) ∧ SqT K H t xs ∧ MCal P w K mg base k C "__eq__" sp ∧ PySem.W.notFirst K C (.type "tuple") = true ∧ sp [x, y] H Q E0
theorem op_ownGT (hr : Room j X.A) (hk : k ≤ j) : OpR X (compareOp .Eq) (rOwnGT X.prog X.w X.K X.mg X.base k) := by
  intro pins s σ H x y v u Q I rx ry h
  obtain ⟨a, C, dx, fs, sp, t, xs, ex, ey, ha, ht, ⟨c, f, fd, ps, F, b, M⟩, hn, q⟩ := h
  subst ex ey
  cases (show v = Value.ref a from rx)
  cases (show u = Value.ref t from ry)
  obtain ⟨mA, O, _⟩ := ins_get I.hok ha
  obtain ⟨od, J, _⟩ := O.look
  obtain ⟨mm, hF⟩ := I.fr
  obtain ⟨its, rv, ⟨o, ho, hc, _⟩, _⟩ := I.tuple ht
  have hb : PySem.W.Looks (model X.prog X.w) s.heap (typeOf (.ref t)) (.type "tuple") := by
    have z := (PySem.W.Looks.ld (M := model X.prog X.w) (part := none) ho)
    intro A Q E s k q
    exact wpAny_typeOf_ref (k _ _ ho) (by rw [hc]; exact q)
  show wpAny _ X.A (richCompare .Eq (.ref a) (.ref t)) _ _ s
  refine PySem.W.cmp_K (op := .Eq) hr.units0 hF I.ok.mod.kin J hb hn M.at_ M.fn ?_
  refine wpAny_mono (run_fn (us := [.ref a, .ref t]) (vs := [.ref a, .ref t]) F (hr.mono hk) b .nil pass0 I (.cons rfl (.cons rfl .nil)) q) ?_ fun _ _ z => z
  rintro r s' ⟨z, H', I', rz, qz⟩
  exact SlX.cmpback rz ⟨z, H', I', rz, qz⟩
end
theorem cutT (xs : List V) (c : Nat) : cutV xs none (some (c : Int)) = xs.take c := by
  unfold cutV
  rw [HT.sIx_none, HT.sIx_nat, List.drop_zero, Nat.sub_zero]
  by_cases h : c ≤ xs.length
  · rw [Nat.min_eq_left h]
  · rw [Nat.min_eq_right (by omega), List.take_length, List.take_of_length_le (by omega)]
theorem cutD (xs : List V) (c : Nat) : cutV xs (some (c : Int)) none = xs.drop c := by
  unfold cutV
  rw [HT.sIx_none, HT.sIx_nat]
  by_cases h : c ≤ xs.length
  · rw [Nat.min_eq_left h, List.take_of_length_le (by rw [List.length_drop]; omega)]
  · rw [Nat.min_eq_right (by omega), Nat.sub_self, List.take_zero, List.drop_of_length_le (by omega)]
end Cm
namespace K87
open PySem PySem.Spec PyProof.Rows Cm
open L2 hiding Same
def top (i : Nat) : Stmt := PySem.Challenge.pw_quietedition_k87_sets_of_manners.main.body.getD i (.Pass ⟨0, 0, 0, 0⟩)
abbrev s_copied : Stmt := top 1
theorem sc_copied : FnScope ["thing", "part"] ["thing"] (defScope s_copied) := ⟨rfl, rfl, rfl, by decide +kernel, rfl, by decide +kernel, by decide +kernel⟩
abbrev s_Manners_init : Stmt := inClass (top 5) 1
theorem sc_Manners_init : FnScope ["self", "names", "name"] ["self", "names"] (defScope s_Manners_init) := ⟨rfl, rfl, rfl, by decide +kernel, rfl, by decide +kernel, by decide +kernel⟩
abbrev s_Manners_is_part_of : Stmt := inClass (top 5) 3
theorem sc_Manners_is_part_of : FnScope ["self", "other", "name"] ["self", "other"] (defScope s_Manners_is_part_of) := ⟨rfl, rfl, rfl, by decide +kernel, rfl, by decide +kernel, by decide +kernel⟩
abbrev s_Manners_or : Stmt := inClass (top 5) 4
theorem sc_Manners_or : FnScope ["self", "other"] ["self", "other"] (defScope s_Manners_or) := ⟨rfl, rfl, rfl, by decide +kernel, rfl, by decide +kernel, by decide +kernel⟩
abbrev s_Manners_and : Stmt := inClass (top 5) 5
theorem sc_Manners_and : FnScope ["self", "other", "name"] ["self", "other"] (defScope s_Manners_and) := ⟨rfl, rfl, rfl, by decide +kernel, rfl, by decide +kernel, by decide +kernel⟩
abbrev s_Manners_sub : Stmt := inClass (top 5) 6
theorem sc_Manners_sub : FnScope ["self", "other", "name"] ["self", "other"] (defScope s_Manners_sub) := ⟨rfl, rfl, rfl, by decide +kernel, rfl, by decide +kernel, by decide +kernel⟩
abbrev s_Manners_eq : Stmt := inClass (top 5) 7
theorem sc_Manners_eq : FnScope ["self", "other"] ["self", "other"] (defScope s_Manners_eq) := ⟨rfl, rfl, rfl, by decide +kernel, rfl, by decide +kernel, by decide +kernel⟩
abbrev s_Manners_contains : Stmt := inClass (top 5) 8
theorem sc_Manners_contains : FnScope ["self", "name"] ["self", "name"] (defScope s_Manners_contains) := ⟨rfl, rfl, rfl, by decide +kernel, rfl, by decide +kernel, by decide +kernel⟩
abbrev s_Manners_len : Stmt := inClass (top 5) 9
theorem sc_Manners_len : FnScope ["self"] ["self"] (defScope s_Manners_len) := ⟨rfl, rfl, rfl, by decide +kernel, rfl, by decide +kernel, by decide +kernel⟩
abbrev s_Manners_iter : Stmt := inClass (top 5) 10
theorem sc_Manners_iter : FnScope ["self"] ["self"] (defScope s_Manners_iter) := ⟨rfl, rfl, rfl, by decide +kernel, rfl, by decide +kernel, by decide +kernel⟩
abbrev s_Manners_str : Stmt := inClass (top 5) 11
theorem sc_Manners_str : FnScope ["self"] ["self"] (defScope s_Manners_str) := ⟨rfl, rfl, rfl, by decide +kernel, rfl, by decide +kernel, by decide +kernel⟩
abbrev s_l_draw : Stmt := top 7
theorem sc_l_draw : FnScope ["_law_pool", "_law_many", "_law_cell", "_law_number"] ["_law_pool", "_law_many"] (defScope s_l_draw) := ⟨rfl, rfl, rfl, by decide +kernel, rfl, by decide +kernel, by decide +kernel⟩
abbrev s_l_pick : Stmt := top 8
theorem sc_l_pick : FnScope ["_law_pool", "_law_things"] ["_law_pool", "_law_things"] (defScope s_l_pick) := ⟨rfl, rfl, rfl, by decide +kernel, rfl, by decide +kernel, by decide +kernel⟩
abbrev s_l_all : Stmt := top 9
theorem sc_l_all : FnScope [] [] (defScope s_l_all) := ⟨rfl, rfl, rfl, by decide +kernel, rfl, by decide +kernel, by decide +kernel⟩
abbrev s_l_names : Stmt := top 10
theorem sc_l_names : FnScope ["_law_pool", "_law_k"] ["_law_pool"] (defScope s_l_names) := ⟨rfl, rfl, rfl, by decide +kernel, rfl, by decide +kernel, by decide +kernel⟩
abbrev s_l_sorted_names : Stmt := top 11
theorem sc_l_sorted_names : FnScope ["_law_names_here", "_law_name"] ["_law_names_here"] (defScope s_l_sorted_names) := ⟨rfl, rfl, rfl, by decide +kernel, rfl, by decide +kernel, by decide +kernel⟩
abbrev s_l_odd : Stmt := top 12
theorem sc_l_odd : FnScope ["_law_pool"] ["_law_pool"] (defScope s_l_odd) := ⟨rfl, rfl, rfl, by decide +kernel, rfl, by decide +kernel, by decide +kernel⟩
abbrev s_l_refused : Stmt := top 13
theorem sc_l_refused : FnScope ["_law_names_here", "e"] ["_law_names_here"] (defScope s_l_refused) := ⟨rfl, rfl, rfl, by decide +kernel, rfl, by decide +kernel, by decide +kernel⟩
abbrev s_l_refused_of : Stmt := top 14
theorem sc_l_refused_of : FnScope ["_law_one", "_law_two", "_law_three", "e"] ["_law_one", "_law_two", "_law_three"] (defScope s_l_refused_of) := ⟨rfl, rfl, rfl, by decide +kernel, rfl, by decide +kernel, by decide +kernel⟩
abbrev s_l_is_set : Stmt := top 15
theorem sc_l_is_set : FnScope ["_law_made", "_law_names_here", "_law_due", "_law_name"] ["_law_made", "_law_names_here"] (defScope s_l_is_set) := ⟨rfl, rfl, rfl, by decide +kernel, rfl, by decide +kernel, by decide +kernel⟩
abbrev s_l_is_within : Stmt := top 16
theorem sc_l_is_within : FnScope ["_law_one", "_law_two", "_law_name"] ["_law_one", "_law_two"] (defScope s_l_is_within) := ⟨rfl, rfl, rfl, by decide +kernel, rfl, by decide +kernel, by decide +kernel⟩
abbrev s_law : Stmt := top 17
theorem sc_law : FnScope ["_law_script", "_law_pool", "_law_turn", "_law_one", "_law_two", "_law_handed", "_law_first", "_law_second", "_law_both", "_law_name", "_law_rest", "_law_at", "_law_odd_here"] ["_law_script"] (defScope s_law) := ⟨rfl, rfl, rfl, by decide +kernel, rfl, by decide +kernel, by decide +kernel⟩
abbrev s_BadManner_init : Stmt := inClass (top 3) 0
abbrev s_Manners_of : Stmt := inClass (top 5) 2
def names7 : List Str := ["asks", "free", "over", "shows", "straight", "tags", "within"]
def d_copied : He.DefD := ⟨("copied", none), "copied", "copied", defArgs s_copied, defBody s_copied, defScope s_copied, [], []⟩
def d_Manners_init : He.DefD := ⟨("Manners", some "__init__"), "__init__", "Manners.__init__", defArgs s_Manners_init, defBody s_Manners_init, defScope s_Manners_init, [], []⟩
def d_Manners_is_part_of : He.DefD := ⟨("Manners", some "is_part_of"), "is_part_of", "Manners.is_part_of", defArgs s_Manners_is_part_of, defBody s_Manners_is_part_of, defScope s_Manners_is_part_of, [], []⟩
def d_Manners_or : He.DefD := ⟨("Manners", some "__or__"), "__or__", "Manners.__or__", defArgs s_Manners_or, defBody s_Manners_or, defScope s_Manners_or, [], []⟩
def d_Manners_and : He.DefD := ⟨("Manners", some "__and__"), "__and__", "Manners.__and__", defArgs s_Manners_and, defBody s_Manners_and, defScope s_Manners_and, [], []⟩
def d_Manners_sub : He.DefD := ⟨("Manners", some "__sub__"), "__sub__", "Manners.__sub__", defArgs s_Manners_sub, defBody s_Manners_sub, defScope s_Manners_sub, [], []⟩
def d_Manners_eq : He.DefD := ⟨("Manners", some "__eq__"), "__eq__", "Manners.__eq__", defArgs s_Manners_eq, defBody s_Manners_eq, defScope s_Manners_eq, [], []⟩
def d_Manners_contains : He.DefD := ⟨("Manners", some "__contains__"), "__contains__", "Manners.__contains__", defArgs s_Manners_contains, defBody s_Manners_contains, defScope s_Manners_contains, [], []⟩
def d_Manners_len : He.DefD := ⟨("Manners", some "__len__"), "__len__", "Manners.__len__", defArgs s_Manners_len, defBody s_Manners_len, defScope s_Manners_len, [], []⟩
def d_Manners_iter : He.DefD := ⟨("Manners", some "__iter__"), "__iter__", "Manners.__iter__", defArgs s_Manners_iter, defBody s_Manners_iter, defScope s_Manners_iter, [], []⟩
def d_Manners_str : He.DefD := ⟨("Manners", some "__str__"), "__str__", "Manners.__str__", defArgs s_Manners_str, defBody s_Manners_str, defScope s_Manners_str, [], []⟩
def d_l_draw : He.DefD := ⟨("_law_draw", none), "_law_draw", "_law_draw", defArgs s_l_draw, defBody s_l_draw, defScope s_l_draw, [], []⟩
def d_l_pick : He.DefD := ⟨("_law_pick", none), "_law_pick", "_law_pick", defArgs s_l_pick, defBody s_l_pick, defScope s_l_pick, [], []⟩
def d_l_all : He.DefD := ⟨("_law_all", none), "_law_all", "_law_all", defArgs s_l_all, defBody s_l_all, defScope s_l_all, [], []⟩
def d_l_names : He.DefD := ⟨("_law_names", none), "_law_names", "_law_names", defArgs s_l_names, defBody s_l_names, defScope s_l_names, [], []⟩
def d_l_sorted_names : He.DefD := ⟨("_law_sorted_names", none), "_law_sorted_names", "_law_sorted_names", defArgs s_l_sorted_names, defBody s_l_sorted_names, defScope s_l_sorted_names, [], []⟩
def d_l_odd : He.DefD := ⟨("_law_odd", none), "_law_odd", "_law_odd", defArgs s_l_odd, defBody s_l_odd, defScope s_l_odd, [], []⟩
def d_l_refused : He.DefD := ⟨("_law_refused", none), "_law_refused", "_law_refused", defArgs s_l_refused, defBody s_l_refused, defScope s_l_refused, [], []⟩
def d_l_refused_of : He.DefD := ⟨("_law_refused_of", none), "_law_refused_of", "_law_refused_of", defArgs s_l_refused_of, defBody s_l_refused_of, defScope s_l_refused_of, [], []⟩
def d_l_is_set : He.DefD := ⟨("_law_is_set", none), "_law_is_set", "_law_is_set", defArgs s_l_is_set, defBody s_l_is_set, defScope s_l_is_set, [], []⟩
def d_l_is_within : He.DefD := ⟨("_law_is_within", none), "_law_is_within", "_law_is_within", defArgs s_l_is_within, defBody s_l_is_within, defScope s_l_is_within, [], []⟩
def d_law : He.DefD := ⟨("law", none), "law", "law", defArgs s_law, defBody s_law, defScope s_law, [], []⟩
def fn : List He.DefD := [d_copied, d_Manners_init, d_Manners_is_part_of, d_Manners_or, d_Manners_and, d_Manners_sub, d_Manners_eq, d_Manners_contains, d_Manners_len, d_Manners_iter, d_Manners_str, d_l_draw, d_l_pick, d_l_all, d_l_names, d_l_sorted_names, d_l_odd, d_l_refused, d_l_refused_of, d_l_is_set, d_l_is_within, d_law]
def fa : List He.Fa := [.glo "copied",
  .glo "_law_draw",
  .glo "_law_pick",
  .glo "_law_all",
  .glo "_law_names",
  .glo "_law_sorted_names",
  .glo "_law_odd",
  .glo "_law_refused",
  .glo "_law_refused_of",
  .glo "_law_is_set",
  .glo "_law_is_within",
  .glo "law",
  .glo "Manners",
  .glo "BadManner",
  .glo "QuietError",
  .free "len",
  .free "range",
  .free "int",
  .free "tuple",
  .free "list",
  .free "isinstance",
  .free "all",
  .free "str",
  .free "iter",
  .free "super",
  .cls "Manners",
  .mkr "Manners",
  .meth "Manners" "is_part_of",
  .meth "Manners" "__or__",
  .meth "Manners" "__and__",
  .meth "Manners" "__sub__",
  .meth "Manners" "__eq__",
  .meth "Manners" "__contains__",
  .meth "Manners" "__len__",
  .meth "Manners" "__iter__",
  .meth "Manners" "__str__",
  .noat "Manners" "names"]
def exs (K : PySem.W.Frag) : List Bool := [decide (PySem.W.specialIn K (.builtin "object.__class__") "__get__" = some (some (.builtin "getset_descriptor.__get__"))),
  decide (PySem.W.takesIn K (.builtin "object.__class__") = some true),
  decide (PySem.W.findIn K (.ref (He.ga K "Manners")) "__class__" = some (some (.builtin "object.__class__"))),
  decide (PySem.W.mroIn K (He.ga K "Manners") (.type "object") = some true),
  decide (PySem.W.kitOne K (.ref (He.ga K "Manners")) (.ref (He.ga K "Manners")) = some true),
  decide (PySem.W.kitOne K (.type "tuple") (.ref (He.ga K "Manners")) = some false),
  decide (PySem.W.kitOne K (.ref (He.ga K "BadManner")) (.ref (He.ga K "QuietError")) = some true),
  decide (PySem.W.notFirst K (He.ga K "Manners") (.ref (He.ga K "Manners")) = true),
  decide (PySem.W.notFirst K (He.ga K "Manners") (.type "tuple") = true),
  decide (PySem.W.selfFirst K (He.ga K "Manners") = true),
  decide ((exB K (He.ga K "BadManner") (He.ma K (He.ga K "BadManner") "__init__")).all id = true),
  decide (supB PySem.Challenge.pw_quietedition_k87_sets_of_manners.main.file K (He.ga K "BadManner") (He.ma K (He.ga K "BadManner") "__init__") "BadManner.__init__" = true),
  decide (PySem.W.readsIn K (He.ga K "Manners") (.type "type") = true),
  decide (PySem.W.specialIn K (.ref (He.ga K "Manners")) "__getattribute__" = some (some (.builtin "type.__getattribute__"))),
  decide (valB K (He.ga K "Manners") (.type "type") "ALL" = true),
  decide (tsB K (valA K (He.ga K "Manners") (.type "type") "ALL") names7 = true),
  decide (cmB K (He.ga K "Manners") (.type "type") "of" = true),
  decide (starB K (cmG K (He.ga K "Manners") (.type "type") "of") "Manners.of" = true),
  decide (dfN K (He.ma K (He.ga K "BadManner") "__init__") = true),
  decide (PySem.W.findIn K (.ref (He.ga K "BadManner")) "name" = some none)]
def wsl (K : PySem.W.Frag) : List FnWS := [fnWS K (He.ma K (He.ga K "BadManner") "__init__"), fnWS K (cmG K (He.ga K "Manners") (.type "type") "of")]
def wsv : List FnWS := [some ("__init__", "BadManner.__init__", defArgs s_BadManner_init, FuncBody.stmts (defBody s_BadManner_init), defScope s_BadManner_init, mainGlobals, ["__class__"], builtinsNs), some ("of", "Manners.of", defArgs s_Manners_of, FuncBody.stmts (defBody s_Manners_of), defScope s_Manners_of, mainGlobals, [], builtinsNs)]
structure Tx (K : PySem.W.Frag) (mg : Str → Option Value) (sa : Addr) (sx : List Int) : Prop where
  c : He.SaysD fa fn K
  k : (exs K).all id = true
  w : wsl K = wsv
  g0 : mg "copied" = some (.ref (He.ga K "copied"))
  g1 : mg "_law_draw" = some (.ref (He.ga K "_law_draw"))
  g2 : mg "_law_pick" = some (.ref (He.ga K "_law_pick"))
  g3 : mg "_law_all" = some (.ref (He.ga K "_law_all"))
  g4 : mg "_law_names" = some (.ref (He.ga K "_law_names"))
  g5 : mg "_law_sorted_names" = some (.ref (He.ga K "_law_sorted_names"))
  g6 : mg "_law_odd" = some (.ref (He.ga K "_law_odd"))
  g7 : mg "_law_refused" = some (.ref (He.ga K "_law_refused"))
  g8 : mg "_law_refused_of" = some (.ref (He.ga K "_law_refused_of"))
  g9 : mg "_law_is_set" = some (.ref (He.ga K "_law_is_set"))
  g10 : mg "_law_is_within" = some (.ref (He.ga K "_law_is_within"))
  g11 : mg "law" = some (.ref (He.ga K "law"))
  g12 : mg "Manners" = some (.ref (He.ga K "Manners"))
  g13 : mg "BadManner" = some (.ref (He.ga K "BadManner"))
  g14 : mg "QuietError" = some (.ref (He.ga K "QuietError"))
  n0 : mg "len" = none
  n1 : mg "range" = none
  n2 : mg "int" = none
  n3 : mg "tuple" = none
  n4 : mg "list" = none
  n5 : mg "isinstance" = none
  n6 : mg "all" = none
  n7 : mg "str" = none
  n8 : mg "iter" = none
  n9 : mg "super" = none
section
variable {K : PySem.W.Frag} {mg : Str → Option Value} {sa : Addr} {sx : List Int}
theorem tx_of {h : Heap} (X : K.In h) (G : h.Ns mainGlobals mg) (c : He.SaysD fa fn K) (k : (exs K).all id = true) (w : wsl K = wsv) : Tx K mg sa sx :=
  ⟨c, k, w,
    He.glo_ok X G (c.fact 0 (f := .glo "copied") rfl),
    He.glo_ok X G (c.fact 1 (f := .glo "_law_draw") rfl),
    He.glo_ok X G (c.fact 2 (f := .glo "_law_pick") rfl),
    He.glo_ok X G (c.fact 3 (f := .glo "_law_all") rfl),
    He.glo_ok X G (c.fact 4 (f := .glo "_law_names") rfl),
    He.glo_ok X G (c.fact 5 (f := .glo "_law_sorted_names") rfl),
    He.glo_ok X G (c.fact 6 (f := .glo "_law_odd") rfl),
    He.glo_ok X G (c.fact 7 (f := .glo "_law_refused") rfl),
    He.glo_ok X G (c.fact 8 (f := .glo "_law_refused_of") rfl),
    He.glo_ok X G (c.fact 9 (f := .glo "_law_is_set") rfl),
    He.glo_ok X G (c.fact 10 (f := .glo "_law_is_within") rfl),
    He.glo_ok X G (c.fact 11 (f := .glo "law") rfl),
    He.glo_ok X G (c.fact 12 (f := .glo "Manners") rfl),
    He.glo_ok X G (c.fact 13 (f := .glo "BadManner") rfl),
    He.glo_ok X G (c.fact 14 (f := .glo "QuietError") rfl),
    He.free_ok X G (c.fact 15 (f := .free "len") rfl),
    He.free_ok X G (c.fact 16 (f := .free "range") rfl),
    He.free_ok X G (c.fact 17 (f := .free "int") rfl),
    He.free_ok X G (c.fact 18 (f := .free "tuple") rfl),
    He.free_ok X G (c.fact 19 (f := .free "list") rfl),
    He.free_ok X G (c.fact 20 (f := .free "isinstance") rfl),
    He.free_ok X G (c.fact 21 (f := .free "all") rfl),
    He.free_ok X G (c.fact 22 (f := .free "str") rfl),
    He.free_ok X G (c.fact 23 (f := .free "iter") rfl),
    He.free_ok X G (c.fact 24 (f := .free "super") rfl)⟩
theorem g_copied (T : Tx K mg sa sx) : mg "copied" = some (.ref (He.ga K "copied")) := T.g0
theorem g__law_draw (T : Tx K mg sa sx) : mg "_law_draw" = some (.ref (He.ga K "_law_draw")) := T.g1
theorem g__law_pick (T : Tx K mg sa sx) : mg "_law_pick" = some (.ref (He.ga K "_law_pick")) := T.g2
theorem g__law_all (T : Tx K mg sa sx) : mg "_law_all" = some (.ref (He.ga K "_law_all")) := T.g3
theorem g__law_names (T : Tx K mg sa sx) : mg "_law_names" = some (.ref (He.ga K "_law_names")) := T.g4
theorem g__law_sorted_names (T : Tx K mg sa sx) : mg "_law_sorted_names" = some (.ref (He.ga K "_law_sorted_names")) := T.g5
theorem g__law_odd (T : Tx K mg sa sx) : mg "_law_odd" = some (.ref (He.ga K "_law_odd")) := T.g6
theorem g__law_refused (T : Tx K mg sa sx) : mg "_law_refused" = some (.ref (He.ga K "_law_refused")) := T.g7
theorem g__law_refused_of (T : Tx K mg sa sx) : mg "_law_refused_of" = some (.ref (He.ga K "_law_refused_of")) := T.g8
theorem g__law_is_set (T : Tx K mg sa sx) : mg "_law_is_set" = some (.ref (He.ga K "_law_is_set")) := T.g9
theorem g__law_is_within (T : Tx K mg sa sx) : mg "_law_is_within" = some (.ref (He.ga K "_law_is_within")) := T.g10
theorem g_law (T : Tx K mg sa sx) : mg "law" = some (.ref (He.ga K "law")) := T.g11
theorem g_Manners (T : Tx K mg sa sx) : mg "Manners" = some (.ref (He.ga K "Manners")) := T.g12
theorem g_BadManner (T : Tx K mg sa sx) : mg "BadManner" = some (.ref (He.ga K "BadManner")) := T.g13
theorem g_QuietError (T : Tx K mg sa sx) : mg "QuietError" = some (.ref (He.ga K "QuietError")) := T.g14
theorem n_len (T : Tx K mg sa sx) : mg "len" = none := T.n0
theorem n_range (T : Tx K mg sa sx) : mg "range" = none := T.n1
theorem n_int (T : Tx K mg sa sx) : mg "int" = none := T.n2
theorem n_tuple (T : Tx K mg sa sx) : mg "tuple" = none := T.n3
theorem n_list (T : Tx K mg sa sx) : mg "list" = none := T.n4
theorem n_isinstance (T : Tx K mg sa sx) : mg "isinstance" = none := T.n5
theorem n_all (T : Tx K mg sa sx) : mg "all" = none := T.n6
theorem n_str (T : Tx K mg sa sx) : mg "str" = none := T.n7
theorem n_iter (T : Tx K mg sa sx) : mg "iter" = none := T.n8
theorem n_super (T : Tx K mg sa sx) : mg "super" = none := T.n9
theorem exs_at (T : Tx K mg sa sx) (i : Nat) {b : Bool} (h : (exs K)[i]? = some b := by rfl) : b = true := List.all_eq_true.mp T.k b (List.mem_of_getElem? h)
theorem x_cget (T : Tx K mg sa sx) : PySem.W.specialIn K (.builtin "object.__class__") "__get__" = some (some (.builtin "getset_descriptor.__get__")) := of_decide_eq_true (exs_at T 0)
theorem x_ctak (T : Tx K mg sa sx) : PySem.W.takesIn K (.builtin "object.__class__") = some true := of_decide_eq_true (exs_at T 1)
theorem x_cc (T : Tx K mg sa sx) : PySem.W.findIn K (.ref (He.ga K "Manners")) "__class__" = some (some (.builtin "object.__class__")) := of_decide_eq_true (exs_at T 2)
theorem x_mro (T : Tx K mg sa sx) : PySem.W.mroIn K (He.ga K "Manners") (.type "object") = some true := of_decide_eq_true (exs_at T 3)
theorem x_kit (T : Tx K mg sa sx) : PySem.W.kitOne K (.ref (He.ga K "Manners")) (.ref (He.ga K "Manners")) = some true := of_decide_eq_true (exs_at T 4)
theorem x_kitt (T : Tx K mg sa sx) : PySem.W.kitOne K (.type "tuple") (.ref (He.ga K "Manners")) = some false := of_decide_eq_true (exs_at T 5)
theorem x_kitq (T : Tx K mg sa sx) : PySem.W.kitOne K (.ref (He.ga K "BadManner")) (.ref (He.ga K "QuietError")) = some true := of_decide_eq_true (exs_at T 6)
theorem x_nf (T : Tx K mg sa sx) : PySem.W.notFirst K (He.ga K "Manners") (.ref (He.ga K "Manners")) = true := of_decide_eq_true (exs_at T 7)
theorem x_nft (T : Tx K mg sa sx) : PySem.W.notFirst K (He.ga K "Manners") (.type "tuple") = true := of_decide_eq_true (exs_at T 8)
theorem x_first (T : Tx K mg sa sx) : PySem.W.selfFirst K (He.ga K "Manners") = true := of_decide_eq_true (exs_at T 9)
theorem x_ebm (T : Tx K mg sa sx) : (exB K (He.ga K "BadManner") (He.ma K (He.ga K "BadManner") "__init__")).all id = true := of_decide_eq_true (exs_at T 10)
theorem x_sbm (T : Tx K mg sa sx) : supB PySem.Challenge.pw_quietedition_k87_sets_of_manners.main.file K (He.ga K "BadManner") (He.ma K (He.ga K "BadManner") "__init__") "BadManner.__init__" = true := of_decide_eq_true (exs_at T 11)
theorem x_crd (T : Tx K mg sa sx) : PySem.W.readsIn K (He.ga K "Manners") (.type "type") = true := of_decide_eq_true (exs_at T 12)
theorem x_cga (T : Tx K mg sa sx) : PySem.W.specialIn K (.ref (He.ga K "Manners")) "__getattribute__" = some (some (.builtin "type.__getattribute__")) := of_decide_eq_true (exs_at T 13)
theorem x_all (T : Tx K mg sa sx) : valB K (He.ga K "Manners") (.type "type") "ALL" = true := of_decide_eq_true (exs_at T 14)
theorem x_allts (T : Tx K mg sa sx) : tsB K (valA K (He.ga K "Manners") (.type "type") "ALL") names7 = true := of_decide_eq_true (exs_at T 15)
theorem x_of (T : Tx K mg sa sx) : cmB K (He.ga K "Manners") (.type "type") "of" = true := of_decide_eq_true (exs_at T 16)
theorem x_ofst (T : Tx K mg sa sx) : starB K (cmG K (He.ga K "Manners") (.type "type") "of") "Manners.of" = true := of_decide_eq_true (exs_at T 17)
theorem x_dbm (T : Tx K mg sa sx) : dfN K (He.ma K (He.ga K "BadManner") "__init__") = true := of_decide_eq_true (exs_at T 18)
theorem x_nob (T : Tx K mg sa sx) : PySem.W.findIn K (.ref (He.ga K "BadManner")) "name" = some none := of_decide_eq_true (exs_at T 19)
theorem c_Manners (T : Tx K mg sa sx) : Cls K (He.ga K "Manners") := He.cls_ok (T.c.fact 25 (f := .cls "Manners") rfl)
theorem m_Manners (T : Tx K mg sa sx) : Mk K (He.ga K "Manners") (He.ma K (He.ga K "Manners") "__init__") := He.mkr_ok (T.c.fact 26 (f := .mkr "Manners") rfl)
theorem me_Manners_is_part_of (T : Tx K mg sa sx) : Meth K (He.ga K "Manners") "is_part_of" (He.ma K (He.ga K "Manners") "is_part_of") := He.meth_ok (T.c.fact 27 (f := .meth "Manners" "is_part_of") rfl)
theorem me_Manners_or (T : Tx K mg sa sx) : Meth K (He.ga K "Manners") "__or__" (He.ma K (He.ga K "Manners") "__or__") := He.meth_ok (T.c.fact 28 (f := .meth "Manners" "__or__") rfl)
theorem me_Manners_and (T : Tx K mg sa sx) : Meth K (He.ga K "Manners") "__and__" (He.ma K (He.ga K "Manners") "__and__") := He.meth_ok (T.c.fact 29 (f := .meth "Manners" "__and__") rfl)
theorem me_Manners_sub (T : Tx K mg sa sx) : Meth K (He.ga K "Manners") "__sub__" (He.ma K (He.ga K "Manners") "__sub__") := He.meth_ok (T.c.fact 30 (f := .meth "Manners" "__sub__") rfl)
theorem me_Manners_eq (T : Tx K mg sa sx) : Meth K (He.ga K "Manners") "__eq__" (He.ma K (He.ga K "Manners") "__eq__") := He.meth_ok (T.c.fact 31 (f := .meth "Manners" "__eq__") rfl)
theorem me_Manners_contains (T : Tx K mg sa sx) : Meth K (He.ga K "Manners") "__contains__" (He.ma K (He.ga K "Manners") "__contains__") := He.meth_ok (T.c.fact 32 (f := .meth "Manners" "__contains__") rfl)
theorem me_Manners_len (T : Tx K mg sa sx) : Meth K (He.ga K "Manners") "__len__" (He.ma K (He.ga K "Manners") "__len__") := He.meth_ok (T.c.fact 33 (f := .meth "Manners" "__len__") rfl)
theorem me_Manners_iter (T : Tx K mg sa sx) : Meth K (He.ga K "Manners") "__iter__" (He.ma K (He.ga K "Manners") "__iter__") := He.meth_ok (T.c.fact 34 (f := .meth "Manners" "__iter__") rfl)
theorem me_Manners_str (T : Tx K mg sa sx) : Meth K (He.ga K "Manners") "__str__" (He.ma K (He.ga K "Manners") "__str__") := He.meth_ok (T.c.fact 35 (f := .meth "Manners" "__str__") rfl)
theorem na_Manners_names (T : Tx K mg sa sx) : NoAttr K (He.ga K "Manners") "names" := He.noat_ok (T.c.fact 36 (f := .noat "Manners" "names") rfl)
theorem f_copied (T : Tx K mg sa sx) : ∃ fd, FunD K "copied" "copied" (defArgs s_copied) (defBody s_copied) (defScope s_copied) [] [] (He.ga K "copied") fd := T.c.def_ 0 (d := d_copied) rfl
theorem f_Manners_init (T : Tx K mg sa sx) : ∃ fd, FunD K "__init__" "Manners.__init__" (defArgs s_Manners_init) (defBody s_Manners_init) (defScope s_Manners_init) [] [] (He.ma K (He.ga K "Manners") "__init__") fd := T.c.def_ 1 (d := d_Manners_init) rfl
theorem f_Manners_is_part_of (T : Tx K mg sa sx) : ∃ fd, FunD K "is_part_of" "Manners.is_part_of" (defArgs s_Manners_is_part_of) (defBody s_Manners_is_part_of) (defScope s_Manners_is_part_of) [] [] (He.ma K (He.ga K "Manners") "is_part_of") fd := T.c.def_ 2 (d := d_Manners_is_part_of) rfl
theorem f_Manners_or (T : Tx K mg sa sx) : ∃ fd, FunD K "__or__" "Manners.__or__" (defArgs s_Manners_or) (defBody s_Manners_or) (defScope s_Manners_or) [] [] (He.ma K (He.ga K "Manners") "__or__") fd := T.c.def_ 3 (d := d_Manners_or) rfl
theorem f_Manners_and (T : Tx K mg sa sx) : ∃ fd, FunD K "__and__" "Manners.__and__" (defArgs s_Manners_and) (defBody s_Manners_and) (defScope s_Manners_and) [] [] (He.ma K (He.ga K "Manners") "__and__") fd := T.c.def_ 4 (d := d_Manners_and) rfl
theorem f_Manners_sub (T : Tx K mg sa sx) : ∃ fd, FunD K "__sub__" "Manners.__sub__" (defArgs s_Manners_sub) (defBody s_Manners_sub) (defScope s_Manners_sub) [] [] (He.ma K (He.ga K "Manners") "__sub__") fd := T.c.def_ 5 (d := d_Manners_sub) rfl
theorem f_Manners_eq (T : Tx K mg sa sx) : ∃ fd, FunD K "__eq__" "Manners.__eq__" (defArgs s_Manners_eq) (defBody s_Manners_eq) (defScope s_Manners_eq) [] [] (He.ma K (He.ga K "Manners") "__eq__") fd := T.c.def_ 6 (d := d_Manners_eq) rfl
theorem f_Manners_contains (T : Tx K mg sa sx) : ∃ fd, FunD K "__contains__" "Manners.__contains__" (defArgs s_Manners_contains) (defBody s_Manners_contains) (defScope s_Manners_contains) [] [] (He.ma K (He.ga K "Manners") "__contains__") fd := T.c.def_ 7 (d := d_Manners_contains) rfl
theorem f_Manners_len (T : Tx K mg sa sx) : ∃ fd, FunD K "__len__" "Manners.__len__" (defArgs s_Manners_len) (defBody s_Manners_len) (defScope s_Manners_len) [] [] (He.ma K (He.ga K "Manners") "__len__") fd := T.c.def_ 8 (d := d_Manners_len) rfl
theorem f_Manners_iter (T : Tx K mg sa sx) : ∃ fd, FunD K "__iter__" "Manners.__iter__" (defArgs s_Manners_iter) (defBody s_Manners_iter) (defScope s_Manners_iter) [] [] (He.ma K (He.ga K "Manners") "__iter__") fd := T.c.def_ 9 (d := d_Manners_iter) rfl
theorem f_Manners_str (T : Tx K mg sa sx) : ∃ fd, FunD K "__str__" "Manners.__str__" (defArgs s_Manners_str) (defBody s_Manners_str) (defScope s_Manners_str) [] [] (He.ma K (He.ga K "Manners") "__str__") fd := T.c.def_ 10 (d := d_Manners_str) rfl
theorem f_l_draw (T : Tx K mg sa sx) : ∃ fd, FunD K "_law_draw" "_law_draw" (defArgs s_l_draw) (defBody s_l_draw) (defScope s_l_draw) [] [] (He.ga K "_law_draw") fd := T.c.def_ 11 (d := d_l_draw) rfl
theorem f_l_pick (T : Tx K mg sa sx) : ∃ fd, FunD K "_law_pick" "_law_pick" (defArgs s_l_pick) (defBody s_l_pick) (defScope s_l_pick) [] [] (He.ga K "_law_pick") fd := T.c.def_ 12 (d := d_l_pick) rfl
theorem f_l_all (T : Tx K mg sa sx) : ∃ fd, FunD K "_law_all" "_law_all" (defArgs s_l_all) (defBody s_l_all) (defScope s_l_all) [] [] (He.ga K "_law_all") fd := T.c.def_ 13 (d := d_l_all) rfl
theorem f_l_names (T : Tx K mg sa sx) : ∃ fd, FunD K "_law_names" "_law_names" (defArgs s_l_names) (defBody s_l_names) (defScope s_l_names) [] [] (He.ga K "_law_names") fd := T.c.def_ 14 (d := d_l_names) rfl
theorem f_l_sorted_names (T : Tx K mg sa sx) : ∃ fd, FunD K "_law_sorted_names" "_law_sorted_names" (defArgs s_l_sorted_names) (defBody s_l_sorted_names) (defScope s_l_sorted_names) [] [] (He.ga K "_law_sorted_names") fd := T.c.def_ 15 (d := d_l_sorted_names) rfl
theorem f_l_odd (T : Tx K mg sa sx) : ∃ fd, FunD K "_law_odd" "_law_odd" (defArgs s_l_odd) (defBody s_l_odd) (defScope s_l_odd) [] [] (He.ga K "_law_odd") fd := T.c.def_ 16 (d := d_l_odd) rfl
theorem f_l_refused (T : Tx K mg sa sx) : ∃ fd, FunD K "_law_refused" "_law_refused" (defArgs s_l_refused) (defBody s_l_refused) (defScope s_l_refused) [] [] (He.ga K "_law_refused") fd := T.c.def_ 17 (d := d_l_refused) rfl
theorem f_l_refused_of (T : Tx K mg sa sx) : ∃ fd, FunD K "_law_refused_of" "_law_refused_of" (defArgs s_l_refused_of) (defBody s_l_refused_of) (defScope s_l_refused_of) [] [] (He.ga K "_law_refused_of") fd := T.c.def_ 18 (d := d_l_refused_of) rfl
theorem f_l_is_set (T : Tx K mg sa sx) : ∃ fd, FunD K "_law_is_set" "_law_is_set" (defArgs s_l_is_set) (defBody s_l_is_set) (defScope s_l_is_set) [] [] (He.ga K "_law_is_set") fd := T.c.def_ 19 (d := d_l_is_set) rfl
theorem f_l_is_within (T : Tx K mg sa sx) : ∃ fd, FunD K "_law_is_within" "_law_is_within" (defArgs s_l_is_within) (defBody s_l_is_within) (defScope s_l_is_within) [] [] (He.ga K "_law_is_within") fd := T.c.def_ 20 (d := d_l_is_within) rfl
theorem f_law (T : Tx K mg sa sx) : ∃ fd, FunD K "law" "law" (defArgs s_law) (defBody s_law) (defScope s_law) [] [] (He.ga K "law") fd := T.c.def_ 21 (d := d_law) rfl
end
end K87
namespace K87
open PySem PySem.Spec PyProof.Rows Cm
open L2 hiding Same
abbrev R : PySem.W.OpenRow := PySem.W.OpenLaw.row PySem.Challenge.rw_quietedition_k87_sets_of_manners
def part (n : Nat) (g : Addr → Option Obj) : PySem.W.Frag := He.frG g (cStatics :: He.asD g n)
def seen (n : Nat) (g : Addr → Option Obj) : He.AlD × List FnWS × Bool := (He.obsD fa fn (part n g), wsl (part n g), (exs (part n g)).all id)
def hkz (n : Nat) : PySem.W.Hook where
  α := He.AlD × List FnWS × Bool
  obs s := seen n s.heap.get?
  val _ := (He.valD fn, wsv, true)
  says _ h := ∃ K : PySem.W.Frag, K.In h ∧ He.SaysD fa fn K ∧ wsl K = wsv ∧ (exs K).all id = true
  of _ _ e := ⟨_, He.frG_in, congrArg Prod.fst e, congrArg (fun z => z.2.1) e, congrArg (fun z => z.2.2) e⟩
  keeps _ _ _ := fun ⟨K, i, c⟩ k => ⟨K, PySem.W.Frag.In.keeps i k, c⟩
def ob (s : PySem.W.SharedT) : He.AlD × List FnWS × Bool := seen 5 (HandSHeadRun.getT s)
theorem ob_eq (s : PySem.W.SharedT) : ob s = (hkz 5).obs s.abs := by
  have e : HandSHeadRun.getT s = s.abs.heap.get? := funext (HandSHeadRun.getT_eq s)
  show seen 5 _ = seen 5 _
  rw [e]
def loose0 : List Str := ["copied", "QuietError", "BadManner", "Manners", "_law_draw", "_law_pick", "_law_all", "_law_names", "_law_sorted_names", "_law_odd", "_law_refused", "_law_refused_of", "_law_is_set", "_law_is_within"]
def loose : List Str := loose0
theorem run (w : World) : HandSHeadRun.RunEq R (PySem.W.view R.prog [17]) (hkz 5) ob 3000 loose w := by
  intro os
  kernel_rfl
end K87
namespace K87
open PySem PySem.Spec PyProof.Rows Cm
open L2 hiding Same
/-! ### copies of odd values -/
def Flt : OdK → Bool
  | .tup => false
  | .lst => false
  | _ => true
theorem od_same {K : PySem.W.Frag} {H H' : Hp} {x : V} {k : OdK} (s : Same H H') (h : OdAt K H x k) : OdAt K H' x k := by
  cases k with
  | tup => obtain ⟨a, e, h⟩ := h; exact ⟨a, e, s _ _ h⟩
  | lst => obtain ⟨a, e, h⟩ := h; exact ⟨a, e, s _ _ h⟩
  | _ => exact h
theorem od_ty {K : PySem.W.Frag} {H : Hp} {x : V} {k : OdK} (f : Flt k = true) (h : OdAt K H x k) : ∃ t, TyX K H x t ∧ PySem.W.kitOne K t (.type "list") = some false ∧ PySem.W.kitOne K t (.type "tuple") = some false := by
  cases k with
  | str z => obtain ⟨rfl, _⟩ := h; exact ⟨_, .base (.str z), kit_ty (by decide +kernel), kit_ty (by decide +kernel)⟩
  | non => cases (show x = .non from h); exact ⟨_, .base .non, kit_ty (by decide +kernel), kit_ty (by decide +kernel)⟩
  | zero => cases (show x = .int 0 from h); exact ⟨_, .base (.int 0), kit_ty (by decide +kernel), kit_ty (by decide +kernel)⟩
  | tru => cases (show x = .bl true from h); exact ⟨_, .base (.bl true), kit_ty (by decide +kernel), kit_ty (by decide +kernel)⟩
  | tup => cases f
  | lst => cases f
def spCopyF (K : PySem.W.Frag) : Sp := fun vs H Q _ => ∃ x k, vs = [x] ∧ Flt k = true ∧ OdAt K H x k ∧ Q x H
def spCopy (K : PySem.W.Frag) : Sp := fun vs H Q _ => ∃ x k, vs = [x] ∧ OdAt K H x k ∧ ∀ y H', Same H H' → OdAt K H' y k → Q y H'
theorem free_str : ∀ c ∈ (("free" : Str)).cps.toList, c < 128 := by decide +kernel
theorem asks_str : ∀ c ∈ (("asks" : Str)).cps.toList, c < 128 := by decide +kernel
section
variable {P : Program} {w : World} {K : PySem.W.Frag} {mg : Str → Option Value} {base : Heap} {sa : Addr} {sx : List Int}
theorem ok_copiedF (T : Tx K mg sa sx) : Cal P w K mg base 1 "copied" (spCopyF K) := by
  obtain ⟨fd, F⟩ := f_copied T
  refine ⟨_, fd, ["thing"], fnok F sc_copied (fun vs H Q E h => ?_) (fun cdv A outer s H vs Q E hr h => ?_), F.bindsN fun _ _ _ _ _ _ us hl => match us, hl with | [_], _ => rfl, g_copied T, F.kp⟩
  · obtain ⟨x, k, rfl, _⟩ := h; rfl
  · obtain ⟨x, k, rfl, f, ho, q⟩ := h
    refine ⟨_, (pss_cons (ps_if (pt_val (pe_callB (id := "isinstance") (r := rIsi K) call_isi rfl (n_isinstance T) (by decide +kernel) (pa_cons (pv 0) (pa_cons (pe_bltn (v := .ty "list") rfl (n_list T) (by decide +kernel) rfl) pa_nil)))) (pss_one ps_never) pss_nil)
    (pss_cons (ps_if (pt_val (pe_callB (id := "isinstance") (r := rIsi K) call_isi rfl (n_isinstance T) (by decide +kernel) (pa_cons (pv 0) (pa_cons (pe_bltn (v := .ty "tuple") rfl (n_tuple T) (by decide +kernel) rfl) pa_nil)))) (pss_one ps_never) pss_nil)
    (pss_one (ps_ret (pv 0))))), ?_⟩
    obtain ⟨t, ty, k1, k2⟩ := od_ty f ho
    refine ⟨_, rfl, _, .ty "list", t, .type "list", false, rfl, .ty _, ty, k1, false, rfl, iteF ?_⟩
    refine ⟨_, rfl, _, .ty "tuple", t, .type "tuple", false, rfl, .ty _, ty, k2, false, rfl, iteF ?_⟩
    exact ⟨_, rfl, q⟩
theorem ok_copied (T : Tx K mg sa sx) : Cal P w K mg base 2 "copied" (spCopy K) := by
  obtain ⟨fd, F⟩ := f_copied T
  refine ⟨_, fd, ["thing"], fnok F sc_copied (fun vs H Q E h => ?_) (fun cdv A outer s H vs Q E hr h => ?_), F.bindsN fun _ _ _ _ _ _ us hl => match us, hl with | [_], _ => rfl, g_copied T, F.kp⟩
  · obtain ⟨x, k, rfl, _⟩ := h; rfl
  · obtain ⟨x, k, rfl, ho, q⟩ := h
    cases hf : Flt k with
    | true =>
      refine ⟨_, (pss_cons (ps_if (pt_val (pe_callB (id := "isinstance") (r := rIsi K) call_isi rfl (n_isinstance T) (by decide +kernel) (pa_cons (pv 0) (pa_cons (pe_bltn (v := .ty "list") rfl (n_list T) (by decide +kernel) rfl) pa_nil)))) (pss_one ps_never) pss_nil)
    (pss_cons (ps_if (pt_val (pe_callB (id := "isinstance") (r := rIsi K) call_isi rfl (n_isinstance T) (by decide +kernel) (pa_cons (pv 0) (pa_cons (pe_bltn (v := .ty "tuple") rfl (n_tuple T) (by decide +kernel) rfl) pa_nil)))) (pss_one ps_never) pss_nil)
    (pss_one (ps_ret (pv 0))))), ?_⟩
      obtain ⟨t, ty, k1, k2⟩ := od_ty hf ho
      refine ⟨_, rfl, _, .ty "list", t, .type "list", false, rfl, .ty _, ty, k1, false, rfl, iteF ?_⟩
      refine ⟨_, rfl, _, .ty "tuple", t, .type "tuple", false, rfl, .ty _, ty, k2, false, rfl, iteF ?_⟩
      exact ⟨_, rfl, q _ _ (Cm.Same.refl _) ho⟩
    | false =>
      cases k with
      | lst =>
        refine ⟨_, (pss_cons (ps_if (pt_val (pe_callB (id := "isinstance") (r := rIsi K) call_isi rfl (n_isinstance T) (by decide +kernel) (pa_cons (pv 0) (pa_cons (pe_bltn (v := .ty "list") rfl (n_list T) (by decide +kernel) rfl) pa_nil)))) (pss_one (ps_ret (pe_lc (own := [("part", 1)]) (g := gName 1) rfl sc_copied.nd (pi_list (pv 0)) (blkOk_by (own := [("part", 1)]) (N := ["thing", "part"]) (sc := defScope s_copied) (by decide +kernel)) (fun _ _ _ _ _ => pg_name (i := 1) sc_copied.nd rfl (Or.inl rfl)) (fun _ _ _ _ _ => pts_nil) (fun _ _ _ _ _ => (pe_cal (ok_copiedF T) hr (by decide) (pa_cons (pv 1) pa_nil)))))) pss_nil)
    (pss_cons (ps_if (pt_val (pe_callB (id := "isinstance") (r := rIsi K) call_isi rfl (n_isinstance T) (by decide +kernel) (pa_cons (pv 0) (pa_cons (pe_bltn (v := .ty "tuple") rfl (n_tuple T) (by decide +kernel) rfl) pa_nil)))) (pss_one ps_never) pss_nil)
    (pss_one (ps_ret (pv 0))))), ?_⟩
        obtain ⟨a, rfl, ha⟩ := ho
        refine ⟨_, rfl, _, .ty "list", _, .type "list", true, rfl, .ty _, .base (.lst ha), kit_ty (by decide +kernel), true, rfl, iteT ?_⟩
        refine ⟨_, rfl, a, rfl, ⟨_, SqL.of ha⟩, fun D hD => ?_⟩
        refine lc_list (K := K) (a := a) (xs := [V.str "free"]) (fun i H' => Same H H' ∧ H' D = some (.lst (([V.str "free"] : List V).take i))) ⟨Same.new hD, upd_same⟩ (fun i H' _ ⟨sm, _⟩ => SqL.of (sm _ _ ha)) ?_ ?_
        · rintro i x H' hi ⟨sm, hS⟩
          cases i with
          | succ i => simp at hi
          | zero =>
            obtain rfl : V.str "free" = x := by simpa using hi
            refine ⟨rfl, _, rfl, _, .str "free", rfl, rfl, ⟨rfl, by decide +kernel, free_str⟩, _, hS, sz2 (by decide), sm.mut hD, ?_⟩
            exact upd_same
        · rintro H' ⟨sm, hS⟩
          exact q _ _ sm ⟨D, rfl, hS⟩
      | tup =>
        refine ⟨_, (pss_cons (ps_if (pt_val (pe_callB (id := "isinstance") (r := rIsi K) call_isi rfl (n_isinstance T) (by decide +kernel) (pa_cons (pv 0) (pa_cons (pe_bltn (v := .ty "list") rfl (n_list T) (by decide +kernel) rfl) pa_nil)))) (pss_one ps_never) pss_nil)
    (pss_cons (ps_if (pt_val (pe_callB (id := "isinstance") (r := rIsi K) call_isi rfl (n_isinstance T) (by decide +kernel) (pa_cons (pv 0) (pa_cons (pe_bltn (v := .ty "tuple") rfl (n_tuple T) (by decide +kernel) rfl) pa_nil)))) (pss_one (ps_ret (pe_callTy (T := "tuple") call_tuple_of rfl (n_tuple T) (by decide +kernel) (pa_cons (pe_lc (own := [("part", 1)]) (g := gName 1) rfl sc_copied.nd (pi_tup (pv 0)) (blkOk_by (own := [("part", 1)]) (N := ["thing", "part"]) (sc := defScope s_copied) (by decide +kernel)) (fun _ _ _ _ _ => pg_name (i := 1) sc_copied.nd rfl (Or.inl rfl)) (fun _ _ _ _ _ => pts_nil) (fun _ _ _ _ _ => (pe_cal (ok_copiedF T) hr (by decide) (pa_cons (pv 1) pa_nil)))) pa_nil)))) pss_nil)
    (pss_one (ps_ret (pv 0))))), ?_⟩
        obtain ⟨a, rfl, ha⟩ := ho
        refine ⟨_, rfl, _, .ty "list", _, .type "list", false, rfl, .ty _, .base (.tup ha), kit_ty (by decide +kernel), false, rfl, iteF ?_⟩
        refine ⟨_, rfl, _, .ty "tuple", _, .type "tuple", true, rfl, .ty _, .base (.tup ha), kit_ty (by decide +kernel), true, rfl, iteT ?_⟩
        refine ⟨_, rfl, a, rfl, ⟨_, SqT.of ha⟩, fun D hD => ?_⟩
        refine lc_tup (K := K) (a := a) (xs := [V.str "asks"]) (fun i H' => Same H H' ∧ H' D = some (.lst (([V.str "asks"] : List V).take i))) ⟨Same.new hD, upd_same⟩ (fun i H' _ ⟨sm, _⟩ => SqT.of (sm _ _ ha)) ?_ ?_
        · rintro i x H' hi ⟨sm, hS⟩
          cases i with
          | succ i => simp at hi
          | zero =>
            obtain rfl : V.str "asks" = x := by simpa using hi
            refine ⟨rfl, _, rfl, _, .str "asks", rfl, rfl, ⟨rfl, by decide +kernel, asks_str⟩, _, hS, sz2 (by decide), sm.mut hD, ?_⟩
            exact upd_same
        · rintro H' ⟨sm, hS⟩
          exact ⟨D, _, rfl, .inl ⟨SqL.of hS, fun l hl => q _ _ (sm.trans (Same.new hl)) ⟨l, rfl, upd_same⟩⟩⟩
      | _ => cases hf
end
end K87
namespace K87
open PySem PySem.Spec PyProof.Rows Cm
open L2 hiding Same
open NdefX
/-! ### BadManner -/
structure PF (P : Program) : Prop where
  file : P.main.file = PySem.Challenge.pw_quietedition_k87_sets_of_manners.main.file
  top : (P.main.scope.names.lookup ("super" : Str)).isSome = false
def spBad (K : PySem.W.Frag) : Sp := fun vs H Q _ => ∃ a x k, vs = [.ref a, x] ∧ OdAt K H x k ∧ H a = some (exo a (He.ga K "BadManner") none) ∧
  ∀ (H' : Hp) (dx : Addr) (y : V), Same H H' → OdAt K H' y k → H' dx = none → dx ≠ a → Q .non (upd (upd H' dx (exd dx [("name", y)])) a (exo a (He.ga K "BadManner") (some dx)))
section
variable {P : Program} {w : World} {K : PySem.W.Frag} {mg : Str → Option Value} {base : Heap} {sa : Addr} {sx : List Int}
theorem exb (T : Tx K mg sa sx) : ExB K (He.ga K "BadManner") (He.ma K (He.ga K "BadManner") "__init__") := exB_ok (x_ebm T)
theorem ws0 (T : Tx K mg sa sx) : fnWS K (He.ma K (He.ga K "BadManner") "__init__") = some (("__init__" : Str), ("BadManner.__init__" : Str), defArgs s_BadManner_init, FuncBody.stmts (defBody s_BadManner_init), defScope s_BadManner_init, mainGlobals, [("__class__" : Str)], builtinsNs) :=
  congrArg (fun z : List FnWS => z.headD none) T.w
theorem ws1 (T : Tx K mg sa sx) : fnWS K (cmG K (He.ga K "Manners") (.type "type") "of") = some (("of" : Str), ("Manners.of" : Str), defArgs s_Manners_of, FuncBody.stmts (defBody s_Manners_of), defScope s_Manners_of, mainGlobals, ([] : List Str), builtinsNs) :=
  congrArg (fun z : List FnWS => z.tail.headD none) T.w
theorem ok_bad (T : Tx K mg sa sx) (hP : PF P) : ∃ fd, FnOk P w K mg base CX0 4 (He.ma K (He.ga K "BadManner") "__init__") fd ["self", "name"] (spBad K) ∧ Binds K fd ["self", "name"] [] := by
  obtain ⟨cc, c, fd, S⟩ := supC_of (P := P) (exb T) (ws0 T) (by rw [hP.file]; exact x_sbm T) (n_super T)
  refine ⟨fd, sup_ok S (N := ["self", "name", "__class__"]) (ps := ["self", "name"]) (nscope_by (by decide +kernel)) (by rfl) (by rfl) (by rfl) hP.top (fun vs H Q E h => ?_) (fun A outer s H vs Q E hr h => ?_) (fun L env he => ?_) (fun L => ?_) (fun L => ?_) (fun L env he => ?_), ?_⟩
  · obtain ⟨a, x, k, rfl, _⟩ := h; rfl
  · obtain ⟨a, x, k, rfl, ho, ha, q⟩ := h
    refine ⟨_, _, a, pe_joined (PJ.cons pe_str (PJ.cons (pe_fmtRO hr (pv 1)) PJ.nil)), (pss_one (ps_ost (pv 0) (pe_cal (ok_copied T) hr (by decide) (pa_cons (pv 1) pa_nil)))), rfl, ha, ?_⟩
    refine ⟨_, rfl, by rw [emp_app]; exact sz1 (by decide +kernel), _, rfl, ⟨k, ho⟩, fun m hm => ⟨m, rfl, by rw [app_len, emp_app]; exact sz1 (Nat.le_trans (Nat.add_le_add_left hm _) (by decide +kernel)), Nat.le_refl _, ha, ?_⟩⟩
    exact ⟨_, rfl, x, k, rfl, ho, fun y H' s' ho' => ⟨_, rfl, a, _, rfl, (exb T).oex, x_nob T, .inl ⟨s' _ _ ha, fun dx hd hne => q _ _ _ s' ho' hd hne⟩⟩⟩
  · subst he; exact ⟨_, rfl⟩
  · rfl
  · rfl
  · subst he; rfl
  · obtain ⟨dV, kV, doc, pm, an, ct, e⟩ := S.fdE
    obtain ⟨oc, od, osl, lk⟩ := S.lk
    have hd := dfN_ok lk (x_dbm T)
    subst e
    obtain rfl : dV = Value.none := hd
    exact .all fun us hl => match us, hl with | [_, _], _ => rfl
end
end K87
namespace K87
open PySem PySem.Spec PyProof.Rows Cm
open L2 hiding Same
/-! ### Manners(names), good names -/
def srt (ts : List Str) : List Str := names7.filter fun z => decide (z ∈ ts)
abbrev MC (K : PySem.W.Frag) : Addr := He.ga K "Manners"
theorem seven : names7.length = 7 := rfl
theorem srt_len (ts : List Str) : (srt ts).length ≤ 7 := List.length_filter_le _ _
theorem ok7 : ∀ z ∈ names7, PyData.strOk z = true := by decide +kernel
theorem srt_ok {ts : List Str} : ∀ z ∈ srt ts, PyData.strOk z = true := fun z hz => ok7 z (List.mem_filter.mp hz).1
def spInit (K : PySem.W.Frag) : Sp := fun vs H Q _ => ∃ y n dx ts, vs = [.ref y, .ref n] ∧ H y = some (.ins (MC K) dx []) ∧ Sq K H n (ts.map V.str) ∧ (∀ z ∈ ts, z ∈ names7) ∧
  ∀ H' t, Same H H' → H' t = some (.tup ((srt ts).map V.str)) → Q .non (upd H' y (.ins (MC K) dx (putF "names" (.ref t) [])))
section
variable {P : Program} {w : World} {K : PySem.W.Frag} {mg : Str → Option Value} {base : Heap} {sa : Addr} {sx : List Int}
theorem cr (T : Tx K mg sa sx) : ClX.CRead K (MC K) (.type "type") := ⟨x_crd T, x_cga T⟩
theorem cv (T : Tx K mg sa sx) : ClX.CVal K (MC K) (.type "type") "ALL" (.ref (valA K (MC K) (.type "type") "ALL")) (.ref (valA K (MC K) (.type "type") "ALL")) := valB_ok (x_all T)
theorem allS (T : Tx K mg sa sx) (H : Hp) : SqT K H (valA K (MC K) (.type "type") "ALL") (names7.map V.str) := tsB_ok (x_allts T) H
theorem allD (T : Tx K mg sa sx) (H : Hp) : Dp K H (.ref (valA K (MC K) (.type "type") "ALL")) (.tuple (names7.map PyData.str)) := .tup (allS T H) (dp_strs _)
theorem ok_Manners_init (T : Tx K mg sa sx) : KCal P w K mg base 2 "Manners" (MC K) (spInit K) [] := by
  obtain ⟨fd, F⟩ := f_Manners_init T
  refine ⟨g_Manners T, _, fd, ["self", "names"], [], m_Manners T, fnok F sc_Manners_init (fun vs H Q E h => ?_) (fun cdv A outer s H vs Q E hr h => ?_), F.bindsN (fun _ _ _ _ _ _ us hl => match us, hl with | [_, _], _ => rfl), .nil⟩
  · obtain ⟨y, n, dx, ts, rfl, _⟩ := h; rfl
  · obtain ⟨y, n, dx, ts, rfl, hy, hn, good, q⟩ := h
    refine ⟨_, (pss_cons (ps_for PassesOwn.never rfl (pi_seq (pv 1)) (pg_name (i := 2) sc_Manners_init.nd rfl (by first | exact Or.inl rfl | exact Or.inr rfl))
      (pss_one (ps_if (pt_cmpR (op_notInT (u65 hr)) (pv 2) (ClX.pe_cval (pe_glob (v := .ref _) rfl (g_Manners T) rfl)) (by rfl)) (pss_one ps_never) pss_nil)))
    (pss_one (ps_fld (pv 0) (pe_callTy (T := "tuple") call_tuple_of rfl (n_tuple T) (by decide +kernel) (pa_cons (pe_lc (own := [("name", 2)]) (g := gName 2) rfl sc_Manners_init.nd (pi_tup (ClX.pe_cval (pe_glob (v := .ref _) rfl (g_Manners T) rfl))) (blkOk_by (own := [("name", 2)]) (N := ["self", "names", "name"]) (sc := defScope s_Manners_init) (by decide +kernel)) (fun _ _ _ _ _ => pg_name (i := 2) sc_Manners_init.nd rfl (Or.inl rfl)) (fun _ _ _ _ _ => (pts_one (pt_cmpR (show OpR _ _ (rIn K false) from op_in_seq) (pv 2) (pv 1) (by rfl)))) (fun _ _ _ _ _ => (pv 2))) pa_nil)) rfl))), ?_⟩
    refine for_seq (K := K) (a := n) (xs := ts.map V.str) (fun Q q => ⟨_, rfl, q⟩) hn (fun i σ H' => ∃ v, σ = [some (.ref y), some (.ref n), v] ∧ H' = H) ⟨none, rfl, rfl⟩ (fun i σ H' hi p => ?_) ?_ ?_
    · obtain ⟨v, rfl, rfl⟩ := p
      exact ⟨id, id⟩
    · rintro i x σ H' hi ⟨v, rfl, rfl⟩
      obtain ⟨hi2, rfl⟩ := strs_at hi
      refine ⟨_, rfl, _, _, _, _, rfl, cr T, cv T, _, _, .str _, allD T _, ?_, shp_strsT ok7, _, rfl, ?_⟩
      · exact shp_str (ok7 _ (good _ (List.getElem_mem hi2)))
      · rw [any_strs]
        exact uF (good _ (List.getElem_mem hi2)) ⟨_, rfl, rfl⟩
    · rintro σ H' ⟨v, rfl, rfl⟩
      refine ⟨_, _, _, _, rfl, cr T, cv T, _, rfl, ⟨_, allS T _⟩, fun D hD => ?_⟩
      refine lc_tup (K := K) (xs := names7.map V.str) (fun i H1 => Same H' H1 ∧ H1 D = some (.lst (((names7.take i).filter fun z => decide (z ∈ ts)).map V.str))) ⟨Same.new hD, upd_same⟩ (fun i H1 _ _ => allS T H1) ?_ ?_
      · rintro i x H1 hi ⟨sm, hS⟩
        obtain ⟨hi2, rfl⟩ := strs_at hi
        refine ⟨rfl, _, rfl, _, rfl, n, _, rfl, hn.same sm, rfl, flat_strs _, _, rfl, ?_⟩
        rw [inV_strs, take_filter hi2]
        refine dC (fun c => ?_) (fun c => ?_)
        · refine ⟨_, rfl, _, hS, sz2 (by rw [List.length_map]; exact Nat.le_trans (filt_len (n := 7) (by decide)) (by decide)), sm.mut hD, ?_⟩
          rw [upd_same, if_pos (decide_eq_true c), List.map_append]; rfl
        · refine ⟨sm, ?_⟩
          rw [if_neg (by simpa using c)]; exact hS
      · rintro H1 ⟨sm, hS⟩
        refine ⟨D, _, rfl, .inl ⟨SqL.of hS, fun t ht => ?_⟩⟩
        have s2 := sm.trans (Same.new ht (o := .tup (((names7.take (names7.map V.str).length).filter fun z => decide (z ∈ ts)).map V.str)))
        refine ⟨_, rfl, y, _, dx, _, rfl, s2 _ _ hy, c_Manners T, na_Manners_names T, by decide, ?_⟩
        exact q _ t s2 (by rw [upd_same]; rfl)
end
end K87
namespace K87
open PySem PySem.Spec PyProof.Rows Cm
open L2 hiding Same
/-! ### Manners(names), an odd one among them -/
def odD : OdK → PyData
  | .str z => .str z
  | .non => .none
  | .zero => .int 0
  | .tru => .bool true
  | .tup => .tuple [.str "asks"]
  | .lst => .list [.str "free"]
/-- an odd value is no name -/
def OdBad : OdK → Prop
  | .str z => z ∉ names7
  | _ => True
theorem od_dp {K : PySem.W.Frag} {H : Hp} {x : V} {k : OdK} (h : OdAt K H x k) : Dp K H x (odD k) := by
  cases k with
  | str z => obtain ⟨rfl, _⟩ := h; exact .str z
  | non => cases (show x = .non from h); exact .non
  | zero => cases (show x = .int 0 from h); exact .int 0
  | tru => cases (show x = .bl true from h); exact .bl true
  | tup => obtain ⟨a, rfl, ha⟩ := h; exact .tup (SqT.of ha) (.cons (.str "asks") .nil)
  | lst => obtain ⟨a, rfl, ha⟩ := h; exact .lst (SqL.of ha) (.cons (.str "free") .nil)
theorem od_shp {K : PySem.W.Frag} {H : Hp} {x : V} {k : OdK} (h : OdAt K H x k) : SeqAt.shaped (odD k) = true := by
  cases k with
  | str z =>
    obtain ⟨_, _, hc⟩ := h
    refine shp_str ?_
    show z.cps.all (· < 0x110000) = true
    rw [← Array.all_toList, List.all_eq_true]
    intro c hc2
    have := hc c hc2
    exact decide_eq_true (by omega)
  | _ => decide +kernel
theorem od_any {k : OdK} (h : OdBad k) : ((names7.map PyData.str).any fun z => PyData.eqv z (odD k)) = false := by
  cases k with
  | str z => exact (any_strs z names7).trans (decide_eq_false h)
  | _ => simp [names7, odD, PyData.eqv]
theorem exo_lst {e C : Addr} {d : Option Addr} {xs : List V} : exo e C d ≠ .lst xs := fun z => by
  have z' : HO.ext _ = HO.lst xs := z
  cases z'
theorem od_move {K : PySem.W.Frag} {H H' : Hp} {x : V} {k : OdK} (m : ∀ b o, H b = some o → (∀ ys, o = .tup ys ∨ o = .lst ys → H' b = some o)) (h : OdAt K H x k) : OdAt K H' x k := by
  cases k with
  | tup => obtain ⟨a, e, h⟩ := h; exact ⟨a, e, m _ _ h _ (.inl rfl)⟩
  | lst => obtain ⟨a, e, h⟩ := h; exact ⟨a, e, m _ _ h _ (.inr rfl)⟩
  | _ => exact h
def spInitO (K : PySem.W.Frag) : Sp := fun vs H Q E => ∃ (y n dx : Addr) (ts : List Str) (x : V) (k : OdK) (rest : List V), vs = [.ref y, .ref n] ∧ Sq K H n (ts.map V.str ++ x :: rest) ∧ (∀ z ∈ ts, z ∈ names7) ∧ OdAt K H x k ∧ OdBad k ∧
  ∀ (H' : Hp) (d : Addr) (v : V), Same H H' → OdAt K H' v k → H' d = some (.xd [("name", v)]) → E (.ref (He.ga K "BadManner")) (some d) H'
section
variable {P : Program} {w : World} {K : PySem.W.Frag} {mg : Str → Option Value} {base : Heap} {sa : Addr} {sx : List Int}
theorem ok_initO (T : Tx K mg sa sx) (hP : PF P) : ∃ fd, FnOk P w K mg base (CX P w) 6 (He.ma K (He.ga K "Manners") "__init__") fd ["self", "names"] (spInitO K) ∧ Binds K fd ["self", "names"] [] := by
  obtain ⟨fd, F⟩ := f_Manners_init T
  obtain ⟨fb, FB, bB⟩ := ok_bad (P := P) (w := w) (base := base) T hP
  refine ⟨fd, F.ok sc_Manners_init (fun vs H Q E h => ?_) (fun cdv A outer s H vs Q E hr h => ?_), F.bindsN (fun _ _ _ _ _ _ us hl => match us, hl with | [_, _], _ => rfl)⟩
  · obtain ⟨y, n, dx, ts, x, k, rest, rfl, _⟩ := h; rfl
  · obtain ⟨y, n, dx, ts, x, k, rest, rfl, hn, good, ho, hb, q⟩ := h
    refine ⟨_, (pss_cons (ps_for (passes_of rfl) rfl (pi_seq (pv 1)) (pg_name (i := 2) sc_Manners_init.nd rfl (by first | exact Or.inl rfl | exact Or.inr rfl))
      (pss_one (ps_if (pt_cmpR (op_notInT (u65 hr)) (pv 2) (ClX.pe_cval (pe_glob (v := .ref _) rfl (g_Manners T) rfl)) (by rfl)) (pss_one (ps_raise rfl (takes_of rfl rfl rfl rfl) (pmk_oex (exb T).oex (exb T).iC (exb T).tI FB (hr.mono (by decide)) bB .nil pass0 rfl (g_BadManner T) (pa_cons (pv 2) pa_nil)))) pss_nil)))
    (pss_one ps_never)), ?_⟩
    refine for_seq (K := K) (a := n) (xs := ts.map V.str ++ x :: rest) (fun Q q => ⟨_, rfl, q⟩) hn (fun i σ H' => ∃ v, i ≤ ts.length ∧ σ = [some (.ref y), some (.ref n), v] ∧ H' = H) ⟨none, Nat.zero_le _, rfl, rfl⟩ (fun i σ H' hi p => ?_) ?_ ?_
    · obtain ⟨v, _, rfl, rfl⟩ := p
      exact ⟨id, id⟩
    · rintro i x2 σ H' hi ⟨v, hle, rfl, rfl⟩
      by_cases hlt : i < ts.length
      · rw [List.getElem?_append_left (by rw [List.length_map]; exact hlt)] at hi
        obtain ⟨hi2, rfl⟩ := strs_at hi
        refine ⟨_, rfl, _, _, _, _, rfl, cr T, cv T, _, _, .str _, allD T _, shp_str (ok7 _ (good _ (List.getElem_mem hi2))), shp_strsT ok7, _, rfl, ?_⟩
        rw [any_strs]
        exact uF (good _ (List.getElem_mem hi2)) ⟨_, hlt, rfl, rfl⟩
      · have ei : i = ts.length := by omega
        subst ei
        rw [List.getElem?_append_right (by rw [List.length_map]; omega), List.length_map, Nat.sub_self] at hi
        obtain rfl : x = x2 := by simpa using hi
        refine ⟨_, rfl, _, _, _, _, rfl, cr T, cv T, _, _, od_dp ho, allD T _, od_shp ho, shp_strsT ok7, _, rfl, ?_⟩
        rw [od_any hb]
        refine iteT ?_
        refine ⟨_, rfl, (show 1 ≤ 1000 by decide), fun a ha => ⟨a, x, k, rfl, od_same (Same.new ha) ho, upd_same, fun H1 d1 v1 s1 o1 hd1 ne => ⟨rfl, d1, [("name", v1)], upd_same, ?_, ?_, ?_⟩⟩⟩
        · rw [upd_ne ne, upd_same]
        · have e := s1.free hd1
          rw [upd_ne ne] at e
          exact e
        · have ha1 := s1 _ _ upd_same
          refine q _ d1 v1 (fun b o hbo => ?_) (od_move (fun b o hbo ys hy => ?_) o1) upd_same
          · have nb : b ≠ a := ne_of_none hbo ha
            have h1 := s1 b o (by rw [upd_ne nb]; exact hbo)
            have nd : b ≠ d1 := ne_of_none h1 hd1
            rw [upd_ne nd, del_ne nb, upd_ne nb, upd_ne nd]
            exact h1
          · have nd : b ≠ d1 := ne_of_none hbo hd1
            have nb : b ≠ a := fun z => by
              rw [z, ha1] at hbo
              rcases hy with rfl | rfl
              · exact exo_tup (Option.some.inj hbo)
              · exact exo_lst (Option.some.inj hbo)
            rw [upd_ne nd, del_ne nb, upd_ne nb, upd_ne nd]
            exact hbo
    · rintro σ H' ⟨v, hle, _⟩
      rw [List.length_append, List.length_map, List.length_cons] at hle
      omega
end
end K87
namespace K87
open PySem PySem.Spec PyProof.Rows Cm
open L2 hiding Same
/-! ### the methods of Manners -/
def MnAt (K : PySem.W.Frag) (H : Hp) (a : Addr) (us : List Str) : Prop := ∃ dx t, H a = some (.ins (MC K) dx (putF "names" (.ref t) [])) ∧ H t = some (.tup ((srt us).map V.str))
theorem MnAt.same {K : PySem.W.Frag} {H H' : Hp} {a : Addr} {us : List Str} (h : MnAt K H a us) (s : Same H H') : MnAt K H' a us :=
  let ⟨dx, t, h1, h2⟩ := h; ⟨dx, t, s _ _ h1, s _ _ h2⟩
theorem srt_good {us : List Str} : ∀ z ∈ srt us, z ∈ names7 := fun z hz => (List.mem_filter.mp hz).1
theorem srt_congr {xs ys : List Str} (h : ∀ z ∈ names7, z ∈ xs ↔ z ∈ ys) : srt xs = srt ys := by
  unfold srt
  refine List.filter_congr fun z hz => ?_
  exact decide_eq_decide.mpr (h z hz)
theorem mem_srt {us : List Str} {z : Str} : z ∈ srt us ↔ z ∈ names7 ∧ z ∈ us := by
  unfold srt
  rw [List.mem_filter, decide_eq_true_iff]
/-- what Manners(n) gives -/
theorem made {K : PySem.W.Frag} {H1 : Hp} {n : Addr} {ts : List Str} {Q : VK} {E : XK} (hn : Sq K H1 n (ts.map V.str)) (good : ∀ z ∈ ts, z ∈ names7) (q : ∀ x H2, Same H1 H2 → MnAt K H2 x ts → Q (.ref x) H2) :
    ∀ x dx, H1 x = none → H1 dx = none → dx ≠ x → spInit K (.ref x :: ([.ref n] ++ [])) (upd (upd H1 dx (.own x)) x (.ins (MC K) dx [])) (fun v H2 => v = .non ∧ Q (.ref x) H2) E := fun x dx hx hdx ne => by
  have s0 : Same H1 (upd (upd H1 dx (.own x)) x (.ins (MC K) dx [])) := (Same.new hdx).trans (Same.new (by rw [upd_ne ne.symm]; exact hx))
  refine ⟨x, n, dx, ts, rfl, upd_same, hn.same s0, good, fun H' t s ht => ⟨rfl, q x _ ((s0.trans s).mut hx) ⟨dx, t, upd_same, ?_⟩⟩⟩
  have e := s _ _ upd_same
  have nt : t ≠ x := fun z => by
    rw [z, e] at ht
    cases ht
  rw [upd_ne nt]
  exact ht
def spCont (K : PySem.W.Frag) : Sp := fun vs H Q _ => ∃ a us z, vs = [.ref a, .str z] ∧ MnAt K H a us ∧ Q (.bl (decide (z ∈ srt us))) H
def spLen (K : PySem.W.Frag) : Sp := fun vs H Q _ => ∃ a us, vs = [.ref a] ∧ MnAt K H a us ∧ Q (.int ((srt us).length : Nat)) H
def spIter (K : PySem.W.Frag) : Sp := fun vs H Q _ => ∃ a us, vs = [.ref a] ∧ MnAt K H a us ∧ ∀ t it, H t = some (.tup ((srt us).map V.str)) → H it = none → Q (.ref it) (upd H it (ItT t it 0))
def orNone (ts : List Str) : List Str := if ts = [] then ["none"] else ts
def spStr (K : PySem.W.Frag) : Sp := fun vs H Q _ => ∃ a us, vs = [.ref a] ∧ MnAt K H a us ∧ ∀ H', Same H H' → Q (.str (Txt.join " " (orNone (srt us)))) H'
def spPart (K : PySem.W.Frag) : Sp := fun vs H Q _ => ∃ a us b ws, vs = [.ref a, .ref b] ∧ MnAt K H a us ∧ MnAt K H b ws ∧ ∀ H', Same H H' → Q (.bl ((srt us).all fun z => decide (z ∈ srt ws))) H'
def spEq (K : PySem.W.Frag) : Sp := fun vs H Q _ => ∃ a us y, vs = [.ref a, y] ∧ MnAt K H a us ∧ ((∃ b ws, y = .ref b ∧ MnAt K H b ws ∧ Q (.bl (decide (srt us = srt ws))) H) ∨ (∃ t xs, y = .ref t ∧ H t = some (.tup xs) ∧ Q (.bl false) H))
def spBin (K : PySem.W.Frag) (f : List Str → List Str → List Str) : Sp := fun vs H Q _ => ∃ a us b ws, vs = [.ref a, .ref b] ∧ MnAt K H a us ∧ MnAt K H b ws ∧ ∀ y H', Same H H' → MnAt K H' y (f (srt us) (srt ws)) → Q (.ref y) H'
def fOr (xs ys : List Str) : List Str := xs ++ ys
def fAnd (xs ys : List Str) : List Str := xs.filter fun z => decide (z ∈ ys)
def fSub (xs ys : List Str) : List Str := xs.filter fun z => !decide (z ∈ ys)
section
variable {P : Program} {w : World} {K : PySem.W.Frag} {mg : Str → Option Value} {base : Heap} {sa : Addr} {sx : List Int}
theorem mn_ty (T : Tx K mg sa sx) {H : Hp} {a dx : Addr} {fs : List (Str × V)} (h : H a = some (.ins (MC K) dx fs)) : TyX K H (.ref a) (.ref (MC K)) := .base (.ins h (c_Manners T) (x_cc T) (x_cget T) (x_ctak T) (x_mro T))
theorem ok_contains (T : Tx K mg sa sx) : MCal P w K mg base 1 (MC K) "__contains__" (spCont K) := by
  obtain ⟨fd, F⟩ := f_Manners_contains T
  refine ⟨c_Manners T, _, fd, ["self", "name"], fnok F sc_Manners_contains (fun vs H Q E h => ?_) (fun cdv A outer s H vs Q E hr h => ?_), F.bindsN fun _ _ _ _ _ _ us hl => match us, hl with | [_, _], _ => rfl, me_Manners_contains T⟩
  · obtain ⟨a, us, z, rfl, _⟩ := h; rfl
  · obtain ⟨a, us, z, rfl, ⟨dx, t, ha, ht⟩, q⟩ := h
    refine ⟨_, (pss_one (ps_ret (pe_cmpR op_in_seq (pv 1) (pe_fld (pv 0) rfl) (by rfl)))), ?_⟩
    refine ⟨_, rfl, _, rfl, a, _, dx, _, _, rfl, ha, c_Manners T, na_Manners_names T, fl1, t, _, rfl, .inr (SqT.of ht), rfl, flat_strs _, ?_⟩
    rw [inV_strs]
    exact q
theorem ok_len (T : Tx K mg sa sx) : MCal P w K mg base 1 (MC K) "__len__" (spLen K) := by
  obtain ⟨fd, F⟩ := f_Manners_len T
  refine ⟨c_Manners T, _, fd, ["self"], fnok F sc_Manners_len (fun vs H Q E h => ?_) (fun cdv A outer s H vs Q E hr h => ?_), F.bindsN fun _ _ _ _ _ _ us hl => match us, hl with | [_], _ => rfl, me_Manners_len T⟩
  · obtain ⟨a, us, rfl, _⟩ := h; rfl
  · obtain ⟨a, us, rfl, ⟨dx, t, ha, ht⟩, q⟩ := h
    refine ⟨_, (pss_one (ps_ret (pe_callB (id := "len") call_len_seq rfl (n_len T) (by decide +kernel) (pa_cons (pe_fld (pv 0) rfl) pa_nil)))), ?_⟩
    refine ⟨_, rfl, a, _, dx, _, _, rfl, ha, c_Manners T, na_Manners_names T, fl1, t, _, rfl, .inr (SqT.of ht), ?_⟩
    rw [List.length_map]
    exact q
theorem ok_iter (T : Tx K mg sa sx) : MCal P w K mg base 1 (MC K) "__iter__" (spIter K) := by
  obtain ⟨fd, F⟩ := f_Manners_iter T
  refine ⟨c_Manners T, _, fd, ["self"], fnok F sc_Manners_iter (fun vs H Q E h => ?_) (fun cdv A outer s H vs Q E hr h => ?_), F.bindsN fun _ _ _ _ _ _ us hl => match us, hl with | [_], _ => rfl, me_Manners_iter T⟩
  · obtain ⟨a, us, rfl, _⟩ := h; rfl
  · obtain ⟨a, us, rfl, ⟨dx, t, ha, ht⟩, q⟩ := h
    refine ⟨_, (pss_one (ps_ret (pe_callB (id := "iter") call_iterT rfl (n_iter T) (by decide +kernel) (pa_cons (pe_fld (pv 0) rfl) pa_nil)))), ?_⟩
    exact ⟨_, rfl, a, _, dx, _, _, rfl, ha, c_Manners T, na_Manners_names T, fl1, t, _, rfl, SqT.of ht, fun it hit => q t it ht hit⟩
theorem sum_names : ∀ ts : List Str, (∀ z ∈ ts, z ∈ names7) → (ts.map (·.length)).sum ≤ 8 * ts.length
  | [], _ => Nat.le_refl _
  | z :: ts, h => by
    have h1 := sum_names ts fun y hy => h y (List.mem_cons_of_mem _ hy)
    have h2 : ∀ z ∈ names7, z.length ≤ 8 := by decide +kernel
    have h3 := h2 z (h z List.mem_cons_self)
    rw [List.map_cons, List.sum_cons, List.length_cons]
    omega
theorem ok_str (T : Tx K mg sa sx) : MCal P w K mg base 1 (MC K) "__str__" (spStr K) := by
  obtain ⟨fd, F⟩ := f_Manners_str T
  refine ⟨c_Manners T, _, fd, ["self"], fnok F sc_Manners_str (fun vs H Q E h => ?_) (fun cdv A outer s H vs Q E hr h => ?_), F.bindsN fun _ _ _ _ _ _ us hl => match us, hl with | [_], _ => rfl, me_Manners_str T⟩
  · obtain ⟨a, us, rfl, _⟩ := h; rfl
  · obtain ⟨a, us, rfl, ⟨dx, t, ha, ht⟩, q⟩ := h
    refine ⟨_, (pss_one (ps_ret (pe_join pe_str (pe_ifExp (pt_cmpR op_gt (pe_callB (id := "len") call_len_seq rfl (n_len T) (by decide +kernel) (pa_cons (pe_fld (pv 0) rfl) pa_nil)) pe_int (nomark _)) (pe_fld (pv 0) rfl) (pe_tup (pa_cons pe_str pa_nil)))))), ?_⟩
    refine ⟨⟨_, rfl⟩, _, rfl, a, _, dx, _, _, rfl, ha, c_Manners T, na_Manners_names T, fl1, t, _, rfl, .inr (SqT.of ht), _, _, rfl, rfl, _, rfl, dC (fun c => ?_) (fun c => ?_)⟩
    · have ne : srt us ≠ [] := fun z => by
        rw [z] at c
        exact absurd c (by decide)
      refine ⟨_, rfl, a, _, dx, _, _, rfl, ha, c_Manners T, na_Manners_names T, fl1, _, t, srt us, rfl, rfl, .inr (SqT.of ht), ?_, ?_⟩
      · have h1 := sum_names (srt us) srt_good
        have h2 := srt_len us
        have h3 : (" " : Str).length = 1 := by decide +kernel
        rw [h3]
        omega
      · have e : orNone (srt us) = srt us := if_neg ne
        have z := q H (Cm.Same.refl _)
        rw [e] at z
        exact z
    · have em : srt us = [] := by
        cases e : srt us with
        | nil => rfl
        | cons z zs =>
          rw [e] at c
          exact absurd (by simp) c
      refine ⟨sz1 (by simp), fun l hl => ⟨_, l, [("none" : Str)], rfl, rfl, .inr (SqT.of upd_same), by decide +kernel, ?_⟩⟩
      have e : orNone (srt us) = [("none" : Str)] := if_pos em
      have z := q _ (Same.new hl (o := .tup [V.str "none"]))
      rw [e] at z
      exact z
theorem ok_eq (T : Tx K mg sa sx) : MCal P w K mg base 1 (MC K) "__eq__" (spEq K) := by
  obtain ⟨fd, F⟩ := f_Manners_eq T
  refine ⟨c_Manners T, _, fd, ["self", "other"], fnok F sc_Manners_eq (fun vs H Q E h => ?_) (fun cdv A outer s H vs Q E hr h => ?_), F.bindsN fun _ _ _ _ _ _ us hl => match us, hl with | [_, _], _ => rfl, me_Manners_eq T⟩
  · obtain ⟨a, us, y, rfl, _⟩ := h; rfl
  · obtain ⟨a, us, y, rfl, ⟨dx, t, ha, ht⟩, h⟩ := h
    refine ⟨_, (pss_one (ps_ret (pe_and (pe_callB (id := "isinstance") (r := rIsi K) call_isi rfl (n_isinstance T) (by decide +kernel) (pa_cons (pv 1) (pa_cons (pe_glob (v := .ref _) rfl (g_Manners T) rfl) pa_nil))) (pe_one (pe_cmpR (op_eqD hr.units) (pe_fld (pv 0) rfl) (pe_fld (pv 1) rfl) (nomark _)))))), ?_⟩
    rcases h with ⟨b, ws, rfl, ⟨dx2, t2, hb, ht2⟩, q⟩ | ⟨t2, xs, rfl, h2, q⟩
    · refine ⟨_, rfl, .ref b, .ref (MC K), _, _, true, rfl, .own _, mn_ty T hb, x_kit T, true, rfl, iteT ?_⟩
      refine ⟨_, rfl, a, _, dx, _, _, rfl, ha, c_Manners T, na_Manners_names T, fl1, _, rfl, b, _, dx2, _, _, rfl, hb, c_Manners T, na_Manners_names T, fl1, _, _, .tup (SqT.of ht) (dp_strs _), .tup (SqT.of ht2) (dp_strs _), shp_strsT srt_ok, shp_strsT srt_ok, ?_⟩
      rw [eqv_strsT]
      exact q
    · exact ⟨_, rfl, .ref t2, .ref (MC K), _, _, false, rfl, .own _, .base (.tup h2), x_kitt T, false, rfl, iteF q⟩
end
end K87
namespace K87
open PySem PySem.Spec PyProof.Rows Cm
open L2 hiding Same
section
variable {P : Program} {w : World} {K : PySem.W.Frag} {mg : Str → Option Value} {base : Heap} {sa : Addr} {sx : List Int}
theorem ok_is_part_of (T : Tx K mg sa sx) : MCal P w K mg base 1 (MC K) "is_part_of" (spPart K) := by
  obtain ⟨fd, F⟩ := f_Manners_is_part_of T
  refine ⟨c_Manners T, _, fd, ["self", "other"], fnok F sc_Manners_is_part_of (fun vs H Q E h => ?_) (fun cdv A outer s H vs Q E hr h => ?_), F.bindsN fun _ _ _ _ _ _ us hl => match us, hl with | [_, _], _ => rfl, me_Manners_is_part_of T⟩
  · obtain ⟨a, us, b, ws, rfl, _⟩ := h; rfl
  · obtain ⟨a, us, b, ws, rfl, ⟨dx, t, ha, ht⟩, ⟨dx2, t2, hb, ht2⟩, q⟩ := h
    refine ⟨_, (pss_one (ps_ret (pe_callB (id := "all") (cr_all rfl) rfl (n_all T) (by decide +kernel) (pa_cons (pe_lc (own := [("name", 2)]) (g := gName 2) rfl sc_Manners_is_part_of.nd (pi_tup (pe_fld (pv 0) rfl)) (blkOk_by (own := [("name", 2)]) (N := ["self", "other", "name"]) (sc := defScope s_Manners_is_part_of) (by decide +kernel)) (fun _ _ _ _ _ => pg_name (i := 2) sc_Manners_is_part_of.nd rfl (Or.inl rfl)) (fun _ _ _ _ _ => pts_nil) (fun _ _ _ _ _ => (pe_cmpR (show OpR _ _ (rIn K false) from op_in_seq) (pv 2) (show PE _ _ (tFld K _ _) from pe_fld (pv 1) rfl) (by rfl)))) pa_nil)))), ?_⟩
    refine ⟨_, rfl, a, _, dx, _, _, rfl, ha, c_Manners T, na_Manners_names T, fl1, t, rfl, ⟨_, SqT.of ht⟩, fun D hD => ?_⟩
    refine lc_tup (K := K) (a := t) (xs := (srt us).map V.str) (fun i H1 => Same H H1 ∧ H1 D = some (.lst ((((srt us).take i).map fun z => decide (z ∈ srt ws)).map V.bl))) ⟨Same.new hD, upd_same⟩ (fun i H1 _ ⟨sm, _⟩ => SqT.of (sm _ _ ht)) ?_ ?_
    · rintro i x H1 hi ⟨sm, hS⟩
      obtain ⟨hi2, rfl⟩ := strs_at hi
      refine ⟨rfl, _, rfl, _, rfl, b, _, dx2, _, _, rfl, sm _ _ hb, c_Manners T, na_Manners_names T, fl1, t2, _, rfl, .inr (SqT.of (sm _ _ ht2)), rfl, flat_strs _, _, hS, sz2 ?_, sm.mut hD, ?_⟩
      · rw [List.length_map, List.length_map, List.length_take]
        have := srt_len us
        omega
      · rw [upd_same, inV_strs, List.take_add_one, List.getElem?_eq_getElem hi2, List.map_append, List.map_append]
        rfl
    · rintro H1 ⟨sm, hS⟩
      rw [List.length_map, List.take_length] at hS
      refine ⟨D, _, rfl, SqL.of hS, ?_⟩
      rw [List.all_map]
      exact q _ sm
theorem ok_or (T : Tx K mg sa sx) : MCal P w K mg base 4 (MC K) "__or__" (spBin K fOr) := by
  obtain ⟨fd, F⟩ := f_Manners_or T
  refine ⟨c_Manners T, _, fd, ["self", "other"], fnok F sc_Manners_or (fun vs H Q E h => ?_) (fun cdv A outer s H vs Q E hr h => ?_), F.bindsN fun _ _ _ _ _ _ us hl => match us, hl with | [_, _], _ => rfl, me_Manners_or T⟩
  · obtain ⟨a, us, b, ws, rfl, _⟩ := h; rfl
  · obtain ⟨a, us, b, ws, rfl, ⟨dx, t, ha, ht⟩, ⟨dx2, t2, hb, ht2⟩, q⟩ := h
    refine ⟨_, (pss_one (ps_ret (pe_kal (ok_Manners_init T) hr (by decide) (pa_cons (pe_op op_catA (pe_fld (pv 0) rfl) (pe_fld (pv 1) rfl)) pa_nil)))), ?_⟩
    have good : ∀ z ∈ srt us ++ srt ws, z ∈ names7 := fun z hz => (List.mem_append.mp hz).elim (srt_good z) (srt_good z)
    have l1 := srt_len us
    have l2 := srt_len ws
    refine ⟨_, rfl, a, _, dx, _, _, rfl, ha, c_Manners T, na_Manners_names T, fl1, _, rfl, b, _, dx2, _, _, rfl, hb, c_Manners T, na_Manners_names T, fl1, t, t2, _, _, rfl, rfl, SqT.of ht, SqT.of ht2, sz1 (by rw [List.length_map, List.length_map]; omega), fun e => ?_, fun n1 e => ?_, fun n1 n2 p hp => ?_⟩
    · have e1 : srt us = [] := by simpa using e
      exact made (ts := srt us ++ srt ws) (.inr (by rw [e1]; exact SqT.of ht2)) good fun x H2 s h => q x H2 s h
    · have e1 : srt ws = [] := by simpa using e
      exact made (ts := srt us ++ srt ws) (.inr (by rw [e1, List.append_nil]; exact SqT.of ht)) good fun x H2 s h => q x H2 s h
    · exact made (ts := srt us ++ srt ws) (.inr (SqT.of (by rw [upd_same, List.map_append]))) good fun x H2 s h => q x H2 ((Same.new hp).trans s) h
theorem ok_and (T : Tx K mg sa sx) : MCal P w K mg base 4 (MC K) "__and__" (spBin K fAnd) := by
  obtain ⟨fd, F⟩ := f_Manners_and T
  refine ⟨c_Manners T, _, fd, ["self", "other"], fnok F sc_Manners_and (fun vs H Q E h => ?_) (fun cdv A outer s H vs Q E hr h => ?_), F.bindsN fun _ _ _ _ _ _ us hl => match us, hl with | [_, _], _ => rfl, me_Manners_and T⟩
  · obtain ⟨a, us, b, ws, rfl, _⟩ := h; rfl
  · obtain ⟨a, us, b, ws, rfl, ⟨dx, t, ha, ht⟩, ⟨dx2, t2, hb, ht2⟩, q⟩ := h
    refine ⟨_, (pss_one (ps_ret (pe_kal (ok_Manners_init T) hr (by decide) (pa_cons (pe_lc (own := [("name", 2)]) (g := gName 2) rfl sc_Manners_and.nd (pi_tup (pe_fld (pv 0) rfl)) (blkOk_by (own := [("name", 2)]) (N := ["self", "other", "name"]) (sc := defScope s_Manners_and) (by decide +kernel)) (fun _ _ _ _ _ => pg_name (i := 2) sc_Manners_and.nd rfl (Or.inl rfl)) (fun _ _ _ _ _ => (pts_one (pt_cmpR (show OpR _ _ (rIn K false) from op_in_seq) (pv 2) (show PE _ _ (tFld K _ _) from pe_fld (pv 1) rfl) (by rfl)))) (fun _ _ _ _ _ => (pv 2))) pa_nil)))), ?_⟩
    refine ⟨_, rfl, a, _, dx, _, _, rfl, ha, c_Manners T, na_Manners_names T, fl1, t, rfl, ⟨_, SqT.of ht⟩, fun D hD => ?_⟩
    refine lc_tup (K := K) (a := t) (xs := (srt us).map V.str) (fun i H1 => Same H H1 ∧ H1 D = some (.lst ((((srt us).take i).filter fun z => decide (z ∈ srt ws)).map V.str))) ⟨Same.new hD, upd_same⟩ (fun i H1 _ ⟨sm, _⟩ => SqT.of (sm _ _ ht)) ?_ ?_
    · rintro i x H1 hi ⟨sm, hS⟩
      obtain ⟨hi2, rfl⟩ := strs_at hi
      refine ⟨rfl, _, rfl, _, rfl, b, _, dx2, _, _, rfl, sm _ _ hb, c_Manners T, na_Manners_names T, fl1, t2, _, rfl, .inr (SqT.of (sm _ _ ht2)), rfl, flat_strs _, _, rfl, ?_⟩
      rw [inV_strs, take_filter hi2]
      refine dC (fun c => ?_) (fun c => ?_)
      · refine ⟨_, rfl, _, hS, sz2 (by rw [List.length_map]; exact Nat.le_trans (filt_len (n := 7) (srt_len us)) (by decide)), sm.mut hD, ?_⟩
        rw [upd_same, if_pos (decide_eq_true c), List.map_append]; rfl
      · refine ⟨sm, ?_⟩
        rw [if_neg (by simpa using c)]; exact hS
    · rintro H1 ⟨sm, hS⟩
      rw [List.length_map, List.take_length] at hS
      exact made (ts := fAnd (srt us) (srt ws)) (.inl (SqL.of hS)) (fun z hz => srt_good z (List.mem_filter.mp hz).1) fun x H2 s h => q x H2 (sm.trans s) h
theorem ok_sub (T : Tx K mg sa sx) : MCal P w K mg base 4 (MC K) "__sub__" (spBin K fSub) := by
  obtain ⟨fd, F⟩ := f_Manners_sub T
  refine ⟨c_Manners T, _, fd, ["self", "other"], fnok F sc_Manners_sub (fun vs H Q E h => ?_) (fun cdv A outer s H vs Q E hr h => ?_), F.bindsN fun _ _ _ _ _ _ us hl => match us, hl with | [_, _], _ => rfl, me_Manners_sub T⟩
  · obtain ⟨a, us, b, ws, rfl, _⟩ := h; rfl
  · obtain ⟨a, us, b, ws, rfl, ⟨dx, t, ha, ht⟩, ⟨dx2, t2, hb, ht2⟩, q⟩ := h
    refine ⟨_, (pss_one (ps_ret (pe_kal (ok_Manners_init T) hr (by decide) (pa_cons (pe_lc (own := [("name", 2)]) (g := gName 2) rfl sc_Manners_sub.nd (pi_tup (pe_fld (pv 0) rfl)) (blkOk_by (own := [("name", 2)]) (N := ["self", "other", "name"]) (sc := defScope s_Manners_sub) (by decide +kernel)) (fun _ _ _ _ _ => pg_name (i := 2) sc_Manners_sub.nd rfl (Or.inl rfl)) (fun _ _ _ _ _ => (pts_one (pt_cmpR (show OpR _ _ (rIn K true) from op_notIn_seq) (pv 2) (show PE _ _ (tFld K _ _) from pe_fld (pv 1) rfl) (by rfl)))) (fun _ _ _ _ _ => (pv 2))) pa_nil)))), ?_⟩
    refine ⟨_, rfl, a, _, dx, _, _, rfl, ha, c_Manners T, na_Manners_names T, fl1, t, rfl, ⟨_, SqT.of ht⟩, fun D hD => ?_⟩
    refine lc_tup (K := K) (a := t) (xs := (srt us).map V.str) (fun i H1 => Same H H1 ∧ H1 D = some (.lst ((((srt us).take i).filter fun z => !decide (z ∈ srt ws)).map V.str))) ⟨Same.new hD, upd_same⟩ (fun i H1 _ ⟨sm, _⟩ => SqT.of (sm _ _ ht)) ?_ ?_
    · rintro i x H1 hi ⟨sm, hS⟩
      obtain ⟨hi2, rfl⟩ := strs_at hi
      refine ⟨rfl, _, rfl, _, rfl, b, _, dx2, _, _, rfl, sm _ _ hb, c_Manners T, na_Manners_names T, fl1, t2, _, rfl, .inr (SqT.of (sm _ _ ht2)), rfl, flat_strs _, _, rfl, ?_⟩
      rw [inV_strs, take_filter hi2]
      refine uC (fun c => ?_) (fun c => ?_)
      · refine ⟨_, rfl, _, hS, sz2 (by rw [List.length_map]; exact Nat.le_trans (filt_len (n := 7) (srt_len us)) (by decide)), sm.mut hD, ?_⟩
        rw [upd_same, if_pos (by simpa using c), List.map_append]; rfl
      · refine ⟨sm, ?_⟩
        rw [if_neg (by simpa using c)]; exact hS
    · rintro H1 ⟨sm, hS⟩
      rw [List.length_map, List.take_length] at hS
      exact made (ts := fSub (srt us) (srt ws)) (.inl (SqL.of hS)) (fun z hz => srt_good z (List.mem_filter.mp hz).1) fun x H2 s h => q x H2 (sm.trans s) h
end
end K87
namespace K87
open PySem PySem.Spec PyProof.Rows Cm
open L2 hiding Same
/-! ### Manners.of -/
abbrev OfG (K : PySem.W.Frag) : Addr := cmG K (MC K) (.type "type") "of"
def spOf (K : PySem.W.Frag) : Sp := fun vs H Q _ => ∃ ts, vs = .ref (MC K) :: ts.map V.str ∧ ts.length ≤ 100 ∧ (∀ z ∈ ts, z ∈ names7) ∧ ∀ x H', Same H H' → MnAt K H' x ts → Q (.ref x) H'
def spOfO (K : PySem.W.Frag) : Sp := fun vs H Q E => ∃ (ts : List Str) (x : V) (k : OdK) (rest : List V), vs = .ref (MC K) :: (ts.map V.str ++ x :: rest) ∧ (ts.map V.str ++ x :: rest).length ≤ 100 ∧ (∀ z ∈ ts, z ∈ names7) ∧ OdAt K H x k ∧ OdBad k ∧
  ∀ (H' : Hp) (d : Addr) (v : V), Same H H' → OdAt K H' v k → H' d = some (.xd [("name", v)]) → E (.ref (He.ga K "BadManner")) (some d) H'
theorem sc_of : FnScope ["cls", "names"] ([("cls" : Str)] ++ [("names" : Str)]) (defScope s_Manners_of) := ⟨rfl, rfl, rfl, by decide +kernel, rfl, by decide +kernel, by decide +kernel⟩
theorem bind_of (kV doc pm : Value) (an : Option Addr) (cdv ct : Value) : ∀ us rest : List Value, us.length = [("cls" : Str)].length → bindArgs (PySem.W.fnOf "of" "Manners.of" (defArgs s_Manners_of) (defBody s_Manners_of) (defScope s_Manners_of) .none kV doc pm an cdv ct) ⟨us ++ rest, []⟩ = (newTuple rest >>= fun t => pure ([("cls" : Str)].zip us ++ [(("names" : Str), t)])) :=
  StX.bind_star1 (B := fun us => bindArgs (PySem.W.fnOf "of" "Manners.of" (defArgs s_Manners_of) (defBody s_Manners_of) (defScope s_Manners_of) .none kV doc pm an cdv ct) ⟨us, []⟩) (p1 := "cls") (pv := "names") (fun a => rfl) (fun a r rs => rfl)
section
variable {P : Program} {w : World} {K : PySem.W.Frag} {mg : Str → Option Value} {base : Heap} {sa : Addr} {sx : List Int}
theorem ofc (T : Tx K mg sa sx) : ClX.CMet K (MC K) (.type "type") "of" (cmP K (MC K) (.type "type") "of") (OfG K) := cmB_ok (x_of T)
theorem ok_of (T : Tx K mg sa sx) : FnR P w K mg base CX0 5 (OfG K) (spOf K) := by
  obtain ⟨oc, od, kV, doc, pm, an, cdv, ct, osl, lk, hcd⟩ := star_of (ws1 T) (x_ofst T)
  obtain ⟨g, f, fd, ps, ds, M, F, b, v⟩ := ok_Manners_init (P := P) (w := w) (base := base) T
  refine FnR.imp (StX.fn_star (CX := CX0) (k := 4) (ps := ["cls"]) (sp := fun vs H Q _ => ∃ p ts, vs = [.ref (MC K), .ref p] ∧ SqT K H p (ts.map V.str) ∧ (∀ z ∈ ts, z ∈ names7) ∧ ∀ x H', Same H H' → MnAt K H' x ts → Q (.ref x) H') lk hcd sc_of ?_ ?_ ?_) ?_
  · exact StX.cxUp_none
  · exact bind_of kV doc pm an cdv ct
  · rintro A outer s H vs Q E hr ⟨p, ts, rfl, hp, good, q⟩
    refine ⟨_, (pss_one (ps_ret (pe_makeL (i := 0) M F (hr.mono (by decide)) rfl (Or.inl rfl) b v (E := E0) pass0 (pa_cons (pv 1) pa_nil)))), ?_⟩
    exact ⟨rfl, _, rfl, made (.inr hp) good q⟩
  · rintro vs H Q E ⟨ts, rfl, hl, good, q⟩
    refine ⟨[.ref (MC K)], ts.map V.str, rfl, rfl, sz1 (by rw [List.length_map]; omega), fun p hp => ⟨p, ts, rfl, SqT.of upd_same, good, fun x H' s h => q x H' ((Same.new hp).trans s) h⟩⟩
theorem ok_ofO (T : Tx K mg sa sx) (hP : PF P) : FnR P w K mg base (CX P w) 8 (OfG K) (spOfO K) := by
  obtain ⟨oc, od, kV, doc, pm, an, cdv, ct, osl, lk, hcd⟩ := star_of (ws1 T) (x_ofst T)
  obtain ⟨fd, F, b⟩ := ok_initO (P := P) (w := w) (base := base) T hP
  refine FnR.imp (StX.fn_star (CX := CX P w) (k := 7) (ps := ["cls"]) (sp := fun vs H Q E => ∃ (p : Addr) (ts : List Str) (x : V) (k : OdK) (rest : List V), vs = [.ref (MC K), .ref p] ∧ SqT K H p (ts.map V.str ++ x :: rest) ∧ (∀ z ∈ ts, z ∈ names7) ∧ OdAt K H x k ∧ OdBad k ∧
    ∀ (H' : Hp) (d : Addr) (v : V), Same H H' → OdAt K H' v k → H' d = some (.xd [("name", v)]) → E (.ref (He.ga K "BadManner")) (some d) H') lk hcd sc_of StX.cxUp (bind_of kV doc pm an cdv ct) ?_) ?_
  · rintro A outer s H vs Q E hr ⟨p, ts, x, k, rest, rfl, hp, good, ho, hb, q⟩
    refine ⟨_, (pss_one (ps_ret (pe_makeL (i := 0) (m_Manners T) F hr rfl (Or.inl rfl) b .nil (E := E) (passes_call (takes_of rfl rfl rfl rfl) (fun _ _ _ _ h => h)) (pa_cons (pv 1) pa_nil)))), ?_⟩
    refine ⟨rfl, _, rfl, fun y dx hy hdx ne => ?_⟩
    have s0 : Same H (upd (upd H dx (.own y)) y (.ins (MC K) dx [])) := (Same.new hdx).trans (Same.new (by rw [upd_ne ne.symm]; exact hy))
    exact ⟨y, p, dx, ts, x, k, rest, rfl, .inr (s0.st hp), good, od_same s0 ho, hb, fun H' d v s h1 h2 => q H' d v (s0.trans s) h1 h2⟩
  · rintro vs H Q E ⟨ts, x, k, rest, rfl, hl, good, ho, hb, q⟩
    refine ⟨[.ref (MC K)], ts.map V.str ++ x :: rest, rfl, rfl, sz1 (by omega), fun p hp => ⟨p, ts, x, k, rest, rfl, SqT.of upd_same, good, od_same (Same.new hp) ho, hb, fun H' d v s h1 h2 => q H' d v ((Same.new hp).trans s) h1 h2⟩⟩
end
end K87
namespace K87
open PySem PySem.Spec PyProof.Rows Cm
open L2 hiding Same
/-! ### drawing -/
def spDraw (K : PySem.W.Frag) (sa : Addr) (sx : List Int) : Sp := fun vs H Q _ => ∃ p m, vs = [.ref p, .int m] ∧ 0 < m ∧ IntOk m ∧ PoolAt K sa sx H p ∧ ∀ k H', 0 ≤ k → k < m → Kp p H H' → PoolAt K sa sx H' p → Q (.int k) H'
def spPick (K : PySem.W.Frag) (sa : Addr) (sx : List Int) : Sp := fun vs H Q _ => ∃ p a xs, vs = [.ref p, .ref a] ∧ H a = some (.lst xs) ∧ a ≠ p ∧ xs ≠ [] ∧ xs.length ≤ 100 ∧ PoolAt K sa sx H p ∧ ∀ v H', v ∈ xs → Kp p H H' → PoolAt K sa sx H' p → Q v H'
def spAll : Sp := fun vs H Q _ => vs = [] ∧ ∀ l, H l = none → Q (.ref l) (upd H l (.lst (names7.map V.str)))
def spNames (K : PySem.W.Frag) (sa : Addr) (sx : List Int) : Sp := fun vs H Q _ => ∃ p, vs = [.ref p] ∧ PoolAt K sa sx H p ∧ ∀ (a : Addr) (ts : List Str) (H' : Hp), H a = none → H' a = some (.lst (ts.map V.str)) → ts.length ≤ 9 → (∀ z ∈ ts, z ∈ names7) → Kp p H H' → PoolAt K sa sx H' p → Q (.ref a) H'
def spSorted : Sp := fun vs H Q _ => ∃ (n : Addr) (ts : List Str), vs = [.ref n] ∧ H n = some (.lst (ts.map V.str)) ∧ ∀ l H', H l = none → Same H H' → H' l = some (.lst ((srt ts).map V.str)) → Q (.ref l) H'
def spOdd (K : PySem.W.Frag) (sa : Addr) (sx : List Int) : Sp := fun vs H Q _ => ∃ p, vs = [.ref p] ∧ PoolAt K sa sx H p ∧ ∀ x k H', OdAt K H' x k → OdBad k → Kp p H H' → PoolAt K sa sx H' p → Q x H'
def spWithin : Sp := fun vs H Q _ => ∃ (a b : Addr) (ts us : List Str), vs = [.ref a, .ref b] ∧ H a = some (.lst (ts.map V.str)) ∧ H b = some (.lst (us.map V.str)) ∧ ts.length ≤ 1000 ∧ (∀ z ∈ ts, z ∈ names7) ∧ ∀ H', Same H H' → Q (.bl (decide (∀ z ∈ ts, z ∈ us))) H'
section
variable {P : Program} {w : World} {K : PySem.W.Frag} {mg : Str → Option Value} {base : Heap} {sa : Addr} {sx : List Int}
theorem ok_l_draw (T : Tx K mg sa sx) : Cal P w K mg base 1 "_law_draw" (spDraw K sa sx) := by
  obtain ⟨fd, F⟩ := f_l_draw T
  refine ⟨_, fd, ["_law_pool", "_law_many"], fnok F sc_l_draw (fun vs H Q E h => ?_) (fun cdv A outer s H vs Q E hr h => ?_), F.bindsN fun _ _ _ _ _ _ us hl => match us, hl with | [_, _], _ => rfl, g__law_draw T, F.kp⟩
  · obtain ⟨p, m, rfl, _⟩ := h; rfl
  · obtain ⟨p, m, rfl, m0, mo, ⟨i, b, s, hp, na, hS, i0, b0, s0, s1⟩, k⟩ := h
    refine ⟨_, (pss_cons (ps_if (pt_cmpR op_lt (pe_ix ix_list (pv 0) pe_int (fun _ _ => rfl)) pe_int (nomark _)) (pss_cons (ps_set (i := 2) sc_l_draw.nd rfl (by first | exact Or.inl rfl | exact Or.inr rfl) pe_int)
      (pss_cons (ps_if (pt_cmpR op_lt (pe_ix ix_list (pv 0) pe_int (fun _ _ => rfl)) (pe_callB (id := "len") call_len_seq rfl (n_len T) (by decide +kernel) (pa_cons (pe_ix ix_list (pv 0) pe_int (fun _ _ => rfl)) pa_nil)) (nomark _)) (pss_one (ps_set (i := 2) sc_l_draw.nd rfl (by first | exact Or.inl rfl | exact Or.inr rfl) (pe_ix ix_list (pe_ix ix_list (pv 0) pe_int (fun _ _ => rfl)) (pe_ix ix_list (pv 0) pe_int (fun _ _ => rfl)) (fun _ _ => rfl)))) pss_nil)
      (pss_cons (ps_asg (pe_op op_add (pe_ix ix_list (pv 0) pe_int (fun _ _ => rfl)) pe_int) (pg_sub (pv 0) pe_int set_list))
      (pss_cons (ps_if (pt_cmpR op_lt (pv 2) (pe_op op_pow pe_int pe_int) (nomark _)) (pss_cons (ps_asg (pe_op op_mod (pe_callTy (T := "int") call_int1 rfl (n_int T) (by decide +kernel) (pa_cons (pe_op op_add (pe_op op_add (pe_op op_add (pe_op op_mul (pe_ix ix_list (pv 0) pe_int (fun _ _ => rfl)) pe_int) (pe_op op_mul (pv 2) pe_int)) (pe_op op_mul (pe_ix ix_list (pv 0) pe_int (fun _ _ => rfl)) pe_int)) pe_int) pa_nil)) pe_int) (pg_sub (pv 0) pe_int set_list))
        (pss_one (ps_ret (pe_op op_mod (pe_callTy (T := "int") call_int1 rfl (n_int T) (by decide +kernel) (pa_cons (pe_op op_fdivW (pe_ix ix_list (pv 0) pe_int (fun _ _ => rfl)) pe_int) pa_nil)) (pv 1))))) pss_nil)
      (pss_one (ps_asg (pe_callTy (T := "int") call_int1 rfl (n_int T) (by decide +kernel) (pa_cons (pv 2) pa_nil)) (pg_sub (pv 0) pe_int set_list))))))) pss_nil)
    (pss_cons (ps_set (i := 3) sc_l_draw.nd rfl (by first | exact Or.inl rfl | exact Or.inr rfl) (pe_op op_mod (pe_callTy (T := "int") call_int1 rfl (n_int T) (by decide +kernel) (pa_cons (pe_ix ix_list (pv 0) pe_int (fun _ _ => rfl)) pa_nil)) (pv 1)))
    (pss_cons (ps_asg (pe_op op_fdivW (pe_callTy (T := "int") call_int1 rfl (n_int T) (by decide +kernel) (pa_cons (pe_ix ix_list (pv 0) pe_int (fun _ _ => rfl)) pa_nil)) (pv 1)) (pg_sub (pv 0) pe_int set_list))
    (pss_one (ps_ret (pv 3)))))), ?_⟩
    have ix : ∀ {H' : Hp} {xs : List V}, H' p = some (.lst xs) → SqL K H' p xs := fun h => SqL.of h
    have sl : ∀ {H' : Hp}, Kp p H H' → SqL K H' sa (sx.map V.int) := fun k => na.elim (fun n => k.sl n hS) (fun z => z _)
    refine ⟨_, rfl, p, _, 2, _, rfl, rfl, ix hp, rfl, _, _, rfl, rfl, _, rfl, dC (fun hb => ?_) (fun hb => ?_)⟩
    · -- cell = 0; the script's next number
      refine ⟨_, rfl, p, _, 1, _, rfl, rfl, ix hp, rfl, _, rfl, p, _, 0, _, rfl, rfl, ix hp, rfl, sa, _, rfl, .inl hS, _, _, rfl, rfl, _, rfl, dC (fun hi => ?_) (fun hi => ?_)⟩
      · have hi2 : i.toNat < sx.length := by rw [List.length_map] at hi; omega
        refine ⟨_, rfl, p, _, 0, _, rfl, rfl, ix hp, rfl, _, rfl, p, _, 1, _, rfl, rfl, ix hp, rfl, sa, _, i, V.int sx[i.toNat], rfl, rfl, hS, at_of (j := i.toNat) (by omega) (by simp [hi2]), ?_⟩
        refine ⟨_, rfl, p, _, 1, _, rfl, rfl, ix hp, rfl, _, _, rfl, rfl, _, rfl, p, _, 1, 1, rfl, rfl, hp, rfl, ?_⟩
        refine ⟨_, rfl, _, _, rfl, rfl, ⟨by decide, by decide, by decide⟩, _, _, rfl, rfl, _, rfl, dC (fun hc => ?_) (fun hc => ?_)⟩
        · refine ⟨_, rfl, p, _, 3, _, rfl, rfl, ix upd_same, rfl, _, _, rfl, rfl, .inr ⟨by decide, by decide⟩, _, rfl, _, _, rfl, rfl, .inr ⟨by decide, by decide⟩, _, _, rfl, rfl,
            _, rfl, p, _, 1, _, rfl, rfl, ix upd_same, rfl, _, _, rfl, rfl, .inr ⟨by decide, by decide⟩, _, _, rfl, rfl, _, _, rfl, rfl, .inl ⟨_, rfl, _, _, rfl, rfl, (by show (0 : Int) < 2147483647; decide), _, rfl, p, _, 3, 3, rfl, rfl, upd_same, rfl, ?_⟩⟩
          refine ⟨_, rfl, p, _, 3, _, rfl, rfl, ix upd_same, rfl, _, _, rfl, rfl, ⟨by decide, by decide +kernel⟩, .inl ⟨_, rfl, _, rfl, _, _, rfl, rfl, m0, ?_⟩⟩
          refine k _ _ (Int.emod_nonneg _ (by omega)) (Int.emod_lt_of_pos _ m0) (Kp.refl.at.at) ⟨_, b, _, upd_same, na, sl Kp.refl.at.at, (by omega : (0 : Int) ≤ i + 1), b0, Int.emod_nonneg _ (by decide), Int.emod_lt_of_pos _ (by decide)⟩
        · refine ⟨_, rfl, .inl ⟨_, rfl, _, rfl, p, _, 2, 2, rfl, rfl, upd_same, rfl, ?_⟩⟩
          have hc0 : (0 : Int) ≤ sx[i.toNat] := by
            have : ((10 : Int) ^ (18 : Int).toNat) = 1000000000000000000 := by decide
            omega
          refine ⟨_, rfl, p, _, 2, _, rfl, rfl, ix upd_same, rfl, .inl ⟨_, rfl, _, rfl, _, _, rfl, rfl, m0, ?_⟩⟩
          refine ⟨_, rfl, p, _, 2, _, rfl, rfl, ix upd_same, rfl, .inl ⟨_, rfl, _, rfl, _, _, rfl, rfl, wd m0 mo, _, rfl, p, _, 2, 2, rfl, rfl, upd_same, rfl, ?_⟩⟩
          refine ⟨_, rfl, ?_⟩
          exact k _ _ (Int.emod_nonneg _ (by omega)) (Int.emod_lt_of_pos _ m0) (Kp.refl.at.at.at) ⟨_, _, s, upd_same, na, sl Kp.refl.at.at.at, (by omega : (0 : Int) ≤ i + 1), Int.ediv_nonneg hc0 (by omega), s0, s1⟩
      · refine ⟨_, rfl, p, _, 1, _, rfl, rfl, ix hp, rfl, _, _, rfl, rfl, _, rfl, p, _, 1, 1, rfl, rfl, hp, rfl, ?_⟩
        refine ⟨_, rfl, _, _, rfl, rfl, ⟨by decide, by decide, by decide⟩, _, _, rfl, rfl, _, rfl, dC (fun hc => ?_) (fun hc => ?_)⟩
        · refine ⟨_, rfl, p, _, 3, _, rfl, rfl, ix upd_same, rfl, _, _, rfl, rfl, .inr ⟨by decide, by decide⟩, _, rfl, _, _, rfl, rfl, .inr ⟨by decide, by decide⟩, _, _, rfl, rfl,
            _, rfl, p, _, 1, _, rfl, rfl, ix upd_same, rfl, _, _, rfl, rfl, .inr ⟨by decide, by decide⟩, _, _, rfl, rfl, _, _, rfl, rfl, .inl ⟨_, rfl, _, _, rfl, rfl, (by show (0 : Int) < 2147483647; decide), _, rfl, p, _, 3, 3, rfl, rfl, upd_same, rfl, ?_⟩⟩
          refine ⟨_, rfl, p, _, 3, _, rfl, rfl, ix upd_same, rfl, _, _, rfl, rfl, ⟨by decide, by decide +kernel⟩, .inl ⟨_, rfl, _, rfl, _, _, rfl, rfl, m0, ?_⟩⟩
          exact k _ _ (Int.emod_nonneg _ (by omega)) (Int.emod_lt_of_pos _ m0) (Kp.refl.at.at) ⟨_, b, _, upd_same, na, sl Kp.refl.at.at, (by omega : (0 : Int) ≤ i + 1), b0, Int.emod_nonneg _ (by decide), Int.emod_lt_of_pos _ (by decide)⟩
        · exact absurd (by decide) hc
    · refine ⟨_, rfl, p, _, 2, _, rfl, rfl, ix hp, rfl, .inl ⟨_, rfl, _, rfl, _, _, rfl, rfl, m0, ?_⟩⟩
      refine ⟨_, rfl, p, _, 2, _, rfl, rfl, ix hp, rfl, .inl ⟨_, rfl, _, rfl, _, _, rfl, rfl, wd m0 mo, _, rfl, p, _, 2, 2, rfl, rfl, hp, rfl, ?_⟩⟩
      refine ⟨_, rfl, ?_⟩
      exact k _ _ (Int.emod_nonneg _ (by omega)) (Int.emod_lt_of_pos _ m0) Kp.refl.at ⟨_, _, s, upd_same, na, sl Kp.refl.at, i0, Int.ediv_nonneg b0 (by omega), s0, s1⟩
theorem ok_l_pick (T : Tx K mg sa sx) : Cal P w K mg base 2 "_law_pick" (spPick K sa sx) := by
  obtain ⟨fd, F⟩ := f_l_pick T
  refine ⟨_, fd, ["_law_pool", "_law_things"], fnok F sc_l_pick (fun vs H Q E h => ?_) (fun cdv A outer s H vs Q E hr h => ?_), F.bindsN fun _ _ _ _ _ _ us hl => match us, hl with | [_, _], _ => rfl, g__law_pick T, F.kp⟩
  · obtain ⟨p, a, xs, rfl, _⟩ := h; rfl
  · obtain ⟨p, a, xs, rfl, ha, np, n0, n1, hP, k⟩ := h
    refine ⟨_, (pss_one (ps_ret (pe_ix ix_list (pv 1) (pe_cal (ok_l_draw T) hr (by decide) (pa_cons (pv 0) (pa_cons (pe_callB (id := "len") call_len_seq rfl (n_len T) (by decide +kernel) (pa_cons (pv 1) pa_nil)) pa_nil))) (fun _ _ => rfl)))), ?_⟩
    have l0 : 0 < xs.length := List.length_pos_iff.mpr n0
    refine ⟨_, rfl, _, rfl, _, rfl, a, _, rfl, .inl (SqL.of ha), p, (xs.length : Int), rfl, by omega, io (by omega), hP, fun r H1 r0 r1 k1 b1 => ?_⟩
    have hr2 : r.toNat < xs.length := by omega
    exact ⟨a, _, r, xs[r.toNat], rfl, rfl, SqL.of (k1 _ _ np ha), at_of (j := r.toNat) (by omega) (List.getElem?_eq_getElem hr2), k _ _ (List.getElem_mem hr2) k1 b1⟩
theorem ok_l_all (T : Tx K mg sa sx) : Cal P w K mg base 1 "_law_all" spAll := by
  obtain ⟨fd, F⟩ := f_l_all T
  refine ⟨_, fd, [], fnok F sc_l_all (fun vs H Q E h => ?_) (fun cdv A outer s H vs Q E hr h => ?_), F.bindsN fun _ _ _ _ _ _ us hl => match us, hl with | [], _ => rfl, g__law_all T, F.kp⟩
  · obtain ⟨rfl, _⟩ := h; rfl
  · obtain ⟨rfl, k⟩ := h
    refine ⟨_, (pss_one (ps_ret (pe_lst (pa_cons pe_str (pa_cons pe_str (pa_cons pe_str (pa_cons pe_str (pa_cons pe_str (pa_cons pe_str (pa_cons pe_str pa_nil)))))))))), ?_⟩
    exact ⟨sz1 (by simp), fun l hl => k l hl⟩
theorem pool_strs {H : Hp} {p a : Addr} {ts : List Str} (hP : PoolAt K sa sx H p) (ha : H a = some (.lst (ts.map V.str))) : a ≠ p := by
  rintro rfl
  obtain ⟨i, b, s, hp, _⟩ := hP
  rw [ha] at hp
  cases ts with
  | nil => cases hp
  | cons n ns => cases hp
theorem ok_l_names (T : Tx K mg sa sx) : Cal P w K mg base 3 "_law_names" (spNames K sa sx) := by
  obtain ⟨fd, F⟩ := f_l_names T
  refine ⟨_, fd, ["_law_pool"], fnok F sc_l_names (fun vs H Q E h => ?_) (fun cdv A outer s H vs Q E hr h => ?_), F.bindsN fun _ _ _ _ _ _ us hl => match us, hl with | [_], _ => rfl, g__law_names T, F.kp⟩
  · obtain ⟨p, rfl, _⟩ := h; rfl
  · obtain ⟨p, rfl, hP, k⟩ := h
    refine ⟨_, (pss_one (ps_ret (pe_lc (own := [("_law_k", 1)]) (g := gName 1) rfl sc_l_names.nd (pi_range1 rfl (n_range T) (pa_cons (pe_cal (ok_l_draw T) hr (by decide) (pa_cons (pv 0) (pa_cons pe_int pa_nil))) pa_nil)) (blkOk_by (own := [("_law_k", 1)]) (N := ["_law_pool", "_law_k"]) (sc := defScope s_l_names) (by decide +kernel)) (fun _ _ _ _ _ => pg_name (i := 1) sc_l_names.nd rfl (Or.inl rfl)) (fun _ _ _ _ _ => pts_nil) (fun _ _ _ _ _ => (pe_cal (ok_l_pick T) hr (by decide) (pa_cons (pv 0) (pa_cons (pe_cal0 (ok_l_all T) hr (by decide)) pa_nil))))))), ?_⟩
    refine ⟨_, rfl, p, 10, rfl, by decide, io (by decide), hP, fun m H2 m0 m1 k2 p2 => ⟨m, rfl, by omega, by omega, fun D hD => ?_⟩⟩
    have nD : D ≠ p := pool_ne p2 hD
    have hD0 : H D = none := kfree k2 nD hD
    have fr := pool_fresh p2 hD
    refine lc_range (lo := 0) (n := m.toNat) (fun i H' => ∃ ts : List Str, ts.length = i ∧ (∀ z ∈ ts, z ∈ names7) ∧ H' D = some (.lst (ts.map V.str)) ∧ Kp p H H' ∧ PoolAt K sa sx H' p) ⟨[], rfl, by simp, upd_same, kmut k2 hD0, pool_new p2 hD⟩ ?_ ?_
    · rintro i G hi ⟨ts, lc, hc, hG, kG, bG⟩
      refine ⟨rfl, _, rfl, rfl, fun l hl => ⟨p, l, _, rfl, upd_same, pool_ne bG hl, by simp [names7], by simp [names7], pool_new bG hl, fun v G2 hv k3 p3 => ?_⟩⟩
      obtain ⟨z, hz, rfl⟩ := List.mem_map.mp hv
      have hG2 := k3 _ _ nD ((upd_ne (ne_of_none hG hl) (o := .lst (names7.map V.str))).trans hG)
      refine ⟨_, hG2, sz2 (by rw [List.length_map]; omega), ts ++ [z], by rw [List.length_append, lc]; rfl, fun y hy => ?_, by rw [List.map_append]; exact upd_same, kmut ((kG.new hl).trans k3) hD0, pool_upd p3 nD fr⟩
      rcases List.mem_append.mp hy with h | h
      · exact hc y h
      · rw [show y = z by simpa using h]; exact hz
    · rintro G ⟨ts, lc, hc, hG, kG, bG⟩
      exact k D ts G hD0 hG (by omega) hc kG bG
theorem ok_l_sorted_names (T : Tx K mg sa sx) : Cal P w K mg base 2 "_law_sorted_names" spSorted := by
  obtain ⟨fd, F⟩ := f_l_sorted_names T
  refine ⟨_, fd, ["_law_names_here"], fnok F sc_l_sorted_names (fun vs H Q E h => ?_) (fun cdv A outer s H vs Q E hr h => ?_), F.bindsN fun _ _ _ _ _ _ us hl => match us, hl with | [_], _ => rfl, g__law_sorted_names T, F.kp⟩
  · obtain ⟨n, ts, rfl, _⟩ := h; rfl
  · obtain ⟨n, ts, rfl, hn, k⟩ := h
    refine ⟨_, (pss_one (ps_ret (pe_lc (own := [("_law_name", 1)]) (g := gName 1) rfl sc_l_sorted_names.nd (pi_list (pe_cal0 (ok_l_all T) hr (by decide))) (blkOk_by (own := [("_law_name", 1)]) (N := ["_law_names_here", "_law_name"]) (sc := defScope s_l_sorted_names) (by decide +kernel)) (fun _ _ _ _ _ => pg_name (i := 1) sc_l_sorted_names.nd rfl (Or.inl rfl)) (fun _ _ _ _ _ => (pts_one (pt_cmpR (show OpR _ _ (rIn K false) from op_in_seq) (pv 1) (pv 0) (by rfl)))) (fun _ _ _ _ _ => (pv 1))))), ?_⟩
    refine ⟨rfl, fun l hl => ⟨l, rfl, ⟨_, SqL.of upd_same⟩, fun D hD => ?_⟩⟩
    have s0 := (Same.new hl (o := .lst (names7.map V.str)))
    have hD0 := s0.free hD
    refine lc_list (K := K) (a := l) (xs := names7.map V.str) (fun i H1 => Same (upd H l (.lst (names7.map V.str))) H1 ∧ H1 D = some (.lst (((names7.take i).filter fun z => decide (z ∈ ts)).map V.str))) ⟨Same.new hD, upd_same⟩ (fun i H1 _ ⟨sm, _⟩ => SqL.of (sm _ _ upd_same)) ?_ ?_
    · rintro i x H1 hi ⟨sm, hS⟩
      obtain ⟨hi2, rfl⟩ := strs_at hi
      refine ⟨rfl, _, rfl, _, rfl, n, _, rfl, .inl (SqL.of (sm _ _ (s0 _ _ hn))), rfl, flat_strs _, _, rfl, ?_⟩
      rw [inV_strs, take_filter hi2]
      refine dC (fun c => ?_) (fun c => ?_)
      · refine ⟨_, rfl, _, hS, sz2 (by rw [List.length_map]; exact Nat.le_trans (filt_len (n := 7) (by decide)) (by decide)), sm.mut hD, ?_⟩
        rw [upd_same, if_pos (decide_eq_true c), List.map_append]; rfl
      · refine ⟨sm, ?_⟩
        rw [if_neg (by simpa using c)]; exact hS
    · rintro H1 ⟨sm, hS⟩
      exact k D H1 hD0 (s0.trans sm) hS
theorem ok_l_odd (T : Tx K mg sa sx) : Cal P w K mg base 3 "_law_odd" (spOdd K sa sx) := by
  obtain ⟨fd, F⟩ := f_l_odd T
  refine ⟨_, fd, ["_law_pool"], fnok F sc_l_odd (fun vs H Q E h => ?_) (fun cdv A outer s H vs Q E hr h => ?_), F.bindsN fun _ _ _ _ _ _ us hl => match us, hl with | [_], _ => rfl, g__law_odd T, F.kp⟩
  · obtain ⟨p, rfl, _⟩ := h; rfl
  · obtain ⟨p, rfl, hP, k⟩ := h
    refine ⟨_, (pss_one (ps_ret (pe_cal (ok_l_pick T) hr (by decide) (pa_cons (pv 0) (pa_cons (pe_lst (pa_cons pe_str (pa_cons pe_str (pa_cons pe_str (pa_cons pe_str (pa_cons pe_str (pa_cons pe_str (pa_cons pe_non (pa_cons pe_int (pa_cons pe_bl (pa_cons (pe_tup (pa_cons pe_str pa_nil)) (pa_cons (pe_lst (pa_cons pe_str pa_nil)) (pa_cons pe_str pa_nil))))))))))))) pa_nil))))), ?_⟩
    refine ⟨_, rfl, sz1 (by simp), fun t ht => ⟨sz1 (by simp), fun l hl => ⟨sz1 (by simp), fun q hq => ⟨p, q, _, rfl, upd_same, ?_, by simp, by simp, ?_, fun v H' hv k1 p1 => ?_⟩⟩⟩⟩
    · exact pool_ne (pool_new (pool_new hP ht) hl) hq
    · exact pool_new (pool_new (pool_new hP ht) hl) hq
    have kk := (((Kp.refl.new ht (o := .tup [V.str "asks"])).new hl (o := .lst [V.str "free"])).new hq (o := .lst [V.str "ask", V.str "Asks", V.str "", V.str "asks free", V.str "none", V.str "overs", V.non, V.int 0, V.bl true, V.ref t, V.ref l, V.str "tag"])).trans k1
    have ntp : t ≠ p := pool_ne hP ht
    have nlp : l ≠ p := pool_ne (pool_new hP ht) hl
    have h1 := k1 l _ nlp ((upd_ne (ne_of_none upd_same hq)).trans (upd_same (o := .lst [V.str "free"])))
    have h2 := k1 t _ ntp ((upd_ne (ne_of_none ((upd_ne (ne_of_none upd_same hl)).trans (upd_same (o := .tup [V.str "asks"]))) hq)).trans ((upd_ne (ne_of_none upd_same hl)).trans upd_same))
    simp only [List.mem_cons, List.mem_nil_iff, or_false] at hv
    rcases hv with rfl | rfl | rfl | rfl | rfl | rfl | rfl | rfl | rfl | rfl | rfl | rfl
    · exact k _ (.str "ask") _ ⟨rfl, by decide +kernel, by decide +kernel⟩ (show ("ask" : Str) ∉ names7 by decide +kernel) kk p1
    · exact k _ (.str "Asks") _ ⟨rfl, by decide +kernel, by decide +kernel⟩ (show ("Asks" : Str) ∉ names7 by decide +kernel) kk p1
    · exact k _ (.str "") _ ⟨rfl, by decide +kernel, by decide +kernel⟩ (show ("" : Str) ∉ names7 by decide +kernel) kk p1
    · exact k _ (.str "asks free") _ ⟨rfl, by decide +kernel, by decide +kernel⟩ (show ("asks free" : Str) ∉ names7 by decide +kernel) kk p1
    · exact k _ (.str "none") _ ⟨rfl, by decide +kernel, by decide +kernel⟩ (show ("none" : Str) ∉ names7 by decide +kernel) kk p1
    · exact k _ (.str "overs") _ ⟨rfl, by decide +kernel, by decide +kernel⟩ (show ("overs" : Str) ∉ names7 by decide +kernel) kk p1
    · exact k _ .non _ rfl trivial kk p1
    · exact k _ .zero _ rfl trivial kk p1
    · exact k _ .tru _ rfl trivial kk p1
    · exact k _ .tup _ ⟨t, rfl, h2⟩ trivial kk p1
    · exact k _ .lst _ ⟨l, rfl, h1⟩ trivial kk p1
    · exact k _ (.str "tag") _ ⟨rfl, by decide +kernel, by decide +kernel⟩ (show ("tag" : Str) ∉ names7 by decide +kernel) kk p1
theorem ok_l_is_within (T : Tx K mg sa sx) : Cal P w K mg base 1 "_law_is_within" spWithin := by
  obtain ⟨fd, F⟩ := f_l_is_within T
  refine ⟨_, fd, ["_law_one", "_law_two"], fnok F sc_l_is_within (fun vs H Q E h => ?_) (fun cdv A outer s H vs Q E hr h => ?_), F.bindsN fun _ _ _ _ _ _ us hl => match us, hl with | [_, _], _ => rfl, g__law_is_within T, F.kp⟩
  · obtain ⟨a, b, ts, us, rfl, _⟩ := h; rfl
  · obtain ⟨a, b, ts, us, rfl, ha, hb, hl, good, k⟩ := h
    refine ⟨_, (pss_one (ps_ret (pe_cmpR (op_eqD hr.units) (pe_lc (own := [("_law_name", 2)]) (g := gName 2) rfl sc_l_is_within.nd (pi_list (pv 0)) (blkOk_by (own := [("_law_name", 2)]) (N := ["_law_one", "_law_two", "_law_name"]) (sc := defScope s_l_is_within) (by decide +kernel)) (fun _ _ _ _ _ => pg_name (i := 2) sc_l_is_within.nd rfl (Or.inl rfl)) (fun _ _ _ _ _ => (pts_one (pt_cmpR (show OpR _ _ (rIn K true) from op_notIn_seq) (pv 2) (pv 1) (by rfl)))) (fun _ _ _ _ _ => (pv 2))) (pe_lst pa_nil) (nomark _)))), ?_⟩
    refine ⟨_, rfl, a, rfl, ⟨_, SqL.of ha⟩, fun D hD => ?_⟩
    refine lc_list (K := K) (a := a) (xs := ts.map V.str) (fun i H1 => Same H H1 ∧ H1 D = some (.lst (((ts.take i).filter fun z => !decide (z ∈ us)).map V.str))) ⟨Same.new hD, upd_same⟩ (fun i H1 _ ⟨sm, _⟩ => SqL.of (sm _ _ ha)) ?_ ?_
    · rintro i x H1 hi ⟨sm, hS⟩
      obtain ⟨hi2, rfl⟩ := strs_at hi
      refine ⟨rfl, _, rfl, _, rfl, b, _, rfl, .inl (SqL.of (sm _ _ hb)), rfl, flat_strs _, _, rfl, ?_⟩
      rw [inV_strs, take_filter hi2]
      refine uC (fun c => ?_) (fun c => ?_)
      · refine ⟨_, rfl, _, hS, sz2 (by rw [List.length_map]; exact Nat.le_trans (filt_len (n := 1000) hl) (by decide)), sm.mut hD, ?_⟩
        rw [upd_same, if_pos (by simpa using c), List.map_append]; rfl
      · refine ⟨sm, ?_⟩
        rw [if_neg (by simpa using c)]; exact hS
    · rintro H1 ⟨sm, hS⟩
      rw [List.length_map, List.take_length] at hS
      refine ⟨sz1 (by simp), fun e he => ⟨_, _, .lst (SqL.of ((upd_ne (ne_of_none hS he)).trans hS)) (dp_strs _), .lst (SqL.of upd_same) (dp_strs []), shp_strs (fun z hz => ok7 z (good z (List.mem_filter.mp hz).1)), shp_strs (by simp), ?_⟩⟩
      rw [eqv_strs]
      have e2 : decide ((ts.filter fun z => !decide (z ∈ us)) = []) = decide (∀ z ∈ ts, z ∈ us) := decide_eq_decide.mpr (by simp [List.filter_eq_nil_iff])
      rw [e2]
      exact k _ (sm.trans (Same.new he))
end
end K87
namespace K87
open PySem PySem.Spec PyProof.Rows Cm
open L2 hiding Same
/-! ### refused -/
/-- made, or the odd one and True -/
def spRef (K : PySem.W.Frag) : Sp := fun vs H Q _ => ∃ n, vs = [.ref n] ∧ ((∃ ts : List Str, Sq K H n (ts.map V.str) ∧ (∀ z ∈ ts, z ∈ names7) ∧ ∀ H', Same H H' → Q (.str "made") H') ∨
  (∃ (ts : List Str) (x : V) (k : OdK) (rest : List V), Sq K H n (ts.map V.str ++ x :: rest) ∧ (∀ z ∈ ts, z ∈ names7) ∧ OdAt K H x k ∧ OdBad k ∧ ∀ (H' : Hp) (l : Addr) (v : V), Same H H' → OdAt K H' v k → H' l = some (.lst [v, .bl true]) → Q (.ref l) H'))
def spRefOf (K : PySem.W.Frag) : Sp := fun vs H Q _ => vs.length = 3 ∧ ((∃ ts : List Str, vs = ts.map V.str ∧ (∀ z ∈ ts, z ∈ names7) ∧ ∀ H', Same H H' → Q (.str "made") H') ∨
  (∃ (ts : List Str) (x : V) (k : OdK) (rest : List V), vs = ts.map V.str ++ x :: rest ∧ (∀ z ∈ ts, z ∈ names7) ∧ OdAt K H x k ∧ OdBad k ∧ ∀ (H' : Hp) (l : Addr) (v : V), Same H H' → OdAt K H' v k → H' l = some (.lst [v, .bl true]) → Q (.ref l) H'))
theorem takesF {X : Cx} : Takes X (fun _ _ _ _ => False) := fun u s' ⟨a, B, sI, pins, σ, H, cls, d, e, I, nb, up, sky, na, os, ag, w⟩ => w.elim
section
variable {P : Program} {w : World} {K : PySem.W.Frag} {mg : Str → Option Value} {base : Heap} {sa : Addr} {sx : List Int}
theorem excc (T : Tx K mg sa sx) : ExcC K (He.ga K "BadManner") := by
  have x := xfB_ok (exb T).xf
  exact ⟨x.ga, x.gg, x.exC, x.hdC, (exb T).cc, x_cget T, x_ctak T, (exb T).mo⟩
theorem ok_l_refused (T : Tx K mg sa sx) (hP : PF P) : Cal P w K mg base 9 "_law_refused" (spRef K) := by
  obtain ⟨fd, F⟩ := f_l_refused T
  obtain ⟨fi, FI, bI⟩ := ok_initO (P := P) (w := w) (base := base) T hP
  refine ⟨_, fd, ["_law_names_here"], fnok F sc_l_refused (fun vs H Q E h => ?_) (fun cdv A outer s H vs Q E hr h => ?_), F.bindsN fun _ _ _ _ _ _ us hl => match us, hl with | [_], _ => rfl, g__law_refused T, F.kp⟩
  · obtain ⟨n, rfl, _⟩ := h; rfl
  · obtain ⟨n, rfl, ⟨ts, hn, good, q⟩ | ⟨ts, x, k, rest, hn, good, ho, hb, q⟩⟩ := h
    · refine ⟨_, (pss_cons (ps_try_as (i := 1) (c := .ref (He.ga K "BadManner")) rfl rfl sc_l_refused.nd rfl rfl ⟨rfl, by decide, .inl (g_BadManner T)⟩ takesF
        (fun W pn xe tk pw => pss_one (ps_expr (pe_kal (ok_Manners_init T) hr (by decide) (pa_cons (pv 0) pa_nil))))
        (fun a oe cls d pn hz hf => pss_one (ps_ret (pe_lst (pa_cons (pe_xf (xfB_ok (exb T).xf) (x_nob T) hz hf (pv 1)) (pa_cons (pe_callB (id := "isinstance") (call_isF (excc T) hz hf) rfl (n_isinstance T) (by decide +kernel) (pa_cons (pv 1) (pa_cons (pe_glob (v := .ref _) rfl (g_QuietError T) rfl) pa_nil))) pa_nil))))))
        (pss_one (ps_ret pe_str))), ?_⟩
      exact ⟨_, rfl, fun y dx hy hdx ne => made (Q := fun _ H2 => Q (.str "made") H2) hn good (fun x H2 s h => q H2 s) y dx hy hdx ne⟩
    · refine ⟨_, (pss_cons (ps_try_as (i := 1) (c := .ref (He.ga K "BadManner")) rfl rfl sc_l_refused.nd rfl rfl ⟨rfl, by decide, .inl (g_BadManner T)⟩ takesF
        (fun W pn xe tk pw => pss_one (ps_expr (pe_make (m_Manners T) FI (hr.mono (by decide)) rfl (g_Manners T) bI .nil (E := fun cls d H => ∀ σ : L2.St, σ.length = 2 → W cls d σ H) (passes_len tk (fun cls d σ H l h => h σ l)) (pa_cons (pv 0) pa_nil))))
        (fun a oe cls d pn hz hf => pss_one (ps_ret (pe_lst (pa_cons (pe_xf (xfB_ok (exb T).xf) (x_nob T) hz hf (pv 1)) (pa_cons (pe_callB (id := "isinstance") (call_isF (excc T) hz hf) rfl (n_isinstance T) (by decide +kernel) (pa_cons (pv 1) (pa_cons (pe_glob (v := .ref _) rfl (g_QuietError T) rfl) pa_nil))) pa_nil))))))
        (pss_one (ps_ret pe_str))), ?_⟩
      refine ⟨_, rfl, fun y dx hy hdx ne => ?_⟩
      have s0 : Same H (upd (upd H dx (.own y)) y (.ins (MC K) dx [])) := (Same.new hdx).trans (Same.new (by rw [upd_ne ne.symm]; exact hy))
      refine ⟨y, n, dx, ts, x, k, rest, rfl, hn.same s0, good, od_same s0 ho, hb, fun H' d v s h1 h2 σ hl => ⟨true, (exb T).em, fun _ a ha => ?_, fun z => by cases z⟩⟩
      match σ, hl with
      | [x0, x1], _ =>
        refine ⟨_, rfl, rfl, rfl, d, _, v, rfl, h2, rfl, _, rfl, .ref (He.ga K "QuietError"), .ref (He.ga K "QuietError"), true, d, _, rfl, rfl, (fun u r => r), x_kitq T, rfl, h2, sz1 (by simp), fun l hl => ?_⟩
        exact q _ l v ((s0.trans s).trans (Same.new hl)) (od_same (Same.new hl) h1) upd_same
theorem ok_l_refused_of (T : Tx K mg sa sx) (hP : PF P) : Cal P w K mg base 9 "_law_refused_of" (spRefOf K) := by
  obtain ⟨fd, F⟩ := f_l_refused_of T
  refine ⟨_, fd, ["_law_one", "_law_two", "_law_three"], fnok F sc_l_refused_of (fun vs H Q E h => ?_) (fun cdv A outer s H vs Q E hr h => ?_), F.bindsN fun _ _ _ _ _ _ us hl => match us, hl with | [_, _, _], _ => rfl, g__law_refused_of T, F.kp⟩
  · exact h.1
  · obtain ⟨hl, h⟩ := h
    match vs, hl with
    | [v1, v2, v3], _ =>
    obtain ⟨ts, e, good, q⟩ | ⟨ts, x, k, rest, e, good, ho, hb, q⟩ := h
    · refine ⟨_, (pss_cons (ps_try_as (i := 3) (c := .ref (He.ga K "BadManner")) rfl rfl sc_l_refused_of.nd rfl rfl ⟨rfl, by decide, .inl (g_BadManner T)⟩ takesF
        (fun W pn xe tk pw => pss_one (ps_expr (ClX.pe_cmeth (pe_glob (v := .ref _) rfl (g_Manners T) rfl) (cr T) (ofc T) (ok_of T) (hr.mono (by decide)) (E := E0) pass0 (pa_cons (pv 0) (pa_cons (pv 1) (pa_cons (pv 2) pa_nil))))))
        (fun a oe cls d pn hz hf => pss_one (ps_ret (pe_lst (pa_cons (pe_xf (xfB_ok (exb T).xf) (x_nob T) hz hf (pv 3)) (pa_cons (pe_callB (id := "isinstance") (call_isF (excc T) hz hf) rfl (n_isinstance T) (by decide +kernel) (pa_cons (pv 3) (pa_cons (pe_glob (v := .ref _) rfl (g_QuietError T) rfl) pa_nil))) pa_nil))))))
        (pss_one (ps_ret pe_str))), ?_⟩
      have hl : ts.length ≤ 100 := by
        have := congrArg List.length e
        rw [List.length_map] at this
        rw [← this]; show 3 ≤ 100; decide
      exact ⟨rfl, _, rfl, _, rfl, _, rfl, ts, by rw [← e], hl, good, fun x H' s h => q H' s⟩
    · refine ⟨_, (pss_cons (ps_try_as (i := 3) (c := .ref (He.ga K "BadManner")) rfl rfl sc_l_refused_of.nd rfl rfl ⟨rfl, by decide, .inl (g_BadManner T)⟩ takesF
        (fun W pn xe tk pw => pss_one (ps_expr (ClX.pe_cmeth (pe_glob (v := .ref _) rfl (g_Manners T) rfl) (cr T) (ofc T) (ok_ofO T hP) (hr.mono (by decide)) (E := fun cls d H => ∀ σ : L2.St, σ.length = 4 → W cls d σ H) (passes_len tk (fun cls d σ H l h => h σ l)) (pa_cons (pv 0) (pa_cons (pv 1) (pa_cons (pv 2) pa_nil))))))
        (fun a oe cls d pn hz hf => pss_one (ps_ret (pe_lst (pa_cons (pe_xf (xfB_ok (exb T).xf) (x_nob T) hz hf (pv 3)) (pa_cons (pe_callB (id := "isinstance") (call_isF (excc T) hz hf) rfl (n_isinstance T) (by decide +kernel) (pa_cons (pv 3) (pa_cons (pe_glob (v := .ref _) rfl (g_QuietError T) rfl) pa_nil))) pa_nil))))))
        (pss_one (ps_ret pe_str))), ?_⟩
      have hl : (ts.map V.str ++ x :: rest).length ≤ 100 := by rw [← e]; show 3 ≤ 100; decide
      refine ⟨rfl, _, rfl, _, rfl, _, rfl, ts, x, k, rest, by rw [← e], hl, good, ho, hb, fun H' d v s h1 h2 σ hl => ⟨true, (exb T).em, fun _ a ha => ?_, fun z => by cases z⟩⟩
      match σ, hl with
      | [x0, x1, x2, x3], _ =>
        refine ⟨_, rfl, rfl, rfl, d, _, v, rfl, h2, rfl, _, rfl, .ref (He.ga K "QuietError"), .ref (He.ga K "QuietError"), true, d, _, rfl, rfl, (fun u r => r), x_kitq T, rfl, h2, sz1 (by simp), fun l hl => ?_⟩
        exact q _ l v (s.trans (Same.new hl)) (od_same (Same.new hl) h1) upd_same
end
end K87
namespace K87
open PySem PySem.Spec PyProof.Rows Cm
open L2 hiding Same
theorem tru_strs {K : PySem.W.Frag} {H : Hp} {a : Addr} {ts : List Str} (h : H a = some (.lst (ts.map V.str))) : TruV K (.ref a) H (!ts.isEmpty) :=
  .inl ⟨_, SqL.of h, by cases ts <;> rfl⟩
theorem lS {ts : List Str} {A B : Prop} (hT : ts ≠ [] → A) (hF : ts = [] → B) : if (!ts.isEmpty) = true then A else B := by
  cases ts with
  | nil => exact iteF (hF rfl)
  | cons n ns => exact iteT (hT (by simp))
def spIsSet (K : PySem.W.Frag) : Sp := fun vs H Q _ => ∃ (m n : Addr) (us ts : List Str), vs = [.ref m, .ref n] ∧ MnAt K H m us ∧ H n = some (.lst (ts.map V.str)) ∧ srt us = srt ts ∧ ∀ H', Same H H' → Q (.bl true) H'
section
variable {P : Program} {w : World} {K : PySem.W.Frag} {mg : Str → Option Value} {base : Heap} {sa : Addr} {sx : List Int}
theorem ok_l_is_set (T : Tx K mg sa sx) : Cal P w K mg base 6 "_law_is_set" (spIsSet K) := by
  obtain ⟨fd, F⟩ := f_l_is_set T
  refine ⟨_, fd, ["_law_made", "_law_names_here"], fnok F sc_l_is_set (fun vs H Q E h => ?_) (fun cdv A outer s H vs Q E hr h => ?_), F.bindsN fun _ _ _ _ _ _ us hl => match us, hl with | [_, _], _ => rfl, g__law_is_set T, F.kp⟩
  · obtain ⟨m, n, us, ts, rfl, _⟩ := h; rfl
  · obtain ⟨m, n, us, ts, rfl, hm, hn, e, q⟩ := h
    refine ⟨_, (pss_cons (ps_set (i := 2) sc_l_is_set.nd rfl (by first | exact Or.inl rfl | exact Or.inr rfl) (pe_cal (ok_l_sorted_names T) hr (by decide) (pa_cons (pv 1) pa_nil)))
    (pss_cons (ps_if (PW.pt (pw_or (pt_not (pt_val (pe_callB (id := "isinstance") (r := rIsi K) call_isi rfl (n_isinstance T) (by decide +kernel) (pa_cons (pv 0) (pa_cons (pe_glob (v := .ref _) rfl (g_Manners T) rfl) pa_nil))))) (pw_or (pt_cmpR (op_neD hr.units) (pe_fld (pv 0) rfl) (pe_callTy (T := "tuple") call_tuple_of rfl (n_tuple T) (by decide +kernel) (pa_cons (pv 2) pa_nil)) (nomark _)) (pw_or1 (pt_not (pt_val (pe_callB (id := "isinstance") (r := rIsi K) call_isi rfl (n_isinstance T) (by decide +kernel) (pa_cons (pe_fld (pv 0) rfl) (pa_cons (pe_bltn (v := .ty "tuple") rfl (n_tuple T) (by decide +kernel) rfl) pa_nil))))))))) (pss_one (ps_ret pe_bl)) pss_nil)
    (pss_cons (ps_if (PW.pt (pw_or (pt_cmpR (op_neD hr.units) (pe_callTy (T := "list") (call_listOwnT (k := 1) rfl hr (by decide)) rfl (n_list T) (by decide +kernel) (pa_cons (pv 0) pa_nil)) (pv 2) (nomark _)) (pw_or (pt_cmpR op_ne (pe_callB (id := "len") (call_ownLen (k := 1) hr (by decide)) rfl (n_len T) (by decide +kernel) (pa_cons (pv 0) pa_nil)) (pe_callB (id := "len") call_len_seq rfl (n_len T) (by decide +kernel) (pa_cons (pv 2) pa_nil)) (nomark _)) (pw_or1 (pt_cmpR op_ne (pe_callTy (T := "str") (call_ownStr (k := 1) hr (by decide)) rfl (n_str T) (by decide +kernel) (pa_cons (pv 0) pa_nil)) (pe_ifExp (pt_truth (pv 2) (by intro _; rfl)) (pe_join pe_str (pv 2)) pe_str) (nomark _)))))) (pss_one (ps_ret pe_bl)) pss_nil)
    (pss_cons (ps_for PassesOwn.never rfl (pi_list (pe_op op_cat (pe_cal0 (ok_l_all T) hr (by decide)) (pe_lst (pa_cons pe_str (pa_cons pe_str pa_nil))))) (pg_name (i := 3) sc_l_is_set.nd rfl (by first | exact Or.inl rfl | exact Or.inr rfl))
      (pss_one (ps_if (pt_cmpR op_ne (pe_cmpR (op_ownIn (k := 1) hr (by decide)) (pv 3) (pv 0) (by rfl)) (pe_cmpR op_in_seq (pv 3) (pv 2) (by rfl)) (nomark _)) (pss_one (ps_ret pe_bl)) pss_nil)))
    (pss_one (ps_ret pe_bl)))))), ?_⟩
    refine ⟨_, rfl, n, ts, rfl, hn, fun D H1 hD s1 h1 => ?_⟩
    have hm1 := hm.same s1
    obtain ⟨dx, t, ha, ht⟩ := id hm1
    rw [e] at ht
    -- its names
    refine ⟨_, rfl, .ref m, .ref (MC K), _, _, true, rfl, .own _, mn_ty T ha, x_kit T, true, rfl, iteF ?_⟩
    refine ⟨_, rfl, m, _, dx, _, _, rfl, ha, c_Manners T, na_Manners_names T, fl1, _, rfl, D, _, rfl, .inl ⟨SqL.of h1, fun t2 ht2 => ?_⟩⟩
    have s2 := Same.new ht2 (o := .tup ((srt ts).map V.str))
    refine ⟨_, _, .tup (SqT.of (s2 _ _ ht)) (dp_strs _), .tup (SqT.of upd_same) (dp_strs _), shp_strsT srt_ok, shp_strsT srt_ok, _, rfl, ?_⟩
    rw [eqv_strsT]
    refine uF rfl ?_
    refine ⟨_, rfl, m, _, dx, _, _, rfl, s2 _ _ ha, c_Manners T, na_Manners_names T, fl1, .ref t, .ty "tuple", _, .type "tuple", true, rfl, .ty _, .base (.tup (s2 _ _ ht)), kit_ty (by decide +kernel), true, rfl, iteF ?_⟩
    -- list(..)
    have hm2 := hm1.same s2
    have ha2 := s2 _ _ ha
    have ht2' := s2 _ _ ht
    have h2 := s2 _ _ h1
    have s12 := s1.trans s2
    generalize upd H1 t2 (.tup ((srt ts).map V.str)) = H2 at s2 hm2 ha2 ht2' h2 s12 ⊢
    refine ⟨_, rfl, m, _, dx, _, _, _, rfl, ha2, ok_iter T, ok_len T, fun qq hqq => ⟨m, us, rfl, hm2.same (Same.new hqq), fun t3 it ht3 hit => ?_⟩⟩
    have nq : it ≠ qq := (ne_of_none upd_same hit).symm
    have hit0 : H2 it = none := by rw [upd_ne nq] at hit; exact hit
    have sI : Same H2 (upd (upd H2 qq (.lst [])) it (ItT t3 it 0)) := (Same.new hqq).mut hit0
    have s3 : Same H2 (upd (upd (upd (upd H2 qq (.lst [])) it (ItT t3 it 0)) qq (.lst ((srt us).map V.str))) it (ItD it)) := (sI.mut hqq).mut hit0
    have ht3' : SqT K (upd (upd H2 qq (.lst [])) it (ItT t3 it 0)) t3 ((srt us).map V.str) := SqT.of ((Same.new hit) _ _ ht3)
    refine ⟨it, t3, _, rfl, nq, upd_same, ht3', (upd_ne nq.symm).trans upd_same, sI _ _ ha2, ⟨m, us, rfl, hm2.same sI, rfl, _, rfl, Nat.le_trans (srt_len us) (by decide)⟩, ?_⟩
    have hq3 : (upd (upd (upd (upd H2 qq (.lst [])) it (ItT t3 it 0)) qq (.lst ((srt us).map V.str))) it (ItD it)) qq = some (.lst ((srt us).map V.str)) := (upd_ne nq.symm).trans upd_same
    rw [e] at hq3 s3 ⊢
    have hm3 := hm2.same s3
    have ha3 := s3 _ _ ha2
    have h3 := s3 _ _ h2
    have s13 := s12.trans s3
    generalize upd (upd (upd (upd H2 qq (.lst [])) it (ItT t3 it 0)) qq (.lst ((srt ts).map V.str))) it (ItD it) = H3 at hq3 s3 hm3 ha3 h3 s13 ⊢
    refine ⟨_, rfl, _, _, .lst (SqL.of hq3) (dp_strs _), .lst (SqL.of h3) (dp_strs _), shp_strs srt_ok, shp_strs srt_ok, _, rfl, ?_⟩
    rw [eqv_strs]
    refine uF rfl ?_
    -- len(..)
    refine ⟨_, rfl, m, _, dx, _, _, rfl, ha3, ok_len T, m, us, rfl, hm3, _, rfl, by omega, by have := srt_len us; omega, ?_⟩
    refine ⟨_, rfl, D, _, rfl, .inl (SqL.of h3), rfl, _, rfl, uF (by rw [List.length_map, e]) ?_⟩
    -- str(..)
    refine ⟨_, rfl, m, _, dx, _, _, rfl, ha3, ok_str T, m, us, rfl, hm3, fun H4 s4 => ⟨_, rfl, ?_⟩⟩
    have h4 := s4 _ _ h3
    have hb : ((srt ts).map (·.length)).sum + (srt ts).length * (" " : Str).length ≤ 16777216 := by
      have h1 := sum_names (srt ts) srt_good
      have h2 := srt_len ts
      have h3 : (" " : Str).length = 1 := by decide +kernel
      rw [h3]
      omega
    refine ⟨_, rfl, _, tru_strs h4, lS (fun ne => ⟨⟨_, rfl⟩, _, rfl, " ", D, srt ts, rfl, rfl, .inl (SqL.of h4), hb, rfl, _, rfl, uF (by rw [e]; exact congrArg (fun z => V.str (Txt.join " " z)) (if_neg ne)) ?_⟩) (fun em => ⟨rfl, _, rfl, uF (by rw [e, em]; decide +kernel) ?_⟩)⟩
    all_goals
      refine ⟨rfl, fun l hl => ⟨sz1 (by simp), fun l2 hl2 => ⟨l, l2, _, _, rfl, rfl, (upd_ne (ne_of_none upd_same hl2)).trans upd_same, upd_same, sz1 (by simp [names7]), fun p hp => ⟨p, rfl, ⟨_, SqL.of upd_same⟩, ?_⟩⟩⟩⟩
      have s5 : Same H4 (upd (upd (upd H4 l (.lst (names7.map V.str))) l2 (.lst [V.str "none", V.str "ask"])) p (.lst (names7.map V.str ++ [V.str "none", V.str "ask"]))) := ((Same.new hl).trans (Same.new hl2)).trans (Same.new hp)
      have hm5 := (hm3.same s4).same s5
      have h5 := s5 _ _ h4
      have s15 := (s13.trans s4).trans s5
      have hp5 : SqL K (upd (upd (upd H4 l (.lst (names7.map V.str))) l2 (.lst [V.str "none", V.str "ask"])) p (.lst (names7.map V.str ++ [V.str "none", V.str "ask"]))) p ((names7 ++ [("none" : Str), ("ask" : Str)]).map V.str) := SqL.of upd_same
      generalize upd (upd (upd H4 l (.lst (names7.map V.str))) l2 (.lst [V.str "none", V.str "ask"])) p (.lst (names7.map V.str ++ [V.str "none", V.str "ask"])) = H5 at s5 hm5 h5 s15 hp5 ⊢
      refine for_list (K := K) (a := p) (xs := (names7 ++ [("none" : Str), ("ask" : Str)]).map V.str) (fun i σ H' => ∃ v, σ = [some (.ref m), some (.ref n), some (.ref D), v] ∧ H' = H5) ⟨none, rfl, rfl⟩ (fun i σ H' hi ⟨v, e1, e2⟩ => by rw [e2]; exact hp5) ?_ ?_
      · rintro i x σ H' hi ⟨v, rfl, rfl⟩
        obtain ⟨hi2, rfl⟩ := strs_at hi
        obtain ⟨dx5, t5, ha5, _⟩ := id hm5
        refine ⟨_, rfl, _, rfl, m, _, dx5, _, _, rfl, ha5, ok_contains T, m, us, _, rfl, hm5, _, rfl, _, rfl, _, rfl, D, _, rfl, .inl (SqL.of h5), rfl, flat_strs _, rfl, _, rfl, uF (by rw [inV_strs, e]) ⟨_, rfl, rfl⟩⟩
      · rintro σ H' ⟨v, rfl, rfl⟩
        exact q _ s15
end
end K87
namespace K87
open PySem PySem.Spec PyProof.Rows Cm
open L2 hiding Same
/-! ### the law -/
section
variable {K : PySem.W.Frag} {sa : Addr} {sx : List Int}
theorem MnAt.kp {H H' : Hp} {a p : Addr} {us : List Str} {xs : List V} (h : MnAt K H a us) (hp : H p = some (.lst xs)) (k : Kp p H H') : MnAt K H' a us := by
  obtain ⟨dx, t, h1, h2⟩ := h
  exact ⟨dx, t, k _ _ (fun z => by rw [z, hp] at h1; cases h1) h1, k _ _ (fun z => by rw [z, hp] at h2; cases h2) h2⟩
theorem pool_lst {H : Hp} {p : Addr} (hP : PoolAt K sa sx H p) : ∃ xs, H p = some (.lst xs) := by
  obtain ⟨i, b, s, hp, _⟩ := hP
  exact ⟨_, hp⟩
theorem od_kp {H H' : Hp} {p : Addr} {x : V} {k : OdK} (hP : PoolAt K sa sx H p) (s : Kp p H H') (h : OdAt K H x k) : OdAt K H' x k := by
  obtain ⟨i, b, s', hp, _⟩ := hP
  cases k with
  | tup => obtain ⟨a, e, h⟩ := h; exact ⟨a, e, s _ _ (fun z => by rw [z, hp] at h; cases h) h⟩
  | lst => obtain ⟨a, e, h⟩ := h; exact ⟨a, e, s _ _ (fun z => by rw [z, hp] at h; cases h) h⟩
  | _ => exact h
/-- the same, whatever is behind it -/
theorem made2 {H1 : Hp} {n y dx : Addr} {ts : List Str} {G : VK} {E : XK} (hn : Sq K H1 n (ts.map V.str)) (good : ∀ z ∈ ts, z ∈ names7) (hy : H1 y = none) (hdx : H1 dx = none) (ne : dx ≠ y) (q : ∀ H2, Same H1 H2 → MnAt K H2 y ts → G .non H2) :
    spInit K (.ref y :: ([.ref n] ++ [])) (upd (upd H1 dx (.own y)) y (.ins (MC K) dx [])) G E := by
  have s0 : Same H1 (upd (upd H1 dx (.own y)) y (.ins (MC K) dx [])) := (Same.new hdx).trans (Same.new (by rw [upd_ne ne.symm]; exact hy))
  refine ⟨y, n, dx, ts, rfl, upd_same, hn.same s0, good, fun H' t s ht => q _ ((s0.trans s).mut hy) ⟨dx, t, upd_same, ?_⟩⟩
  have e := s _ _ upd_same
  have nt : t ≠ y := fun z => by
    rw [z, e] at ht
    cases ht
  rw [upd_ne nt]
  exact ht
end
theorem srt_or (a b : List Str) : srt (fOr (srt a) (srt b)) = srt (a ++ b) := srt_congr fun z hz => by simp [fOr, mem_srt, hz]
theorem srt_and (a b : List Str) : srt (fAnd (srt a) (srt b)) = srt (a.filter fun z => decide (z ∈ b)) := srt_congr fun z hz => by simp [fAnd, mem_srt, hz]
theorem srt_sub (a b : List Str) : srt (fSub (srt a) (srt b)) = srt (a.filter fun z => !decide (z ∈ b)) := srt_congr fun z hz => by simp [fSub, mem_srt, hz]
theorem srt_self (a : List Str) : srt (fSub (srt a) (srt a)) = srt [] := srt_congr fun z hz => by simp [fSub]
theorem part_eq {a b : List Str} (g : ∀ z ∈ a, z ∈ names7) : ((srt a).all fun z => decide (z ∈ srt b)) = decide (∀ z ∈ a, z ∈ b) := by
  rw [Bool.eq_iff_iff, List.all_eq_true, decide_eq_true_iff]
  exact ⟨fun h z hz => (mem_srt.mp (of_decide_eq_true (h z (mem_srt.mpr ⟨g z hz, hz⟩)))).2, fun h z hz => decide_eq_true (mem_srt.mpr ⟨srt_good z hz, h z (mem_srt.mp hz).2⟩)⟩
theorem od_eqv (k : OdK) : PyData.eqv (.list [odD k, .bool true]) (.list [odD k, .bool true]) = true := by
  cases k <;> simp [odD, PyData.eqv, PyData.eqvAll]
theorem od_shp2 {K : PySem.W.Frag} {H : Hp} {x : V} {k : OdK} (h : OdAt K H x k) : SeqAt.shaped (.list [odD k, .bool true]) = true := by
  have h1 := od_shp h
  obtain ⟨h1, h2⟩ := Bool.and_eq_true_iff.mp (show ((odD k).canLay0 && decide ((odD k).depth ≤ 64)) = true from h1)
  have h3 : (odD k).depth ≤ 2 := by cases k <;> simp [odD, PyData.depth, PyData.depthAll]
  show ((PyData.list [odD k, .bool true]).canLay0 && decide ((PyData.list [odD k, .bool true]).depth ≤ 64)) = true
  rw [Bool.and_eq_true]
  refine ⟨?_, decide_eq_true ?_⟩
  · simp [PyData.canLay0, PyData.canLayAll0, h1]
  · simp only [PyData.depth, PyData.depthAll]
    omega
section
variable {P : Program} {w : World} {K : PySem.W.Frag} {mg : Str → Option Value} {base : Heap} {sa : Addr} {sx : List Int}
theorem Tx.cast (T : Tx K mg sa sx) (a : Addr) (x : List Int) : Tx K mg a x := by
  cases T
  constructor <;> assumption
def spLaw (K : PySem.W.Frag) : Sp := fun vs H Q _ => ∃ (a : Addr) (ns : List Int), vs = [.ref a] ∧ SqL K H a (ns.map V.int) ∧ ∀ H', Q (.bl true) H'
theorem ok_law (T0 : Tx K mg sa sx) (hP : PF P) {fd : FuncData} (F : FunD K "law" "law" (defArgs s_law) (defBody s_law) (defScope s_law) [] [] (He.ga K "law") fd) : FnOk P w K mg base CX0 12 (He.ga K "law") fd ["_law_script"] (spLaw K) := by
  refine fnok F sc_law (fun vs H Q E h => ?_) (fun cdv A outer s H vs Q E hr h => ?_)
  · obtain ⟨a, ns, rfl, _⟩ := h; rfl
  · obtain ⟨a, ns, rfl, hS, k⟩ := h
    have T : Tx K mg a ns := T0.cast a ns
    have okr : ∀ _ : Tx K mg a ns, Cal P w K mg base 9 "_law_refused" (spRef K) := fun T => ok_l_refused T hP
    have okro : ∀ _ : Tx K mg a ns, Cal P w K mg base 9 "_law_refused_of" (spRefOf K) := fun T => ok_l_refused_of T hP
    refine ⟨_, (pss_cons (ps_set (i := 1) sc_law.nd rfl (by first | exact Or.inl rfl | exact Or.inr rfl) (pe_lst (pa_cons (pv 0) (pa_cons pe_int (pa_cons pe_int (pa_cons pe_int pa_nil))))))
    (pss_cons (ps_if (pt_cmpR (op_neD hr.units) (ClX.pe_cval (pe_glob (v := .ref _) rfl (g_Manners T) rfl)) (pe_callTy (T := "tuple") call_tuple_of rfl (n_tuple T) (by decide +kernel) (pa_cons (pe_cal0 (ok_l_all T) hr (by decide)) pa_nil)) (nomark _)) (pss_one (ps_ret pe_bl)) pss_nil)
    (pss_cons (ps_for PassesOwn.never rfl (pi_range1 rfl (n_range T) (pa_cons pe_int pa_nil)) (pg_name (i := 2) sc_law.nd rfl (by first | exact Or.inl rfl | exact Or.inr rfl))
      (pss_cons (ps_set (i := 3) sc_law.nd rfl (by first | exact Or.inl rfl | exact Or.inr rfl) (pe_cal (ok_l_names T) hr (by decide) (pa_cons (pv 1) pa_nil)))
      (pss_cons (ps_set (i := 4) sc_law.nd rfl (by first | exact Or.inl rfl | exact Or.inr rfl) (pe_cal (ok_l_names T) hr (by decide) (pa_cons (pv 1) pa_nil)))
      (pss_cons (ps_set (i := 5) sc_law.nd rfl (by first | exact Or.inl rfl | exact Or.inr rfl) (pe_callTy (T := "list") call_list_of rfl (n_list T) (by decide +kernel) (pa_cons (pv 3) pa_nil)))
      (pss_cons (ps_set (i := 6) sc_law.nd rfl (by first | exact Or.inl rfl | exact Or.inr rfl) (pe_kal (ok_Manners_init T) hr (by decide) (pa_cons (pv 5) pa_nil)))
      (pss_cons (ps_expr (pe_bm PySem.F.plainAttrs_list PySem.F.slot_list_append PySem.F.type_list_append mt_append (pv 5) (pa_cons pe_str pa_nil)))
      (pss_cons (ps_set (i := 7) sc_law.nd rfl (by first | exact Or.inl rfl | exact Or.inr rfl) (pe_kal (ok_Manners_init T) hr (by decide) (pa_cons (pe_callTy (T := "tuple") call_tuple_of rfl (n_tuple T) (by decide +kernel) (pa_cons (pv 4) pa_nil)) pa_nil)))
      (pss_cons (ps_if (PW.pt (pw_or (pt_not (pt_val (pe_cal (ok_l_is_set T) hr (by decide) (pa_cons (pv 6) (pa_cons (pv 3) pa_nil))))) (pw_or1 (pt_not (pt_val (pe_cal (ok_l_is_set T) hr (by decide) (pa_cons (pv 7) (pa_cons (pv 4) pa_nil)))))))) (pss_one (ps_ret pe_bl)) pss_nil)
      (pss_cons (ps_setLc (i := 8) (own := [("_law_name", 9)]) (g := gName 9) rfl sc_law.nd rfl rfl (sw_true rfl rfl rfl (by decide +kernel)) (pi_list (pv 3)) (blkOk_by (own := [("_law_name", 9)]) (N := ["_law_script", "_law_pool", "_law_turn", "_law_one", "_law_two", "_law_handed", "_law_first", "_law_second", "_law_both", "_law_name", "_law_rest", "_law_at", "_law_odd_here"]) (sc := defScope s_law) (by decide +kernel)) (fun _ _ _ _ _ => pg_name (i := 9) sc_law.nd rfl (Or.inl rfl)) (fun _ _ _ _ _ => (pts_one (pt_cmpR (show OpR _ _ (rIn K false) from op_in_seq) (pv 9) (pv 4) (by rfl)))) (fun _ _ _ _ _ => (pv 9)))
      (pss_cons (ps_setLc (i := 10) (own := [("_law_name", 9)]) (g := gName 9) rfl sc_law.nd rfl rfl (sw_true rfl rfl rfl (by decide +kernel)) (pi_list (pv 3)) (blkOk_by (own := [("_law_name", 9)]) (N := ["_law_script", "_law_pool", "_law_turn", "_law_one", "_law_two", "_law_handed", "_law_first", "_law_second", "_law_both", "_law_name", "_law_rest", "_law_at", "_law_odd_here"]) (sc := defScope s_law) (by decide +kernel)) (fun _ _ _ _ _ => pg_name (i := 9) sc_law.nd rfl (Or.inl rfl)) (fun _ _ _ _ _ => (pts_one (pt_cmpR (show OpR _ _ (rIn K true) from op_notIn_seq) (pv 9) (pv 4) (by rfl)))) (fun _ _ _ _ _ => (pv 9)))
      (pss_cons (ps_if (PW.pt (pw_or (pt_not (pt_val (pe_cal (ok_l_is_set T) hr (by decide) (pa_cons (pe_op (op_ownBin (m := "__or__") (k := 4) (by decide +kernel) hr (by decide)) (pv 6) (pv 7)) (pa_cons (pe_op op_cat (pv 3) (pv 4)) pa_nil))))) (pw_or1 (pt_not (pt_val (pe_cal (ok_l_is_set T) hr (by decide) (pa_cons (pe_op (op_ownBin (m := "__and__") (k := 4) (by decide +kernel) hr (by decide)) (pv 6) (pv 7)) (pa_cons (pv 8) pa_nil)))))))) (pss_one (ps_ret pe_bl)) pss_nil)
      (pss_cons (ps_if (PW.pt (pw_or (pt_not (pt_val (pe_cal (ok_l_is_set T) hr (by decide) (pa_cons (pe_op (op_ownBin (m := "__sub__") (k := 4) (by decide +kernel) hr (by decide)) (pv 6) (pv 7)) (pa_cons (pv 10) pa_nil))))) (pw_or1 (pt_not (pt_val (pe_cal (ok_l_is_set T) hr (by decide) (pa_cons (pe_op (op_ownBin (m := "__sub__") (k := 4) (by decide +kernel) hr (by decide)) (pv 7) (pv 7)) (pa_cons (pe_lst pa_nil) pa_nil)))))))) (pss_one (ps_ret pe_bl)) pss_nil)
      (pss_cons (ps_if (PW.pt (pw_or (pt_cmpR op_ne (pe_mcalA (ok_is_part_of T) hr (by decide) (pv 6) (pa_cons (pv 7) pa_nil)) (pe_cal (ok_l_is_within T) hr (by decide) (pa_cons (pv 3) (pa_cons (pv 4) pa_nil))) (nomark _)) (pw_or1 (PW.pt (pw_and (pt_not (pt_cmpR (op_eqD hr.units) (pv 8) (pe_lst pa_nil) (nomark _))) (pw_and1 (pt_val (pe_mcalA (ok_is_part_of T) hr (by decide) (pv 6) (pa_cons (pe_kal (ok_Manners_init T) hr (by decide) (pa_cons (pe_lst pa_nil) pa_nil)) pa_nil))))))))) (pss_one (ps_ret pe_bl)) pss_nil)
      (pss_cons (ps_if (PW.pt (pw_or (pt_cmpR op_ne (pe_cmpR (op_ownG (k := 1) hr (by decide)) (pv 6) (pv 7) (nomark _)) (pe_cmpR (op_eqD hr.units) (pe_cal (ok_l_sorted_names T) hr (by decide) (pa_cons (pv 3) pa_nil)) (pe_cal (ok_l_sorted_names T) hr (by decide) (pa_cons (pv 4) pa_nil)) (nomark _)) (nomark _)) (pw_or1 (pt_cmpR (op_ownGT (k := 1) hr (by decide)) (pv 6) (pe_fld (pv 6) rfl) (nomark _))))) (pss_one (ps_ret pe_bl)) pss_nil)
      (pss_cons (ps_set (i := 11) sc_law.nd rfl (by first | exact Or.inl rfl | exact Or.inr rfl) (pe_cal (ok_l_draw T) hr (by decide) (pa_cons (pv 1) (pa_cons (pe_op op_add (pe_callB (id := "len") call_len_seq rfl (n_len T) (by decide +kernel) (pa_cons (pv 3) pa_nil)) pe_int) pa_nil))))
      (pss_cons (ps_set (i := 12) sc_law.nd rfl (by first | exact Or.inl rfl | exact Or.inr rfl) (pe_cal (ok_l_odd T) hr (by decide) (pa_cons (pv 1) pa_nil)))
      (pss_cons (ps_if (pt_cmpR (op_neD hr.units) (pe_cal (okr T) hr (by decide) (pa_cons (pe_op op_cat (pe_op op_cat (pe_op op_cat (pe_slice sl_list (pv 3) po_none (po_some (pv 11))) (pe_lst (pa_cons (pv 12) pa_nil))) (pe_slice sl_list (pv 3) (po_some (pv 11)) po_none)) (pe_lst (pa_cons (pe_cal (ok_l_odd T) hr (by decide) (pa_cons (pv 1) pa_nil)) pa_nil))) pa_nil)) (pe_lst (pa_cons (pv 12) (pa_cons pe_bl pa_nil))) (nomark _)) (pss_one (ps_ret pe_bl)) pss_nil)
      (pss_cons (ps_if (PW.pt (pw_or (pt_cmpR (op_neD hr.units) (pe_cal (okro T) hr (by decide) (pa_cons pe_str (pa_cons (pv 12) (pa_cons pe_str pa_nil)))) (pe_lst (pa_cons (pv 12) (pa_cons pe_bl pa_nil))) (nomark _)) (pw_or1 (pt_cmpR op_ne (pe_cal (okr T) hr (by decide) (pa_cons (pv 3) pa_nil)) pe_str (nomark _))))) (pss_one (ps_ret pe_bl)) pss_nil)
      (pss_one (ps_if (PW.pt (pw_or (pt_not (pt_val (pe_cal (ok_l_is_set T) hr (by decide) (pa_cons (ClX.pe_cmeth (pe_glob (v := .ref _) rfl (g_Manners T) rfl) (cr T) (ofc T) (ok_of T) (hr.mono (by decide)) (E := E0) pass0 (pa_cons pe_str (pa_cons pe_str (pa_cons pe_str pa_nil)))) (pa_cons (pe_lst (pa_cons pe_str (pa_cons pe_str pa_nil))) pa_nil))))) (pw_or1 (pt_not (pt_val (pe_cal (ok_l_is_set T) hr (by decide) (pa_cons (pv 6) (pa_cons (pv 3) pa_nil)))))))) (pss_one (ps_ret pe_bl)) pss_nil))))))))))))))))))))
    (pss_one (ps_ret (pe_and (pe_cal (ok_l_is_set T) hr (by decide) (pa_cons (pe_cmeth0 (pe_glob (v := .ref _) rfl (g_Manners T) rfl) (cr T) (ofc T) (ok_of T) (hr.mono (by decide)) (E := E0) pass0) (pa_cons (pe_lst pa_nil) pa_nil))) (pe_one (pe_cmpR op_eq (pe_cal (okro T) hr (by decide) (pa_cons pe_str (pa_cons pe_str (pa_cons pe_str pa_nil)))) pe_str (nomark _))))))))), ?_⟩
    refine ⟨_, rfl, sz1 (by simp), fun p hp => ?_⟩
    have P0 : PoolAt K a ns (upd H p (.lst [V.ref a, V.int 0, V.int 0, V.int 41])) p :=
      ⟨0, 0, 41, upd_same, sq_new hS hp, (sq_new hS hp).elim (fun n => Kp.sl (p := p) (Kp.refl.new hp) n hS) (fun z => z _), by decide, by decide, by decide, by decide⟩
    generalize upd H p (.lst [V.ref a, V.int 0, V.int 0, V.int 41]) = HP at P0 ⊢
    -- the names
    refine ⟨_, _, _, _, rfl, cr T, cv T, rfl, fun l hl => ⟨l, _, rfl, .inl ⟨SqL.of upd_same, fun t ht => ⟨_, _, allD T _, .tup (SqT.of upd_same) (dp_strs _), shp_strsT ok7, shp_strsT ok7, _, rfl, ?_⟩⟩⟩⟩
    rw [eqv_strsT]
    refine uF rfl ?_
    have P1 := pool_new (o := .tup (names7.map V.str)) (pool_new (o := .lst (names7.map V.str)) P0 hl) ht
    generalize upd (upd HP l (.lst (names7.map V.str))) t (.tup (names7.map V.str)) = HQ at P1 ⊢
    refine ⟨4, rfl, by decide, by decide, ?_⟩
    refine for_range (lo := 0) (n := (4 : Int).toNat) (fun _ σ H' => ∃ v2 v3 v4 v5 v6 v7 v8 v9 v10 v11 v12, σ = [some (.ref a), some (.ref p), v2, v3, v4, v5, v6, v7, v8, v9, v10, v11, v12] ∧ PoolAt K a ns H' p) ⟨none, none, none, none, none, none, none, none, none, none, none, rfl, P1⟩ ?_ ?_
    · rintro i σ H0 hi ⟨v2, v3, v4, v5, v6, v7, v8, v9, v10, v11, v12, rfl, p0⟩
      refine ⟨_, rfl, p, rfl, p0, fun A1 ts1 H1 hA1 h1 l1 g1 k1 p1 => ?_⟩
      refine ⟨_, rfl, p, rfl, p1, fun A2 ts2 H2 hA2 h2 l2 g2 k2 p2 => ?_⟩
      have h1 := k2 _ _ (pool_strs p1 h1) h1
      refine ⟨_, rfl, A1, _, rfl, .inl (SqL.of h1), fun Hd hHd => ?_⟩
      refine ⟨_, rfl, fun y dx hy hdx ne => made2 (.inl (SqL.of upd_same)) g1 hy hdx ne fun H3 s3 m1 => ⟨rfl, ?_⟩⟩
      have s2 := Same.new hHd (o := .lst (ts1.map V.str))
      have hd3 := s3 _ _ (upd_same (H := H2) (a := Hd) (o := .lst (ts1.map V.str)))
      have s23 := s2.trans s3
      have nA1 : A1 ≠ Hd := ne_of_none h1 hHd
      have nA2 : A2 ≠ Hd := ne_of_none h2 hHd
      have nHp : Hd ≠ p := pool_ne p2 hHd
      have frH := pool_fresh p2 hHd
      have h1 := s23 _ _ h1
      have h2 := s23 _ _ h2
      have p3 := pool_same p2 s23
      -- what is handed changes
      refine ⟨_, rfl, .inl ⟨rfl, _, SqL.of hd3⟩, Hd, _, _, rfl, rfl, hd3, sz2 (by rw [List.length_map]; omega), ?_⟩
      have kd : Kp Hd H3 (upd H3 Hd (.lst (ts1.map V.str ++ [V.str "x"]))) := Kp.refl.at
      have m1 := m1.kp hd3 kd
      have h1 := kd _ _ nA1 h1
      have h2 := kd _ _ nA2 h2
      have p3 := pool_upd (o := .lst (ts1.map V.str ++ [V.str "x"])) p3 nHp frH
      generalize upd H3 Hd (.lst (ts1.map V.str ++ [V.str "x"])) = H4 at m1 h1 h2 p3 ⊢
      refine ⟨_, rfl, A2, _, rfl, .inl ⟨SqL.of h2, fun t2 ht2 => ?_⟩⟩
      refine fun y2 dx2 hy2 hdx2 ne2 => made2 (.inr (SqT.of upd_same)) g2 hy2 hdx2 ne2 fun H5 s5 m2 => ⟨rfl, ?_⟩
      have s45 := (Same.new ht2 (o := .tup (ts2.map V.str))).trans s5
      have m1 := m1.same s45
      have h1 := s45 _ _ h1
      have h2 := s45 _ _ h2
      have p5 := pool_same p3 s45
      -- both are these sets
      refine ⟨_, rfl, _, rfl, y, A1, ts1, ts1, rfl, m1, h1, rfl, fun H6 s6 => ⟨true, rfl, iteF ⟨_, rfl, _, rfl, y2, A2, ts2, ts2, rfl, m2.same s6, s6 _ _ h2, rfl, fun H7 s7 => ⟨true, rfl, iteF ?_⟩⟩⟩⟩
      have s67 := s6.trans s7
      have m1 := m1.same s67
      have m2 := m2.same s67
      have h1 := s67 _ _ h1
      have h2 := s67 _ _ h2
      have p7 := pool_same p5 s67
      -- what both have
      refine ⟨_, rfl, A1, rfl, ⟨_, SqL.of h1⟩, fun B hB => ?_⟩
      refine lc_list (K := K) (a := A1) (xs := ts1.map V.str) (fun i H' => Same H7 H' ∧ H' B = some (.lst (((ts1.take i).filter fun z => decide (z ∈ ts2)).map V.str))) ⟨Same.new hB, upd_same⟩ (fun i H' _ ⟨sm, _⟩ => SqL.of (sm _ _ h1)) ?_ ?_
      · rintro i x H' hi ⟨sm, hS⟩
        obtain ⟨hi2, rfl⟩ := strs_at hi
        refine ⟨rfl, _, rfl, _, rfl, A2, _, rfl, .inl (SqL.of (sm _ _ h2)), rfl, flat_strs _, _, rfl, ?_⟩
        rw [inV_strs, take_filter hi2]
        refine dC (fun c => ?_) (fun c => ?_)
        · refine ⟨_, rfl, _, hS, sz2 (by rw [List.length_map]; exact Nat.le_trans (filt_len (n := 9) l1) (by decide)), sm.mut hB, ?_⟩
          rw [upd_same, if_pos (decide_eq_true c), List.map_append]; rfl
        · refine ⟨sm, ?_⟩
          rw [if_neg (by simpa using c)]; exact hS
      rintro H8 ⟨s8, hB8⟩
      rw [List.length_map, List.take_length] at hB8
      have m1 := m1.same s8
      have m2 := m2.same s8
      have h1 := s8 _ _ h1
      have h2 := s8 _ _ h2
      have p8 := pool_same p7 s8
      -- what one has alone
      refine ⟨_, rfl, A1, rfl, ⟨_, SqL.of h1⟩, fun R hR => ?_⟩
      refine lc_list (K := K) (a := A1) (xs := ts1.map V.str) (fun i H' => Same H8 H' ∧ H' R = some (.lst (((ts1.take i).filter fun z => !decide (z ∈ ts2)).map V.str))) ⟨Same.new hR, upd_same⟩ (fun i H' _ ⟨sm, _⟩ => SqL.of (sm _ _ h1)) ?_ ?_
      · rintro i x H' hi ⟨sm, hS⟩
        obtain ⟨hi2, rfl⟩ := strs_at hi
        refine ⟨rfl, _, rfl, _, rfl, A2, _, rfl, .inl (SqL.of (sm _ _ h2)), rfl, flat_strs _, _, rfl, ?_⟩
        rw [inV_strs, take_filter hi2]
        refine uC (fun c => ?_) (fun c => ?_)
        · refine ⟨_, rfl, _, hS, sz2 (by rw [List.length_map]; exact Nat.le_trans (filt_len (n := 9) l1) (by decide)), sm.mut hR, ?_⟩
          rw [upd_same, if_pos (by simpa using c), List.map_append]; rfl
        · refine ⟨sm, ?_⟩
          rw [if_neg (by simpa using c)]; exact hS
      rintro H9 ⟨s9, hR9⟩
      rw [List.length_map, List.take_length] at hR9
      have m1 := m1.same s9
      have m2 := m2.same s9
      have h1 := s9 _ _ h1
      have h2 := s9 _ _ h2
      have hB9 := s9 _ _ hB8
      have p9 := pool_same p8 s9
      -- | and &
      obtain ⟨dA, tA, hA, htA⟩ := id m1
      obtain ⟨dB, tB, hBm, htB⟩ := id m2
      refine ⟨_, rfl, _, rfl, y, y2, MC K, dA, dB, _, _, spBin K fOr, rfl, rfl, hA, hBm, x_first T, ok_or T, y, ts1, y2, ts2, rfl, m1, m2, fun U H10 s10 mU => ?_⟩
      refine ⟨_, rfl, _, rfl, A1, A2, _, _, rfl, rfl, s10 _ _ h1, s10 _ _ h2, sz1 (by rw [List.length_map, List.length_map]; omega), fun C1 hC1 => ?_⟩
      have s11 := Same.new hC1 (o := .lst (ts1.map V.str ++ ts2.map V.str))
      refine ⟨U, C1, _, ts1 ++ ts2, rfl, mU.same s11, by rw [upd_same, List.map_append], srt_or ts1 ts2, fun H11 s12 => ⟨true, rfl, iteF ?_⟩⟩
      have s11 := (s10.trans s11).trans s12
      have m1 := m1.same s11
      have m2 := m2.same s11
      have h1 := s11 _ _ h1
      have h2 := s11 _ _ h2
      have hB := s11 _ _ hB9
      have hR := s11 _ _ hR9
      have p11 := pool_same p9 s11
      obtain ⟨dA, tA, hA, htA⟩ := id m1
      obtain ⟨dB, tB, hBm, htB⟩ := id m2
      refine ⟨_, rfl, _, rfl, y, y2, MC K, dA, dB, _, _, spBin K fAnd, rfl, rfl, hA, hBm, x_first T, ok_and T, y, ts1, y2, ts2, rfl, m1, m2, fun U2 H12 s12 mU2 => ?_⟩
      refine ⟨_, rfl, U2, B, _, _, rfl, mU2, s12 _ _ hB, srt_and ts1 ts2, fun H13 s13 => ⟨true, rfl, iteF ?_⟩⟩
      have s13 := s12.trans s13
      have m1 := m1.same s13
      have m2 := m2.same s13
      have h1 := s13 _ _ h1
      have h2 := s13 _ _ h2
      have hB := s13 _ _ hB
      have hR := s13 _ _ hR
      have p13 := pool_same p11 s13
      -- -
      obtain ⟨dA, tA, hA, htA⟩ := id m1
      obtain ⟨dB, tB, hBm, htB⟩ := id m2
      refine ⟨_, rfl, _, rfl, y, y2, MC K, dA, dB, _, _, spBin K fSub, rfl, rfl, hA, hBm, x_first T, ok_sub T, y, ts1, y2, ts2, rfl, m1, m2, fun U3 H14 s14 mU3 => ?_⟩
      refine ⟨_, rfl, U3, R, _, _, rfl, mU3, s14 _ _ hR, srt_sub ts1 ts2, fun H15 s15 => ⟨true, rfl, iteF ?_⟩⟩
      have s15 := s14.trans s15
      have m1 := m1.same s15
      have m2 := m2.same s15
      have h1 := s15 _ _ h1
      have h2 := s15 _ _ h2
      have hB := s15 _ _ hB
      have p15 := pool_same p13 s15
      obtain ⟨dB, tB, hBm, htB⟩ := id m2
      refine ⟨_, rfl, _, rfl, y2, y2, MC K, dB, dB, _, _, spBin K fSub, rfl, rfl, hBm, hBm, x_first T, ok_sub T, y2, ts2, y2, ts2, rfl, m2, m2, fun U4 H16 s16 mU4 => ?_⟩
      refine ⟨sz1 (by simp), fun e1 he1 => ⟨U4, e1, _, [], rfl, mU4.same (Same.new he1), upd_same, srt_self ts2, fun H17 s17 => ⟨true, rfl, iteF ?_⟩⟩⟩
      have s17 := (s16.trans (Same.new he1 (o := .lst []))).trans s17
      have m1 := m1.same s17
      have m2 := m2.same s17
      have h1 := s17 _ _ h1
      have h2 := s17 _ _ h2
      have hB := s17 _ _ hB
      have p17 := pool_same p15 s17
      -- is_part_of
      have l12 : ((ts1.filter fun z => decide (z ∈ ts2))).length ≤ 9 := Nat.le_trans (List.length_filter_le _ _) l1
      have okB : ∀ z ∈ (ts1.filter fun z => decide (z ∈ ts2)), PyData.strOk z = true := fun z hz => ok7 z (g1 z (List.mem_filter.mp hz).1)
      obtain ⟨dA, tA, hA, htA⟩ := id m1
      refine ⟨_, rfl, y, dA, _, rfl, hA, rfl, _, rfl, y, ts1, y2, ts2, rfl, m1, m2, fun H18 s18 => ?_⟩
      refine ⟨_, rfl, _, rfl, A1, A2, ts1, ts2, rfl, s18 _ _ h1, s18 _ _ h2, by omega, g1, fun H19 s19 => ⟨rfl, _, rfl, uF (by rw [part_eq g1]) ?_⟩⟩
      have s19 := s18.trans s19
      refine ⟨_, rfl, sz1 (by simp), fun e2 he2 => ⟨_, _, .lst (SqL.of ((Same.new he2) _ _ (s19 _ _ hB))) (dp_strs _), .lst (SqL.of upd_same) (dp_strs []), shp_strs okB, shp_strs (by simp), _, rfl, ?_⟩⟩
      rw [eqv_strs]
      have s20 := s19.trans (Same.new he2 (o := .lst []))
      generalize upd H19 e2 (.lst []) = H20 at s20 ⊢
      refine uC (fun ne => ?g1) (fun em => ?g2)
      case' g1 =>
        refine ⟨_, rfl, y, dA, _, rfl, s20 _ _ hA, rfl, sz1 (by simp), fun e3 he3 y3 dx3 hy3 hdx3 ne3 => made2 (ts := []) (.inl (SqL.of upd_same)) (by simp) hy3 hdx3 ne3 fun H21 s21 m3 => ⟨rfl, y, ts1, y3, [], rfl, ?_, m3, fun HX sX => ⟨_, rfl, bF ?_ ?_⟩⟩⟩
        · exact m1.same ((s20.trans (Same.new he3)).trans s21)
        · cases hf : (ts1.filter fun z => decide (z ∈ ts2)) with
          | nil => exact absurd hf ne
          | cons z zs =>
            have hz : z ∈ ts1 := (List.mem_filter.mp (show z ∈ ts1.filter _ by rw [hf]; exact List.mem_cons_self)).1
            rw [part_eq g1]
            exact decide_eq_false fun h => by cases h z hz
        have sX := ((s20.trans (Same.new he3 (o := .lst []))).trans s21).trans sX
      case' g2 =>
        have sX := s20
        generalize H20 = HX at sX ⊢
      all_goals
        have m1 := m1.same sX
        have m2 := m2.same sX
        have h1 := sX _ _ h1
        have h2 := sX _ _ h2
        have pX := pool_same p17 sX
        -- ==
        obtain ⟨dA, tA, hA, htA⟩ := id m1
        obtain ⟨dB, tB, hBm, htB⟩ := id m2
        refine ⟨_, rfl, _, rfl, y, MC K, dA, _, spEq K, rfl, hA, ok_eq T, .inl ⟨y2, MC K, dB, _, rfl, hBm, x_nf T⟩, y, ts1, _, rfl, m1, .inl ⟨y2, ts2, rfl, m2, ?_⟩⟩
        refine ⟨_, rfl, A1, ts1, rfl, h1, fun S1 Y1 hS1 sS1 hl1 => ⟨_, rfl, A2, ts2, rfl, sS1 _ _ h2, fun S2 Y2 hS2 sS2 hl2 => ⟨_, _, .lst (SqL.of (sS2 _ _ hl1)) (dp_strs _), .lst (SqL.of hl2) (dp_strs _), shp_strs srt_ok, shp_strs srt_ok, ?_⟩⟩⟩
        refine ⟨rfl, _, rfl, uF (by rw [eqv_strs]) ?_⟩
        have sY := sS1.trans sS2
        have m1 := m1.same sY
        have h1 := sY _ _ h1
        have pY := pool_same pX sY
        refine ⟨_, rfl, _, rfl, y, _, dA, _, _, rfl, sY _ _ hA, c_Manners T, na_Manners_names T, fl1, y, MC K, dA, _, spEq K, tA, _, rfl, rfl, sY _ _ hA, SqT.of (sY _ _ htA), ok_eq T, x_nft T, y, ts1, _, rfl, m1, .inr ⟨tA, _, rfl, sY _ _ htA, ?_⟩⟩
        refine ⟨_, rfl, iteF ?_⟩
        -- an odd one
        refine ⟨_, rfl, _, rfl, A1, _, rfl, .inl (SqL.of h1), _, _, rfl, rfl, p, _, rfl, by omega, io (by rw [List.length_map]; omega), pY, fun c Z1 c0 c1 kZ1 pZ1 => ?_⟩
        obtain ⟨cn, rfl⟩ := Int.eq_ofNat_of_zero_le c0
        have m1 := m1.kp (pool_lst pY).choose_spec kZ1
        have h1 := kZ1 _ _ (pool_strs pY h1) h1
        refine ⟨_, rfl, p, rfl, pZ1, fun x kx Z2 ho hb kZ2 pZ2 => ?_⟩
        have m1 := m1.kp (pool_lst pZ1).choose_spec kZ2
        have h1 := kZ2 _ _ (pool_strs pZ1 h1) h1
        -- refused(one[:at] + [odd] + one[at:] + [another])
        refine ⟨_, rfl, _, rfl, _, rfl, A1, _, rfl, SqL.of h1, fun q1 hq1 => ?_⟩
        rw [Cm.cutT, ← List.map_take]
        have e1 := Same.new hq1 (o := .lst ((ts1.take cn).map V.str))
        refine ⟨_, rfl, sz1 (by simp), fun q2 hq2 => ?_⟩
        have e2 := e1.trans (Same.new hq2 (o := .lst [x]))
        refine ⟨q1, q2, _, _, rfl, rfl, (upd_ne (ne_of_none upd_same hq2)).trans upd_same, upd_same, sz1 (by simp; omega), fun q3 hq3 => ?_⟩
        have e3 := e2.trans (Same.new hq3 (o := .lst ((ts1.take cn).map V.str ++ [x])))
        refine ⟨_, rfl, _, rfl, _, rfl, A1, _, rfl, SqL.of (e3 _ _ h1), fun q4 hq4 => ?_⟩
        rw [Cm.cutD, ← List.map_drop]
        have e4 := e3.trans (Same.new hq4 (o := .lst ((ts1.drop cn).map V.str)))
        refine ⟨q3, q4, _, _, rfl, rfl, (upd_ne (ne_of_none upd_same hq4)).trans upd_same, upd_same, sz1 (by simp; omega), fun q5 hq5 => ?_⟩
        have e5 := e4.trans (Same.new hq5 (o := .lst ((ts1.take cn).map V.str ++ [x] ++ (ts1.drop cn).map V.str)))
        have p5' := pool_same pZ2 e5
        have nq5 : q5 ≠ p := by
          refine pool_ne (pool_same pZ2 e4) hq5
        refine ⟨_, rfl, p, rfl, p5', fun x2 kx2 Z3 ho2 hb2 kZ3 pZ3 => ?_⟩
        have h5 := kZ3 _ _ nq5 (upd_same)
        have ho3 := od_kp p5' kZ3 (od_same e5 ho)
        have m1 := (m1.same e5).kp (pool_lst p5').choose_spec kZ3
        have h1 := e5 _ _ h1
        have h1 := kZ3 _ _ (pool_strs p5' h1) h1
        refine ⟨sz1 (by simp), fun q6 hq6 => ⟨q5, q6, _, _, rfl, rfl, (Same.new hq6) _ _ h5, upd_same, sz1 (by simp; omega), fun q7 hq7 => ?_⟩⟩
        have e7 := (Same.new hq6 (o := .lst [x2])).trans (Same.new hq7 (o := .lst ((ts1.take cn).map V.str ++ [x] ++ (ts1.drop cn).map V.str ++ [x2])))
        refine ⟨q7, rfl, .inr ⟨ts1.take cn, x, kx, (ts1.drop cn).map V.str ++ [x2], .inl (SqL.of (by rw [upd_same, List.append_assoc, List.append_assoc]; rfl)), fun z hz => g1 z (List.mem_of_mem_take hz), od_same e7 ho3, hb, fun Z4 l v sV hv hl => ?_⟩⟩
        refine ⟨_, rfl, sz1 (by simp), fun q8 hq8 => ?_⟩
        have s8 := Same.new hq8 (o := .lst [x, V.bl true])
        have e8 := (e7.trans sV).trans s8
        have ho8 := od_same e8 ho3
        refine ⟨_, _, .lst (SqL.of (s8 _ _ hl)) (.cons (od_dp (od_same s8 hv)) (.cons (.bl true) .nil)), .lst (SqL.of upd_same) (.cons (od_dp ho8) (.cons (.bl true) .nil)), od_shp2 ho3, od_shp2 ho3, _, rfl, ?_⟩
        rw [od_eqv]
        refine iteF ?_
        have m1 := m1.same e8
        have h1 := e8 _ _ h1
        have p8' := pool_same pZ3 e8
        -- refused_of
        refine ⟨_, rfl, rfl, .inr ⟨["tags"], x, kx, [.str "also"], rfl, by decide +kernel, ho8, hb, fun Z5 l2 v2 sV2 hv2 hl2 => ?_⟩⟩
        refine ⟨_, rfl, sz1 (by simp), fun q9 hq9 => ?_⟩
        have s9' := Same.new hq9 (o := .lst [x, V.bl true])
        have e9 := sV2.trans s9'
        refine ⟨_, _, .lst (SqL.of (s9' _ _ hl2)) (.cons (od_dp (od_same s9' hv2)) (.cons (.bl true) .nil)), .lst (SqL.of upd_same) (.cons (od_dp (od_same e9 ho8)) (.cons (.bl true) .nil)), od_shp2 ho3, od_shp2 ho3, _, rfl, ?_⟩
        rw [od_eqv]
        refine iteF ?_
        have m1 := m1.same e9
        have h1 := e9 _ _ h1
        have p9' := pool_same p8' e9
        refine ⟨_, rfl, A1, rfl, .inl ⟨ts1, .inl (SqL.of h1), g1, fun Z6 s6' => ⟨rfl, _, rfl, uF rfl ?_⟩⟩⟩
        have m1 := m1.same s6'
        have h1 := s6' _ _ h1
        have p10' := pool_same p9' s6'
        -- of
        refine ⟨rfl, ["within", "asks", "within"], rfl, by decide, by decide +kernel, fun U5 Z7 s7' mU5 => ⟨sz1 (by simp), fun e he => ⟨U5, e, _, ["asks", "within"], rfl, mU5.same (Same.new he), upd_same, by decide +kernel, fun Z8 s8' => ⟨true, rfl, iteF ?_⟩⟩⟩⟩
        have e10 := (s7'.trans (Same.new he (o := .lst [V.str "asks", V.str "within"]))).trans s8'
        refine ⟨_, rfl, _, rfl, y, A1, ts1, ts1, rfl, m1.same e10, e10 _ _ h1, rfl, fun Z9 s9'' => ⟨true, rfl, iteF ?_⟩⟩
        exact ⟨_, _, _, _, _, _, _, _, _, _, _, rfl, pool_same (pool_same p10' e10) s9''⟩
    · rintro σ H' ⟨v2, v3, v4, v5, v6, v7, v8, v9, v10, v11, v12, rfl, p0⟩
      refine ⟨rfl, [], rfl, by decide, by simp, fun U HU sU mU => ⟨sz1 (by simp), fun e he => ⟨U, e, [], [], rfl, mU.same (Same.new he), upd_same, rfl, fun H1 s1 => ⟨true, rfl, iteT ⟨rfl, .inl ⟨["asks", "asks", "tags"], rfl, by decide +kernel, fun H2 s2 => ⟨rfl, ?_⟩⟩⟩⟩⟩⟩⟩
      rw [decide_eq_true rfl]
      exact k _
end
end K87
open PySem PySem.W PySem.Calls PyProof.Rows
theorem PySem.Challenge.cw_quietedition_k87_sets_of_manners_holds : PySem.Challenge.rw_quietedition_k87_sets_of_manners.Holds := by
  w_on; o_law
  refine HandSHeadRun.head_any (r := OpenLaw.row PySem.Challenge.rw_quietedition_k87_sets_of_manners) (q := view (OpenLaw.row PySem.Challenge.rw_quietedition_k87_sets_of_manners).prog [17]) (H := K87.hkz 5) (ob := K87.ob) (M := 3000) (loose := K87.loose) (d := HandSHeadRun.topDef (OpenLaw.row PySem.Challenge.rw_quietedition_k87_sets_of_manners).prog 17) (kwd := []) K87.ob_eq
    (by kernel_rfl) (fun s => by kernel_rfl) K87.run (by kernel_rfl) (by kernel_rfl) (by kernel_rfl) (by rfl) (by first | assumption | decide +kernel) (by decide +kernel) ⟨rfl, rfl, rfl, rfl, rfl, by decide +kernel⟩ ?hw ?hc
  case hw => w_witness2
  case hc =>
    refine L2.walk_ofE (l := PySem.Challenge.rw_quietedition_k87_sets_of_manners) (n := 63) (k := 12) (x := "_law_script") (CX := L2.CX0) rfl (by decide) (by kernel_rfl) ⟨rfl, by decide, by decide⟩ ?F (fun _ _ _ _ z => z)
    intro w mg fa h Y G g0
    obtain ⟨K, KX, c, cw, ck⟩ := Y
    have gl : mg ("law" : PySem.Str) = some (.ref fa) := by
      have nm : (HandSHeadRun.topDef (OpenLaw.row PySem.Challenge.rw_quietedition_k87_sets_of_manners).prog 17).name = ("law" : PySem.Str) := by kernel_rfl
      rw [← nm]
      exact g0
    have T : K87.Tx K mg (0 : Addr) [] := K87.tx_of KX G c ck cw
    obtain ⟨fd, F⟩ := K87.f_law T
    cases gl.symm.trans (K87.g_law T)
    have b := L2.FunD.bindsA (ps := ["_law_script"]) F fun _ _ _ _ _ _ us hl => match us, hl with | [_], _ => rfl
    exact ⟨K, fd, K87.spLaw K, KX, fun s v => b s [v] rfl, fun _ a ns _ _ q => ⟨a, ns, rfl, q, fun _ => rfl⟩, fun _ _ _ => K87.ok_law T ⟨by rfl, by decide +kernel⟩ F⟩
