import PyProof.Rows.All
import Wide.All
import OpenK.AllK
import Wide.FinOn
import KE.KStateDown
import HandS.ForMost
import HandS.FStr
import HandS.IsInst
import HandS.Wide
import HandS.SlotsOwn
import HandS.Defaults
import HandS.Head0
import HandS.Head1
import HandS.Head2
import HandS.HeadEnd
import HandS.HeadHook1
import HandS.HeadHook2
import KE.KOpsOwn
import HandS.OwnIter
import KE.KDictIter
import PyProof.TupleIter
import PyProof.WalksMore
import HandS.ExcInit
import HandS.ExcField
import HandS.ExcIs
import HandS.Nested
import KE.KExcSuper
import KE.KSuper
import HandS.FStrTup
import PyProof.ReprHeads
import HandS.ClsMeth
import HandS.Star
import HandS.Deep
import HandS.TupAny
import HandS.SetKeys
import HandS.SortKw
import KE.DataMinMax
import HandS.DictComp
import HandS.Conv
import KE.DatumOrd
import HandS.GenBody
import HandS.GenYield
import HandS.GenCall
import HandS.GenList
import PyProof.GenComp
import PySem.Challenge.RW_quietedition_k28_whole_all_patterns
set_option Elab.async false
set_option linter.all false
set_option maxRecDepth 100000
set_option maxHeartbeats 0
namespace Cm
open PySem PySem.Spec PyProof.Rows L2

/-! ### defs, methods, makers of the module, each as one fact -/
/-- the module's name x is a def that keeps sp at level k -/
def Cal (P : Program) (w : World) (K : PySem.W.Frag) (mg : Str → Option Value) (base : Heap) (k : Nat) (x : Str) (sp : Sp) : Prop :=
  ∃ f fd ps, FnOk P w K mg base CX0 k f fd ps sp ∧ Binds K fd ps [] ∧ mg x = some (.ref f) ∧ PySem.W.keepIn K (.ref f) = true
/-- the class at C has the method m, which keeps sp at level k -/
def MCal (P : Program) (w : World) (K : PySem.W.Frag) (mg : Str → Option Value) (base : Heap) (k : Nat) (C : Addr) (m : Str) (sp : Sp) : Prop :=
  Cls K C ∧ ∃ f fd ps, FnOk P w K mg base CX0 k f fd ps sp ∧ Binds K fd ps [] ∧ Meth K C m f
/-- the module's name x is the class at C, whose maker keeps sp; dv fills up -/
def KCal (P : Program) (w : World) (K : PySem.W.Frag) (mg : Str → Option Value) (base : Heap) (k : Nat) (x : Str) (C : Addr) (sp : Sp) (dv : List V) : Prop :=
  mg x = some (.ref C) ∧ ∃ f fd ps ds, Mk K C f ∧ FnOk P w K mg base CX0 k f fd ps sp ∧ Binds K fd ps ds ∧ Vals dv ds
section
variable {X : Cx} {j k : Nat} {x m : Str} {C : Addr} {sp : Sp} {dv : List V} {e o : Expr} {es : List Expr} {p pos apos : Pos} {t : TA} {ta : TE}
theorem pe_cal (c : Cal X.prog X.w X.K X.mg X.base k x sp) (hr : Room j X.A) (hk : k ≤ j) (ha : PA X (e :: es) t) (hg : Gl X x := by rfl) (hd : (x == ("__debug__" : Str)) = false := by decide)
    (h1 : starEach (e :: es) X.env = (false, eval e X.env) :: starEach es X.env := by rfl) (h2 : (backTo pos (starEach es X.env)).any (·.1) = false := by rfl) :
    PE X (.Call (.Name x p) (e :: es) [] pos) (tCall sp [] E0 t) := by
  obtain ⟨f, fd, ps, F, b, g, kp⟩ := c
  exact pe_call F (hr.mono hk) hg g kp b .nil pass0 ha hd h1 h2
theorem pe_kal (c : KCal X.prog X.w X.K X.mg X.base k x C sp dv) (hr : Room j X.A) (hk : k + 1 ≤ j) (ha : PA X (e :: es) t) (hg : Gl X x := by rfl) (hd : (x == ("__debug__" : Str)) = false := by decide)
    (h1 : starEach (e :: es) X.env = (false, eval e X.env) :: starEach es X.env := by rfl) (h2 : (backTo pos (starEach es X.env)).any (·.1) = false := by rfl) :
    PE X (.Call (.Name x p) (e :: es) [] pos) (tMake C sp dv E0 t) := by
  obtain ⟨g, f, fd, ps, ds, M, F, b, v⟩ := c
  exact pe_make M F (hr.mono hk) hg g b v pass0 ha hd h1 h2
theorem pe_mcal0 {pl : Sem Bool} (c : MCal X.prog X.w X.K X.mg X.base k C m sp) (hr : Room j X.A) (hk : k ≤ j) (ho : PE X o ta)
    (ht : eval (.Call (.Attribute o m apos) [] [] pos) X.env = (do
      let ov ← eval o X.env
      standAt apos.atName
      let (f, first) ← holding [ov] (getMethod ov m pl)
      callWith pos f first (backTo pos (starEach [] X.env)) (backToKw pos (keywordEach [] X.env))) := by rfl) : PE X (.Call (.Attribute o m apos) [] [] pos) (tMeth C m sp [] E0 ta tNil) := by
  obtain ⟨cl, f, fd, ps, F, b, M⟩ := c
  exact pe_meth0 ho cl M F (hr.mono hk) b .nil pass0 ht
/-- two readings of one expression -/
theorem PE.or2 {t1 t2 : TE} (h1 : PE X e t1) (h2 : PE X e t2) : PE X e (fun σ H Q => t1 σ H Q ∨ t2 σ H Q) :=
  ⟨fun pins s σ H Q I h => h.elim (h1.run pins s σ H Q I) (h2.run pins s σ H Q I)⟩
end
theorem MCal.mono {P : Program} {w : World} {K : PySem.W.Frag} {mg : Str → Option Value} {base : Heap} {j k : Nat} {C : Addr} {m : Str} {sp : Sp} (h : MCal P w K mg base j C m sp) (l : j ≤ k) : MCal P w K mg base k C m sp :=
  let ⟨c, f, fd, ps, F, r⟩ := h; ⟨c, f, fd, ps, F.mono l, r⟩
/-! ### methods and == of an instance whose class the reading tells -/
def tMG (P : Program) (w : World) (K : PySem.W.Frag) (mg : Str → Option Value) (base : Heap) (k : Nat) (m : Str) (ta : TE) : TE := fun σ H Q =>
  ta σ H fun x H1 => ∃ a C dx fs sp, x = .ref a ∧ H1 a = some (.ins C dx fs) ∧ fs.lookup m = none ∧ MCal P w K mg base k C m sp ∧ sp [.ref a] H1 Q E0
def rOwnG (P : Program) (w : World) (K : PySem.W.Frag) (mg : Str → Option Value) (base : Heap) (k : Nat) (m : Str) : R2 := fun x y H Q =>
  ∃ a C dx fs sp, x = .ref a ∧ H a = some (.ins C dx fs) ∧ MCal P w K mg base k C m sp ∧
    ((∃ b D dy gs, y = .ref b ∧ H b = some (.ins D dy gs) ∧ PySem.W.notFirst K C (.ref D) = true) ∨ (∃ z, y = .str z ∧ PySem.W.notFirst K C (.type "str") = true)) ∧ sp [x, y] H Q E0
section
variable {X : Cx} {j k : Nat} {m : Str} {o : Expr} {pos apos : Pos} {ta : TE}
theorem pe_mG {pl : Sem Bool} (hr : Room j X.A) (hk : k ≤ j) (he : PE X o ta)
    (ht : eval (.Call (.Attribute o m apos) [] [] pos) X.env = (do
      let ov ← eval o X.env
      standAt apos.atName
      let (f, first) ← holding [ov] (getMethod ov m pl)
      callWith pos f first (backTo pos (starEach [] X.env)) (backToKw pos (keywordEach [] X.env))) := by rfl) : PE X (.Call (.Attribute o m apos) [] [] pos) (tMG X.prog X.w X.K X.mg X.base k m ta) := by
  constructor
  intro pins s σ H Q I h
  refine PySem.W.methodCall_KW (pl := pl) (thn (he.run pins s σ H _ I h) ?_) ht
  rintro u s1 ⟨x, H1, I1, rx, a, C, dx, fs, sp, ex, ea, l, ⟨c, f, fd, ps, F, b, M⟩, q⟩
  subst ex
  cases (show u = Value.ref a from rx)
  refine getmeth_ok I1 ea c M l ?_
  exact PySem.W.callWith_K0 (first := [.ref a]) I1.kIn M.kp (run_fn (vs := [.ref a]) F (hr.mono hk) b .nil pass0 I1 (.cons rfl .nil) q)
theorem op_ownG (hr : Room j X.A) (hk : k ≤ j) : OpR X (compareOp .Eq) (rOwnG X.prog X.w X.K X.mg X.base k "__eq__") := by
  intro pins s σ H x y v u Q I rx ry h
  obtain ⟨a, C, dx, fs, sp, ex, ha, ⟨c, f, fd, ps, F, b, M⟩, hy, q⟩ := h
  subst ex
  cases (show v = Value.ref a from rx)
  obtain ⟨mA, O, _⟩ := ins_get I.hok ha
  obtain ⟨od, J, _⟩ := O.look
  obtain ⟨mm, hF⟩ := I.fr
  have go : ∀ tb, PySem.W.Looks (model X.prog X.w) s.heap (typeOf u) tb → PySem.W.notFirst X.K C tb = true → wpAny (model X.prog X.w) X.A (compareOp .Eq (.ref a) u) (EP X pins σ Q) X.xe s := by
    intro tb hb hn
    show wpAny _ X.A (richCompare .Eq (.ref a) u) _ _ s
    refine PySem.W.cmp_K (op := .Eq) hr.units0 hF I.ok.mod.kin J hb hn M.at_ M.fn ?_
    refine wpAny_mono (run_fn (us := [.ref a, u]) (vs := [.ref a, y]) F (hr.mono hk) b .nil pass0 I (.cons rfl (.cons ry .nil)) q) ?_ fun _ _ z => z
    rintro r s' ⟨z, H', I', rz, qz⟩
    exact SlX.cmpback rz ⟨z, H', I', rz, qz⟩
  rcases hy with ⟨b', D, dy, gs, ey, hb, hn⟩ | ⟨z, ey, hn⟩
  · subst ey
    cases (show u = Value.ref b' from ry)
    obtain ⟨mB, O', _⟩ := ins_get I.hok hb
    obtain ⟨od', J', _⟩ := O'.look
    exact go _ J'.type hn
  · subst ey
    obtain ⟨t, e⟩ := (show ∃ t, u = Value.str z t from ry)
    cases e
    exact go (.type "str") .now hn
end
/-! ### an instance of a class without a maker of its own -/
section
variable {X : Cx} {x : Str} {C : Addr} {p pos : Pos}
/-- C() where no __init__ stands but object's -/
def tMk0 (C : Addr) : TE := fun _ H Q => ∀ y dx, H y = none → H dx = none → dx ≠ y → Q (.ref y) (upd (upd H dx (.own y)) y (.ins C dx []))
theorem pe_mk0 (hm : PySem.W.makesIn X.K C = true) (hi : PySem.W.findIn X.K (.ref C) "__init__" = some (some (.builtin "object.__init__"))) (kp : PySem.W.keepIn X.K (.ref C) = true) (g : X.mg x = some (.ref C)) (hg : Gl X x := by rfl)
    (hd : (x == ("__debug__" : Str)) = false := by decide) : PE X (.Call (.Name x p) [] [] pos) (tMk0 C) := by
  constructor
  intro pins s σ H Q I h
  refine wpAny_Call_Name_kw (ld_glob I hg g ?_ hd)
  refine PySem.W.callWith_K0 I.kIn kp ?_
  have I2 := Inv.made (C := C) I
  have q := h (s.heap.objs.size + 1) s.heap.objs.size (I.hok.fresh (Nat.le_succ _)) (I.hok.fresh (Nat.le_refl _)) (Nat.ne_of_lt (Nat.lt_succ_self _))
  have Y := PySem.W.makes_of (M := model X.prog X.w) I.kIn hm
  refine wpAny_call (make_map0 I.kIn hm hi (fun self => PySem.W.Looks.of_pure (PySem.W.oi_bind self)) ?_)
  have e2 : ((s.heap.push PySem.W.emptyDict).push (PySem.W.instObj C s.heap.objs.size)).get? (s.heap.objs.size + 1) = some (PySem.W.instObj C s.heap.objs.size) := by
    have z := Heap.get?_push_size (s.heap.push PySem.W.emptyDict) (o := PySem.W.instObj C s.heap.objs.size) rfl
    rwa [Heap.size_push] at z
  have t1 : PySem.W.Looks (model X.prog X.w) ((s.heap.push PySem.W.emptyDict).push (PySem.W.instObj C s.heap.objs.size)) (typeOf (.ref (s.heap.objs.size + 1))) (.ref C) := (PySem.W.Looks.ld e2).andThen .now
  have t2 : PySem.W.Looks (model X.prog X.w) ((s.heap.push PySem.W.emptyDict).push (PySem.W.instObj C s.heap.objs.size)) (isInstance (.ref (s.heap.objs.size + 1)) (.type "object")) true :=
    t1.andThen (Y.top.keeps fun b o e => Heap.get?_push_of_some _ (Heap.get?_push_of_some _ e))
  refine codeAny_call_builtin PySem.W.oi_plain PySem.W.entry_oi (@PySem.W.check_slot (model X.prog X.w) _ _ _ "object.__init__" "object" "__init__" (.ref (s.heap.objs.size + 1)) [] [] _ PySem.W.oi_kind PySem.W.oi_split t2 (PySem.W.oi_args _) ?_)
  rw [PySem.W.oi_run]
  exact wpAny_pure (And.intro rfl ⟨V.ref _, _, I2, rfl, q⟩)
end
/-! ### a def of the text keeps its promise -/
section
variable {P : Program} {w : World} {K : PySem.W.Frag} {mg : Str → Option Value} {base : Heap} {x qual : Str} {a : Arguments} {b : List Stmt} {sc : Scope} {dv : List V} {f : Addr} {fd : FuncData} {N ps : List Str} {k : Nat} {sp : Sp}
theorem fnok (F : FunD K x qual a b sc dv [] f fd) (S : FnScope N ps sc) (len : ∀ vs H Q E, sp vs H Q E → vs.length = ps.length)
    (body : ∀ (cdv : Value) (A : Around) (outer : List Env) (s : Shared) (H : Hp) (vs : List V) (Q : VK) (E : XK), Room k (A.deeper (envOfC qual sc s.heap.objs.size f cdv)) → sp vs H Q E →
      ∃ t, PSs (cxOf CX0 P w K mg base N qual sc f cdv A outer s H E).nox b t ∧ t { nx := fun _ H' => Q .non H', rt := Q } (start N vs) H) : FnOk P w K mg base CX0 (k + 1) f fd ps sp :=
  F.ok S len fun cdv A outer s H vs Q E hr h => let ⟨t, d, q⟩ := body cdv A outer s H vs Q E hr h; ⟨t, d.nox, q⟩
end
/-! ### heaps: all but p is kept -/
def Kp (p : Addr) (H H' : Hp) : Prop := ∀ a o, a ≠ p → H a = some o → H' a = some o
theorem Kp.refl {p : Addr} {H : Hp} : Kp p H H := fun _ _ _ h => h
theorem Kp.trans {p : Addr} {H H1 H2 : Hp} (a : Kp p H H1) (b : Kp p H1 H2) : Kp p H H2 := fun c o n h => b c o n (a c o n h)
theorem Kp.at {p : Addr} {H H' : Hp} {o : HO} (a : Kp p H H') : Kp p H (upd H' p o) := fun c u n h => by rw [upd_ne n]; exact a c u n h
theorem Kp.new {p q : Addr} {H H' : Hp} {o : HO} (a : Kp p H H') (h : H' q = none) : Kp p H (upd H' q o) := fun c u n e => by
  rw [upd_ne (ne_of_none (a c u n e) h)]; exact a c u n e
theorem Kp.rd {p a : Addr} {H H' : Hp} {u : HO} (k : Kp p H H') (n : a ≠ p) (h : Rd H a u) : Rd H' a u := h.elim (fun h => .inl (k _ _ n h)) fun ⟨o, h⟩ => .inr ⟨o, k _ _ n h⟩
theorem Kp.sl {K : PySem.W.Frag} {p a : Addr} {H H' : Hp} {xs : List V} (k : Kp p H H') (n : a ≠ p) (h : SqL K H a xs) : SqL K H' a xs := h.elim (fun h => .inl (k.rd n h)) .inr
theorem Kp.st {K : PySem.W.Frag} {p a : Addr} {H H' : Hp} {xs : List V} (k : Kp p H H') (n : a ≠ p) (h : SqT K H a xs) : SqT K H' a xs := h.elim (fun h => .inl (k.rd n h)) .inr
theorem sz1 {n : Nat} (h : n ≤ 100000) : n ≤ sizeLine := Nat.le_trans h (by decide)
theorem sz2 {n : Nat} (h : n ≤ 100000) : n < sizeLine := Nat.lt_of_le_of_lt h (by decide)
theorem log_of {i : Int} (h : i.natAbs < 2 ^ 1000) : i.natAbs.log2 < 1920 := Nat.lt_of_lt_of_le (PySem.Flt.log2_lt_of (by decide) h) (by decide)
/-! ### texts -/
theorem app_len (a b : Str) : (a ++ b).length = a.length + b.length := by
  show (a.cps ++ b.cps).size = a.cps.size + b.cps.size
  exact Array.size_append
theorem emp_app (a : Str) : Str.empty ++ a = a := by
  show (⟨#[] ++ a.cps⟩ : Str) = a
  rw [Array.empty_append]
theorem app_assoc (a b c : Str) : a ++ b ++ c = a ++ (b ++ c) := by
  show (⟨a.cps ++ b.cps ++ c.cps⟩ : Str) = ⟨a.cps ++ (b.cps ++ c.cps)⟩
  rw [Array.append_assoc]
/-! ### tests -/
theorem tT {c A B : Prop} [Decidable c] (h : c) (a : A) : if decide c = true then A else B := by
  rw [decide_eq_true h]; exact iteT a
theorem tF {c A B : Prop} [Decidable c] (h : ¬ c) (b : B) : if decide c = true then A else B := by
  rw [decide_eq_false h]; exact iteF b
theorem uT {c A B : Prop} [Decidable c] (h : ¬ c) (a : A) : if (!decide c) = true then A else B := by
  rw [decide_eq_false h]; exact iteT a
theorem uF {c A B : Prop} [Decidable c] (h : c) (b : B) : if (!decide c) = true then A else B := by
  rw [decide_eq_true h]; exact iteF b
theorem bT {b : Bool} {A B : Prop} (h : b = true) (a : A) : if b = true then A else B := by rw [h]; exact iteT a
theorem bF {b : Bool} {A B : Prop} (h : b = false) (a : B) : if b = true then A else B := by rw [h]; exact iteF a
theorem dC {c A B : Prop} [Decidable c] (hT : c → A) (hF : ¬ c → B) : if decide c = true then A else B := by
  by_cases h : c
  · exact tT h (hT h)
  · exact tF h (hF h)
theorem uC {c A B : Prop} [Decidable c] (hT : ¬ c → A) (hF : c → B) : if (!decide c) = true then A else B := by
  by_cases h : c
  · exact uF h (hF h)
  · exact uT h (hT h)
theorem bC {b : Bool} {A B : Prop} (hT : b = true → A) (hF : b = false → B) : if b = true then A else B := by
  cases h : b
  · exact iteF (hF h)
  · exact iteT (hT h)
/-! ### attributes -/
theorem fl1 {f : Str} {v : V} {fs : List (Str × V)} : (putF f v fs).lookup f = some v := by rw [lookup_putF, if_pos rfl]
theorem fl2 {f g : Str} {v : V} {fs : List (Str × V)} {o : Option V} (h : ¬ g = f) (e : fs.lookup g = o) : (putF f v fs).lookup g = o := by rw [lookup_putF, if_neg h, e]
theorem fn0 : ([] : List (Str × V)).length < 1000 := by decide
theorem fnS {f : Str} {v : V} {fs : List (Str × V)} (h : fs.length < 900) : (putF f v fs).length < 1000 := by
  have := length_putF f v fs; omega
theorem fs0 : ([] : List (Str × V)).length < 900 := by decide
theorem fs1 {f : Str} {v : V} {fs : List (Str × V)} (h : fs.length < 800) : (putF f v fs).length < 900 := by
  have := length_putF f v fs; omega
end Cm
namespace Cm
open PySem PySem.Spec PyProof.Rows L2
/-! ### operators, in, len of an instance by its own defs -/
section
open PySem.W
variable {prog : Program} {w : World} {A : Around} {E : Value → Shared → Prop} {s : Shared} {K : PySem.W.Frag} {x y C f : Addr} {ox oy : Obj} {od od' : Option Obj}
theorem bin_same {op : Operator} {Q : Value → Shared → Prop} (X : K.In s.heap) (I : InstAt s.heap x ox C od) (J : InstAt s.heap y oy C od') (hc : selfFirst K C = true)
    (hs : findIn K (.ref C) (PySem.dunder op.info.2) = some (some (.ref f))) (hf : isFn K (.ref f) = true) (h : wpAny (model prog w) A (call (.ref f) [.ref x, .ref y]) (PySem.W.CmpBack Q) E s) :
    wpAny (model prog w) A (binaryOp op (.ref x) (.ref y)) Q E s := by
  obtain ⟨cd, rest, hcd, hm⟩ := ksp_first hc
  rcases hi : op.info with ⟨sym, nm'⟩
  rw [hi] at hs
  dsimp only at hs
  have one := ksp_try X I hs hf h
  obtain ⟨hh, g, d, tt, os⟩ := s
  have L1 : Looks (model prog w) hh (typeOf (.ref x)) (.ref C) := I.type
  have L2 : Looks (model prog w) hh (typeOf (.ref y)) (.ref C) := J.type
  have L3 : Looks (model prog w) hh (fillsNumberSlot (.ref C) nm') true := fills_K X hcd hm hs
  have e1 : (Value.ref C == Value.ref C) = true := beq_self_eq_true _
  simp only [binaryOp, hi]
  refine wpAny_holding (wpAny_bind ?_)
  unfold binaryOp1
  refine wpAny_bind (L1.at (wpAny_bind (L2.at (wpAny_bind (L3.at ?_)))))
  simp only [e1, if_true]
  ksp_lk
  refine wpAny_mono one (fun r s' hr' => ?_) fun _ _ e => e
  obtain ⟨v, rfl, hq⟩ := hr'
  ksp_lk
  exact hq
theorem own_in {v : Value} {Q : Bool → Shared → Prop} (X : K.In s.heap) (I : InstAt s.heap x ox C od) (hs : findIn K (.ref C) "__contains__" = some (some (.ref f))) (hf : isFn K (.ref f) = true)
    (h : wpAny (model prog w) A (call (.ref f) [.ref x, v]) (fun r s' => ∃ b, r = .bool b ∧ Q b s') E s) : wpAny (model prog w) A (contains (.ref x) v) Q E s := by
  have hf2 := beq_iff_eq.mp hf
  unfold contains
  refine wpAny_holding ?_
  show wpAny _ _ (specialOf (.ref x) "__contains__" >>= _) _ _ _
  refine wpAny_bind ?_
  refine wpAny_bind (I.type.here ((looks_findIn X hs).here ?_))
  refine KFB.if_not rfl ?_
  refine wpAny_bind ?_
  unfold callSpecialUnlessNone?
  refine wpAny_bind ?_
  refine wpAny_bind (I.type.here ((looks_findIn X hs).here ?_))
  refine wpAny_holding (wpAny_bind ((bind_fn X _ hf2).here ?_))
  refine KFB.if_not rfl ?_
  refine wpAny_bind (wpAny_mono h (fun r s' z => ?_) fun _ _ e => e)
  obtain ⟨b, rfl, q⟩ := z
  exact wpAny_pure (wpAny_pure q)
end
/-! ### the same over the layer -/
section
variable {X : Cx} {j k : Nat} {m : Str}
def rOwnBin (P : Program) (w : World) (K : PySem.W.Frag) (mg : Str → Option Value) (base : Heap) (k : Nat) (m : Str) : R2 := fun x y H Q =>
  ∃ a b C dx dy fs gs sp, x = .ref a ∧ y = .ref b ∧ H a = some (.ins C dx fs) ∧ H b = some (.ins C dy gs) ∧ PySem.W.selfFirst K C = true ∧ MCal P w K mg base k C m sp ∧ sp [x, y] H Q E0
theorem op_ownBin {op : Operator} (hm : m = PySem.dunder op.info.2) (hr : Room j X.A) (hk : k ≤ j) : OpR X (binaryOp op) (rOwnBin X.prog X.w X.K X.mg X.base k m) := by
  intro pins s σ H x y v u Q I rx ry h
  obtain ⟨a, b', C, dx, dy, fs, gs, sp, ex, ey, ha, hb, hc, ⟨c, f, fd, ps, F, b, M⟩, q⟩ := h
  subst ex ey hm
  cases (show v = Value.ref a from rx)
  cases (show u = Value.ref b' from ry)
  obtain ⟨mA, O, _⟩ := ins_get I.hok ha
  obtain ⟨od, J, _⟩ := O.look
  obtain ⟨mB, O', _⟩ := ins_get I.hok hb
  obtain ⟨od', J', _⟩ := O'.look
  refine bin_same I.kIn J J' hc M.at_ M.fn ?_
  refine wpAny_mono (run_fn (us := [.ref a, .ref b']) (vs := [.ref a, .ref b']) F (hr.mono hk) b .nil pass0 I (.cons rfl (.cons rfl .nil)) q) ?_ fun _ _ z => z
  rintro r s' ⟨z, H', I', rz, qz⟩
  exact SlX.cmpback rz ⟨z, H', I', rz, qz⟩
def rOwnIn (P : Program) (w : World) (K : PySem.W.Frag) (mg : Str → Option Value) (base : Heap) (k : Nat) (neg : Bool) : R2 := fun x y H Q =>
  ∃ a C dx fs sp, y = .ref a ∧ H a = some (.ins C dx fs) ∧ MCal P w K mg base k C "__contains__" sp ∧ sp [y, x] H (fun z H' => ∃ b, z = .bl b ∧ Q (.bl (if neg then !b else b)) H') E0
theorem op_ownIn (hr : Room j X.A) (hk : k ≤ j) : OpR X (compareOp .In) (rOwnIn X.prog X.w X.K X.mg X.base k false) := by
  intro pins s σ H x y v u Q I rx ry h
  obtain ⟨a, C, dx, fs, sp, ey, ha, ⟨c, f, fd, ps, F, b, M⟩, q⟩ := h
  subst ey
  cases (show u = Value.ref a from ry)
  obtain ⟨mA, O, _⟩ := ins_get I.hok ha
  obtain ⟨od, J, _⟩ := O.look
  refine wpAny_bind (own_in I.kIn J M.at_ M.fn ?_)
  refine wpAny_mono (run_fn (us := [.ref a, v]) (vs := [.ref a, x]) F (hr.mono hk) b .nil pass0 I (.cons rfl (.cons rx .nil)) q) ?_ fun _ _ z => z
  rintro r s' ⟨z, H', I', rz, b, ez, qz⟩
  subst ez
  cases (show r = Value.bool b from rz)
  exact ⟨b, rfl, wpAny_pure ⟨.bl b, H', I', rfl, qz⟩⟩
theorem op_ownNotIn (hr : Room j X.A) (hk : k ≤ j) : OpR X (compareOp .NotIn) (rOwnIn X.prog X.w X.K X.mg X.base k true) := by
  intro pins s σ H x y v u Q I rx ry h
  obtain ⟨a, C, dx, fs, sp, ey, ha, ⟨c, f, fd, ps, F, b, M⟩, q⟩ := h
  subst ey
  cases (show u = Value.ref a from ry)
  obtain ⟨mA, O, _⟩ := ins_get I.hok ha
  obtain ⟨od, J, _⟩ := O.look
  refine wpAny_bind (own_in I.kIn J M.at_ M.fn ?_)
  refine wpAny_mono (run_fn (us := [.ref a, v]) (vs := [.ref a, x]) F (hr.mono hk) b .nil pass0 I (.cons rfl (.cons rx .nil)) q) ?_ fun _ _ z => z
  rintro r s' ⟨z, H', I', rz, b, ez, qz⟩
  subst ez
  cases (show r = Value.bool b from rz)
  exact ⟨b, rfl, wpAny_pure ⟨.bl (!b), H', I', rfl, qz⟩⟩
end
/-! ### len(x) by an own __len__ -/
section
variable {X : Cx} {j k : Nat}
theorem run_in {A' : Around} {pins : List (Addr × Obj)} {σ : L2.St} {H : Hp} {s : Shared} {Q : VK} {f : Addr} {fd : FuncData} {ps : List Str} {sp : Sp} {us : List Value} {vs : List V} (F : FnOk X.prog X.w X.K X.mg X.base CX0 k f fd ps sp) (hr : Room k A')
    (e0 : Env0 X.prog X.w X.K X.mg X.base A' X.stack s H) (hb : Binds X.K fd ps []) (I : Inv X pins σ H s) (r : Vals vs us) (h : sp vs H Q E0) : wpAny (model X.prog X.w) A' (call (.ref f) us) (EP X pins σ Q) X.xe s := by
  have hl : (us ++ []).length = ps.length := by rw [List.append_nil, ← r.length]; exact F.len _ _ _ _ h
  have b2 := hb s us I.kIn hl
  rw [List.append_nil] at b2
  refine wpAny_call (codeAny_mono (F.run A' X.stack s H ⟨us, []⟩ us vs Q E0 hr e0 b2 r h) fun r s2 z => ?_)
  match r, z with
  | .error e, z => exact (pass0 (X := X)) pins σ H s e s2 I z
  | .ok (.ret u), z => exact I.after z
  | .ok .next, z => exact (show False from z).elim
  | .ok .brk, z => exact (show False from z).elim
  | .ok .cont, z => exact (show False from z).elim
theorem call_ownLen (hr : Room j X.A) (hk : k + 1 ≤ j) : CallR X (.builtin "len") (fun xs H Q => ∃ a C dx fs sp, xs = [.ref a] ∧ H a = some (.ins C dx fs) ∧ MCal X.prog X.w X.K X.mg X.base k C "__len__" sp ∧ sp [.ref a] H (fun z H' => ∃ i : Int, z = .int i ∧ 0 ≤ i ∧ i < 2 ^ 63 ∧ Q (.int i) H') E0) := by
  intro pins s σ H xs us Q I r h
  obtain ⟨a, C, dx, fs, sp, rfl, ha, ⟨c, f, fd, ps, F, b, M⟩, q⟩ := h
  obtain ⟨u, rfl, e⟩ := vals1 r
  cases (show u = Value.ref a from e)
  obtain ⟨mA, O, _⟩ := ins_get I.hok ha
  obtain ⟨od, J, _⟩ := O.look
  refine PySem.Calls.call_function_entry PySem.kind_len PySem.plain_len PySem.entry_len (PySem.args_len1 _) ?_
  unfold Builtin.«len»
  refine wpAny_bind (m := oneArg "len" _) (wpAny_pure ?_)
  refine wpAny_bind (PySem.W.special_fn I.kIn J M.at_ (beq_iff_eq.mp M.fn) ?_)
  refine wpAny_mono (run_in (us := [.ref a]) (vs := [.ref a]) F (hr.mono hk).in1 I.env0.in1 b I (.cons rfl .nil) q) ?_ fun _ _ z => z
  rintro r s2 ⟨z, H', I', rz, i, ez, i0, i1, qz⟩
  subst ez
  obtain ⟨t, rfl⟩ := (show ∃ t, r = Value.int i t from rz)
  refine wpAny_bind (wpAny_holding (wpAny_pure ?_))
  refine wpAny_bind (wpAny_letGo ?_)
  show wpAny _ _ (if i < 0 then _ else _) _ _ _
  rw [if_neg (by omega)]
  show wpAny _ _ (if i ≥ 2 ^ 63 then _ else _) _ _ _
  rw [if_neg (by omega)]
  exact wpAny_bind (wpAny_mkInt (wpAny_pure ⟨_, rfl, ⟨.int i, H', I'.tok _, ⟨_, rfl⟩, qz⟩⟩))
end
/-! ### str(x) by an own __str__ -/
section
open PySem.W PySem.Calls
variable {prog : Program} {w : World} {A : Around} {E : Value → Shared → Prop} {s : Shared} {K : PySem.W.Frag} {x C f : Addr} {ox : Obj} {od : Option Obj}
theorem strOf_own {A : Around} {Q : Value → Shared → Prop} (hu : A.units < cLine) (X : K.In s.heap) (I : InstAt s.heap x ox C od) (hs : findIn K (.ref C) "__str__" = some (some (.ref f))) (hf : isFn K (.ref f) = true)
    (h : wpAny (model prog w) A (call (.ref f) [.ref x]) (fun r s' => ∃ y u, r = .str y u ∧ Q r s') E s) : wpAny (model prog w) A (PySem.Builtin.Str.strOf (.ref x)) (fun r s' => ∃ y u, r = .str y u ∧ Q r s') E s := by
  unfold PySem.Builtin.Str.strOf
  rw [show PySem.Builtin.Str.isExactStr (.ref x) = false from rfl]
  refine wpAny_bind (m := cRoomFor _ _) (wpAny_cRoomFor hu ?_)
  refine wpAny_bind (special_fn X I hs (beq_iff_eq.mp hf) (wpAny_mono h (fun r s2 z => ?_) fun _ _ y => y))
  obtain ⟨y, u, rfl, q⟩ := z
  exact wpAny_pure ⟨y, u, rfl, q⟩
theorem str_own {Q : Value → Shared → Prop} (hu : A.in1.in1.units < cLine) (X : K.In s.heap) (I : InstAt s.heap x ox C od) (hs : findIn K (.ref C) "__str__" = some (some (.ref f))) (hf : isFn K (.ref f) = true)
    (h : wpAny (model prog w) A.in1.in1 (call (.ref f) [.ref x]) (fun r s' => ∃ y u, r = .str y u ∧ Q r s') E s) : wpAny (model prog w) A (call (.type "str") [.ref x]) Q E s := by
  have one := strOf_own (A := A.in1.in1) hu X I hs hf h
  refine callType_codes (T := "str") (Bi := PySem.Builtin.«object.__init__») (Q₁ := fun r t => ∃ y u, r = .str y u ∧ Q r t) PySem.F.called_str (PySem.F.typeCall_str_1 _) PySem.F.entry_object_init (codeAny_of_tree ?_) ?_
  · show wpAny _ A.in1.in1 (do checkBuiltinCall "str.__new__" ⟨[.type "str", .ref x], []⟩; again (.builtin "str.__new__" ⟨[.type "str", .ref x], []⟩)) _ _ s
    refine wpAny_bind (wpAny_of_eq (PySem.F.newCall_str_1 _) (wpAny_pure ⟨PySem.plainId_quiet (by decide +kernel) _, codeAny_builtin PySem.F.entry_str_new ?_⟩))
    rw [Around.under_plainId (by decide +kernel) _, PySem.str_new_tree]
    refine wpAny_bind (wpAny_pure (wpAny_bind (wpAny_of_eq PySem.isSubtype_str_str ?_)))
    exact wpAny_bind (wpAny_mono one (fun r t z => wpAny_pure z) fun _ _ y => y)
  · rintro obj t ⟨y, u, rfl, q⟩
    exact ⟨typeIs_str _ _ _, PySem.F.args_object_init_2 _ _, PySem.object_init_meets PySem.F.called_str.init.lookup PySem.F.called_str.made (by decide) prog w A.in1 _ t ⟨typeIs_str _ _ _, rfl, q⟩⟩
end
section
variable {X : Cx} {j k : Nat}
theorem call_ownStr (hr : Room j X.A) (hk : k + 2 ≤ j) : CallR X (.type "str") (fun xs H Q => ∃ a C dx fs sp, xs = [.ref a] ∧ H a = some (.ins C dx fs) ∧ MCal X.prog X.w X.K X.mg X.base k C "__str__" sp ∧ sp [.ref a] H (fun z H' => ∃ y, z = .str y ∧ Q (.str y) H') E0) := by
  intro pins s σ H xs us Q I r h
  obtain ⟨a, C, dx, fs, sp, rfl, ha, ⟨c, f, fd, ps, F, b, M⟩, q⟩ := h
  obtain ⟨u, rfl, e⟩ := vals1 r
  cases (show u = Value.ref a from e)
  obtain ⟨mA, O, _⟩ := ins_get I.hok ha
  obtain ⟨od, J, _⟩ := O.look
  have r2 : Room k X.A.in1.in1 := (show Room (k + 1) X.A.in1 from Room.in1 (hr.mono hk)).in1
  refine str_own (by have := r2.units; omega) I.kIn J M.at_ M.fn ?_
  refine wpAny_mono (run_in (us := [.ref a]) (vs := [.ref a]) F r2 I.env0.in1.in1 b I (.cons rfl .nil) q) ?_ fun _ _ z => z
  rintro r s2 ⟨z, H', I', rz, y, ez, qz⟩
  subst ez
  obtain ⟨t, rfl⟩ := (show ∃ t, r = Value.str y t from rz)
  exact ⟨y, t, rfl, .str y, H', I', ⟨t, rfl⟩, qz⟩
end
end Cm
namespace Cm
open PySem PySem.Spec PyProof.Rows
open L2 hiding Same
/-! ### iter(t) as a value; list(x) of an own __iter__ that answers it -/
def ItT (t it : Addr) (i : Nat) : HO := .ext fun h => h.IsTupleIter it t i
def ItD (it : Addr) : HO := .ext fun h => ∃ o, h.get? it = some o
section
variable {P : Program} {w : World} {H : Hp} {h : Heap} {t it : Addr} {i : Nat}
theorem itT_ok (e : h.IsTupleIter it t i) : ObjOk P w H h it (ItT t it i) :=
  ⟨e, let ⟨o, ho, _⟩ := e; ⟨o, ho⟩, fun h1 h2 q k => Heap.IsTupleIter.at q fun o e => k o e⟩
theorem itD_ok (e : ∃ o, h.get? it = some o) : ObjOk P w H h it (ItD it) := ⟨e, e, fun h1 h2 ⟨o, q⟩ k => ⟨o, k o q⟩⟩
end
section
variable {X : Cx} {pins : List (Addr × Obj)} {σ : L2.St} {H : Hp} {s : Shared} {t it q a : Addr} {i : Nat} {zs : List V}
theorem itT_get (I : Inv X pins σ H s) (e : H it = some (ItT t it i)) : s.heap.IsTupleIter it t i := (I.hok it _ e).1
def rIterT (K : PySem.W.Frag) : List V → Hp → VK → Prop := fun xs H Q => ∃ t zs, xs = [V.ref t] ∧ SqT K H t zs ∧ ∀ it, H it = none → Q (.ref it) (upd H it (ItT t it 0))
theorem call_iterT : CallR X (.builtin "iter") (rIterT X.K) := by
  intro pins s σ H xs us Q I r h
  obtain ⟨t, zs, rfl, hq, q⟩ := h
  obtain ⟨u, rfl, ru⟩ := vals1 r
  cases (show u = Value.ref t from ru)
  obtain ⟨its, rv, pl, hz⟩ := I.tuple hq
  refine Calls.call_function_entry (by decide +kernel) (by decide +kernel) PySem.W.kdk_entry_iter (PySem.W.kdk_args_iter _) ?_
  unfold Builtin.«iter»
  refine wpAny_bind (m := someArgs "iter" 1 2 _) (wpAny_of_eq (a := [Value.ref t]) (by first | rfl | kernel_rfl!) ?_)
  show wpAny _ _ (pyIter (.ref t) >>= _) _ _ _
  refine wpAny_bind (wpAny_pyIter_tuple pl ?_)
  exact wpAny_pure ⟨_, rfl, ⟨.ref s.heap.objs.size, _, I.laid (t' := s.toks) (fun b u e => Heap.get?_push_of_some _ e) (Nat.le_refl _) (itT_ok ⟨_, Heap.get?_push_size _ rfl, rfl, rfl⟩), rfl, q _ (I.hok.fresh (Nat.le_refl _))⟩⟩
theorem next_end {prog : Program} {w : World} {A : Around} {E : Value → Shared → Prop} {items} {Q : Option Value → Shared → Prop} (hh : A.handled = none)
    (hit : s.heap.IsTupleIter it t i) (ht : s.heap.IsTuple t items) (hx : items[i]? = none)
    (hQ : ∀ h', Heap.ExtBut it s.heap h' → (∃ o, h'.get? it = some o) → Q none { s with heap := h' }) : wpAny (model prog w) A (pyNext (.ref it)) Q E s := by
  obtain ⟨o, ho, hc, hd⟩ := id hit
  obtain ⟨ol, hol, _, nl, hdl⟩ := ht
  unfold pyNext
  refine wpAny_bind (wpAny_attempt (wpAny_callSpecial?_slot (name := Str.ofString "__next__") hit.typeIs F.slot_tuple_iterator_next
    (wpAny_call_entry F.slot_tuple_iterator_next hit.typeIs F.entry_tuple_iterator_next ?_ (F.args_tuple_iterator_next_1 _))))
  show wpAny _ _ (field (.ref it) 0 >>= _) _ _ s
  refine wpAny_bind (wpAny_field ho hd (x := .ref t) rfl ?_)
  show wpAny _ _ (if (Value.ref t == Value.none) = true then _ else _) _ _ s
  rw [if_neg (show ¬ ((Value.ref t == Value.none) = true) from Bool.false_ne_true)]
  show wpAny _ _ (field (.ref it) 1 >>= _) _ _ s
  refine wpAny_bind (wpAny_field ho hd (x := .int i 0) rfl ?_)
  show wpAny _ _ (seqItems? (.ref t) >>= _) _ _ s
  refine wpAny_bind (wpAny_seqItems hol hdl ?_)
  simp only [Int.toNat_natCast, hx]
  refine wpAny_bind (wpAny_rule (wpAny_bind (wpAny_setField ho hd (by simp) ?_)))
  show wpAny _ _ (newExc (.type "StopIteration") [] >>= _) _ _ _
  refine wpAny_bind ?_
  simp only [newExc, newTuple]
  refine wpAny_bind (wpAny_newObj_type ?_ (by size_fits))
  refine wpAny_bind (m := firstArgMember _ _) (wpAny_of_eq (a := Value.none) (by first | rfl | (simp only [firstArgMember]; rfl)) ?_)
  refine wpAny_newObj_type ?_ (by size_fits)
  simp only [raiseNew]
  refine wpAny_bind (wpAny_handled ?_)
  first | rw [show A.in1.handled = none from hh] | rw [hh]
  refine wpAny_bind (wpAny_pure (wpAny_throw ?_))
  refine wpAny_bind (wpAny_isInstance (T := "StopIteration") (b := true) ⟨_, Heap.get?_push_size _ rfl, rfl⟩ isSubtype_stop ?_)
  exact wpAny_pure (hQ _ (((Heap.SameBut.update ..).extBut.push _).push _) ⟨_, Heap.get?_push_of_some _ (Heap.get?_push_of_some _ (Heap.get?_update_self _ ho (Obj.isFreed_of_fields (Obj.data_mapFields hd _))))⟩)
theorem upd_two {H : Hp} {it q : Addr} {a b c d : HO} (n : it ≠ q) : upd (upd (upd (upd H it a) q b) q c) it d = upd (upd H q c) it d := by
  funext x
  by_cases h1 : x = it
  · rw [h1, upd_same, upd_same]
  · by_cases h2 : x = q
    · rw [h2, upd_ne (Ne.symm n), upd_same, upd_ne (Ne.symm n), upd_same]
    · rw [upd_ne h1, upd_ne h2, upd_ne h2, upd_ne h1, upd_ne h1, upd_ne h2]
theorem tup_ne (I : Inv X pins σ H s) (h : SqT X.K H t zs) (e : H it = some (ItT t it i)) : t ≠ it := by
  obtain ⟨its, rv, ⟨o, ho, hc, _⟩, _⟩ := I.tuple h
  obtain ⟨o2, ho2, hc2, _⟩ := itT_get I e
  intro z
  rw [z, ho2] at ho
  cases ho
  rw [hc2] at hc
  exact absurd (Value.type.inj hc) (by decide)
theorem tup_neL {xs : List V} (I : Inv X pins σ H s) (h : SqT X.K H t zs) (e : H q = some (.lst xs)) : t ≠ q := by
  obtain ⟨its, rv, ⟨o, ho, hc, _⟩, _⟩ := I.tuple h
  obtain ⟨_, its2, n, _, _, ho2⟩ := I.lstM e
  intro z
  rw [z, ho2] at ho
  cases ho
  exact absurd (Value.type.inj hc) (by decide)
theorem tupit_loop {A1 : Around} {Rs : Result → Shared → Prop} (hh : A1.in1.handled = none) : ∀ (k i : Nat) (H : Hp) (s : Shared), zs.length - i = k → i ≤ zs.length → Inv X pins σ H s → H q = some (.lst (zs.take i)) → H it = some (ItT t it i) → SqT X.K H t zs → it ≠ q →
    (∀ s', Inv X pins σ (upd (upd H q (.lst zs)) it (ItD it)) s' → Rs (.ok (.ret .none)) s') → codeAny (model X.prog X.w) A1 (.builtin "list.extend.loop" ⟨[.ref q, .ref it, .none], []⟩) Rs s := by
  intro k
  induction k with
  | zero =>
    intro i H s hk hi I hq hit ht hne hd
    have ei : i = zs.length := by omega
    subst ei
    refine codeAny_builtin PySem.F.entry_extend_loop ?_
    rw [Around.under_plainId PySem.F.plain_extend_loop _]
    show wpAny _ A1.in1 (pyNext (.ref it) >>= _) _ _ s
    obtain ⟨its, rv, pl, hz⟩ := I.tuple ht
    refine wpAny_bind (next_end hh (itT_get I hit) pl (by rw [List.getElem?_toArray]; exact rv.none_of (List.getElem?_eq_none (Nat.le_refl _))) fun h' eb ho => ?_)
    have J := I.write (t' := s.toks) (x := it) (e := it) (o := ItD it) (h' := h') (by rw [hit]; exact True.intro) (.inl rfl) (fun b o hb e => eb b o hb e) ho (itD_ok ho)
    refine wpAny_pure (hd _ ?_)
    have e1 : upd H q (.lst zs) = H := by
      funext x
      by_cases hx : x = q
      · rw [hx, upd_same, hq, List.take_length]
      · rw [upd_ne hx]
    rw [e1]
    exact J
  | succ k ih =>
    intro i H s hk hi I hq hit ht hne hd
    have hi2 : i < zs.length := by omega
    refine codeAny_builtin PySem.F.entry_extend_loop ?_
    rw [Around.under_plainId PySem.F.plain_extend_loop _]
    show wpAny _ A1.in1 (pyNext (.ref it) >>= _) _ _ s
    obtain ⟨its, rv, pl, hz⟩ := I.tuple ht
    have tne := tup_ne I ht hit
    have tnq := tup_neL I ht hq
    obtain ⟨u, hu, ru⟩ := rv.get (List.getElem?_eq_getElem hi2)
    refine wpAny_bind (wpAny_pyNext_tuple_item (itT_get I hit) pl (x := u) (by rw [List.getElem?_toArray]; exact hu) fun h' st' sb => ?_)
    have J := I.write (t' := s.toks) (x := it) (e := it) (o := ItT t it (i + 1)) (h' := h') (by rw [hit]; exact True.intro) (.inl rfl) (fun b o hb e => (sb.2 b hb).trans e) (let ⟨o, ho, _⟩ := st'; ⟨o, ho⟩) (itT_ok st')
    have hq2 : upd H it (ItT t it (i + 1)) q = some (.lst (zs.take i)) := by rw [upd_ne (Ne.symm hne)]; exact hq
    show wpAny _ A1.in1 (updateSeq q (·.push u) >>= _) _ _ _
    obtain ⟨z, its2, n, r2, hl, e⟩ := J.lstM hq2
    have hzl : zs.length ≤ sizeLine := by
      have := rv.length
      omega
    refine wpAny_bind (wpAny_updateSeq e rfl (wpAny_pure ⟨plainId_quiet PySem.F.plain_extend_loop _, ?_⟩) (by rw [List.size_toArray]; omega) (by show (its2.toArray.push u).size ≤ sizeLine + 1; rw [Array.size_push, List.size_toArray]; omega))
    have hlt : (zs.take i ++ [zs[i]]).length ≤ sizeLine := by
      rw [List.length_append, List.length_take, List.length_singleton]; omega
    have J2 := J.lset (f := (·.push u)) (its' := its2 ++ [u]) (t' := s.toks) (ys := zs.take i ++ [zs[i]]) hq2 e (by simp) (r2.append (.cons ru .nil)) hlt
    have et : zs.take i ++ [zs[i]] = zs.take (i + 1) := by rw [List.take_succ, List.getElem?_eq_getElem hi2]; rfl
    rw [et] at J2
    have st2 : SqT X.K (upd (upd H it (ItT t it (i + 1))) q (.lst (zs.take (i + 1)))) t zs := by
      have k1 : Kp it H (upd H it (ItT t it (i + 1))) := Kp.refl.at
      have k2 : Kp q (upd H it (ItT t it (i + 1))) (upd (upd H it (ItT t it (i + 1))) q (.lst (zs.take (i + 1)))) := Kp.refl.at
      exact k2.st tnq (k1.st tne ht)
    refine ih (i + 1) _ _ (by omega) (by omega) J2 upd_same (by rw [upd_ne hne, upd_same]) st2 hne fun s' I' => hd s' ?_
    rw [upd_two hne] at I'
    exact I'
end
section
variable {X : Cx} {pins : List (Addr × Obj)} {σ : L2.St} {H : Hp} {s : Shared} {a C dx : Addr} {k : Nat} {fs : List (Str × V)}
theorem run_inE {A' : Around} {Q : VK} {E : Value → Shared → Prop} {f : Addr} {fd : FuncData} {ps : List Str} {sp : Sp} {us : List Value} {vs : List V} (F : FnOk X.prog X.w X.K X.mg X.base CX0 k f fd ps sp) (hr : Room k A')
    (e0 : Env0 X.prog X.w X.K X.mg X.base A' X.stack s H) (hb : Binds X.K fd ps []) (I : Inv X pins σ H s) (r : Vals vs us) (h : sp vs H Q E0) : wpAny (model X.prog X.w) A' (call (.ref f) us) (EP X pins σ Q) E s := by
  have hl : (us ++ []).length = ps.length := by rw [List.append_nil, ← r.length]; exact F.len _ _ _ _ h
  have b2 := hb s us I.kIn hl
  rw [List.append_nil] at b2
  refine wpAny_call (codeAny_mono (F.run A' X.stack s H ⟨us, []⟩ us vs Q E0 hr e0 b2 r h) fun r s2 z => ?_)
  match r, z with
  | .error e, z => exact (show False from z).elim
  | .ok (.ret u), z => exact I.after z
  | .ok .next, z => exact (show False from z).elim
  | .ok .brk, z => exact (show False from z).elim
  | .ok .cont, z => exact (show False from z).elim
/-- len(x) by an own __len__, under another around -/
theorem len_in {A' : Around} {sp : Sp} {E : Value → Shared → Prop} (hr : Room k A'.in1) (fr : A'.frames = X.A.frames) (I : Inv X pins σ H s) (ha : H a = some (.ins C dx fs)) (M : MCal X.prog X.w X.K X.mg X.base k C "__len__" sp)
    (q : sp [.ref a] H (fun z H2 => H2 = H ∧ ∃ n : Nat, z = .int n ∧ n ≤ 1000) E0) {Q : Value → Shared → Prop} (h : ∀ (n : Nat) t s', n ≤ 1000 → Inv X pins σ H s' → Q (.int n t) s') :
    wpAny (model X.prog X.w) A' (call (.builtin "len") [.ref a]) Q E s := by
  obtain ⟨c, f, fd, ps, F, b, M⟩ := M
  obtain ⟨mA, O, _⟩ := ins_get I.hok ha
  obtain ⟨od, J, _⟩ := O.look
  have e0 : Env0 X.prog X.w X.K X.mg X.base A'.in1 X.stack s H := by
    have e := I.env0
    exact ⟨fr.trans e.frames, e.mod, e.bs, e.bsz, e.funs, e.frf, e.hok, e.bare⟩
  refine PySem.Calls.call_function_entry PySem.kind_len PySem.plain_len PySem.entry_len (PySem.args_len1 _) ?_
  unfold Builtin.«len»
  refine wpAny_bind (m := oneArg "len" _) (wpAny_pure ?_)
  refine wpAny_bind (PySem.W.special_fn I.kIn J M.at_ (beq_iff_eq.mp M.fn) ?_)
  refine wpAny_mono (run_inE (us := [.ref a]) (vs := [.ref a]) F hr e0 b I (.cons rfl .nil) q) ?_ fun _ _ z => z
  rintro r s2 ⟨z, H', I', rz, eH, n, ez, hn⟩
  subst ez eH
  obtain ⟨t, rfl⟩ := (show ∃ t, r = Value.int (n : Nat) t from rz)
  refine wpAny_bind (wpAny_holding (wpAny_pure ?_))
  refine wpAny_bind (wpAny_letGo ?_)
  show wpAny _ _ (if ((n : Nat) : Int) < 0 then _ else _) _ _ _
  rw [if_neg (by omega)]
  show wpAny _ _ (if ((n : Nat) : Int) ≥ 2 ^ 63 then _ else _) _ _ _
  rw [if_neg (by omega)]
  exact wpAny_bind (wpAny_mkInt (wpAny_pure ⟨_, rfl, h n _ _ hn (I'.tok _)⟩))
theorem hint_in {A' : Around} {sp : Sp} {E : Value → Shared → Prop} (hr : Room k A'.in1) (fr : A'.frames = X.A.frames) (I : Inv X pins σ H s) (ha : H a = some (.ins C dx fs)) (M : MCal X.prog X.w X.K X.mg X.base k C "__len__" sp)
    (q : sp [.ref a] H (fun z H2 => H2 = H ∧ ∃ n : Nat, z = .int n ∧ n ≤ 1000) E0) {Q : Bool → Shared → Prop} (hQ : ∀ b s', Inv X pins σ H s' → Q b s') :
    wpAny (model X.prog X.w) A' (Builtin.List.listLengthHint (.ref a)) Q E s := by
  obtain ⟨c, f, fd, ps, F, b, Mt⟩ := id M
  obtain ⟨mA, O, _⟩ := ins_get I.hok ha
  obtain ⟨od, J, _⟩ := O.look
  unfold Builtin.List.listLengthHint
  refine wpAny_bind (wpAny_bind (J.type.here ((PySem.W.looks_findIn I.kIn Mt.at_).here ?_)))
  refine PySem.W.KFB.if_not rfl ?_
  refine PySem.W.KFB.if_so rfl ?_
  refine wpAny_bind (wpAny_rule ?_)
  refine wpAny_bind (wpAny_attempt (len_in hr fr I ha M q (fun n t s' hn I' => ?_)))
  refine wpAny_bind (wpAny_pure ?_)
  show wpAny _ _ (if Builtin.List.listTooLong ((n : Nat) : Int).toNat = true then _ else _) _ _ _
  rw [if_neg (by rw [Int.toNat_natCast, notLongL (by rw [sizeLine_eq]; omega)]; decide)]
  exact wpAny_pure (hQ _ _ I')
/-- the iterator that an own __iter__ answers -/
def rOwnT (P : Program) (w : World) (K : PySem.W.Frag) (mg : Str → Option Value) (base : Heap) (k : Nat) : List V → Hp → VK → Prop := fun xs H Q =>
  ∃ a C dx fs spI spL, xs = [V.ref a] ∧ H a = some (.ins C dx fs) ∧ MCal P w K mg base k C "__iter__" spI ∧ MCal P w K mg base k C "__len__" spL ∧
    ∀ q, H q = none → spI [.ref a] (upd H q (.lst [])) (fun v H' => ∃ it t zs, v = .ref it ∧ it ≠ q ∧ H' it = some (ItT t it 0) ∧ SqT K H' t zs ∧ H' q = some (.lst []) ∧ H' a = some (.ins C dx fs) ∧
      spL [.ref a] H' (fun z H2 => H2 = H' ∧ ∃ n : Nat, z = .int n ∧ n ≤ 1000) E0 ∧ Q (.ref q) (upd (upd H' q (.lst zs)) it (ItD it))) E0
theorem own_extT {A1 : Around} {Rs : Result → Shared → Prop} {q : Addr} {Q : VK} {spI spL : Sp} (hh : A1.in1.handled = none) (hr : Room k A1.in1) (hr2 : Room k A1.in1.in1) (fr : A1.frames = X.A.frames)
    (MI : MCal X.prog X.w X.K X.mg X.base k C "__iter__" spI) (ML : MCal X.prog X.w X.K X.mg X.base k C "__len__" spL)
    (I : Inv X pins σ H s) (ha : H a = some (.ins C dx fs)) (hq : H q = some (.lst []))
    (sp : spI [.ref a] H (fun v H' => ∃ it t zs, v = .ref it ∧ it ≠ q ∧ H' it = some (ItT t it 0) ∧ SqT X.K H' t zs ∧ H' q = some (.lst []) ∧ H' a = some (.ins C dx fs) ∧
      spL [.ref a] H' (fun z H2 => H2 = H' ∧ ∃ n : Nat, z = .int n ∧ n ≤ 1000) E0 ∧ Q (.ref q) (upd (upd H' q (.lst zs)) it (ItD it))) E0)
    (hdone : ∀ H' s', Inv X pins σ H' s' → Q (.ref q) H' → Rs (.ok (.ret .none)) s') :
    wpAny (model X.prog X.w) A1.in1 (Builtin.List.listExtendWith (.ref q) (.ref a) .none)
      (fun fin s' => match fin with | .done f => Rs (.ok f) s' | .again c' => c'.quiet = true ∧ codeAny (model X.prog X.w) A1 c' Rs s') (fun e s' => Rs (.error e) s') s := by
  have hne : q ≠ a := ne_of hq ha (fun z => nomatch z)
  obtain ⟨mA, O, _⟩ := ins_get I.hok ha
  obtain ⟨od, J, _⟩ := O.look
  obtain ⟨m0, hF⟩ := I.fr
  obtain ⟨c, f, fd, ps, F, b, M⟩ := MI
  unfold Builtin.List.listExtendWith
  refine wpAny_bind (J.type.here ?_)
  have h1 : Builtin.List.listSameRef (.ref q) (.ref a) = false := by simp [Builtin.List.listSameRef, hne]
  have h2 : (Value.ref C == Value.type "list") = false := rfl
  have h3 : (Value.ref C == Value.type "tuple") = false := rfl
  simp only [h1, h2, h3, Bool.or_false, Bool.false_eq_true, if_false]
  refine wpAny_bind (PySem.W.owit_iter hF I.ok.mod.kin J M.at_ M.fn ?_)
  have e0 : Env0 X.prog X.w X.K X.mg X.base A1.in1 X.stack s H := by
    have e := I.env0
    exact ⟨fr.trans e.frames, e.mod, e.bs, e.bsz, e.funs, e.frf, e.hok, e.bare⟩
  refine wpAny_mono (run_inE (us := [.ref a]) (vs := [.ref a]) F hr e0 b I (.cons rfl .nil) sp) ?_ fun _ _ z => z
  rintro r s2 ⟨z, H', I', rz, it, t, zs, ez, hnq, hit, ht, hq', ha', hl, qd⟩
  subst ez
  cases (show r = Value.ref it from rz)
  have ti := (itT_get I' hit).typeIs
  unfold PySem.W.OwitIt
  refine wpAny_specialOf (name := Str.ofString "__next__") ti PySem.F.slot_tuple_iterator_next.lookup ?_
  show wpAny _ A1.in1 (holding [Value.ref it] (Builtin.List.listLengthHint (.ref a)) >>= _) _ _ _
  refine wpAny_bind (wpAny_holding (hint_in (A' := A1.in1) hr2 fr I' ha' ML hl fun bb s3 I3 => ?_))
  obtain ⟨z, its, kk, r3, hl3, e3⟩ := I3.lstM hq'
  cases r3
  have go : ∀ s4, Inv X pins σ H' s4 → codeAny (model X.prog X.w) A1 (.builtin "list.extend.loop" ⟨[.ref q, .ref it, .none], []⟩) Rs s4 := fun s4 I4 =>
    tupit_loop hh zs.length 0 H' s4 (Nat.sub_zero _) (Nat.zero_le _) I4 (by rw [List.take_zero]; exact hq') hit ht hnq fun s' I5 => hdone _ s' I5 qd
  refine wpAny_ite_split (fun _ => ?_) (fun _ => wpAny_pure ⟨plainId_quiet PySem.F.plain_extend_loop _, go _ I3⟩)
  refine wpAny_bind (wpAny_rule ?_)
  refine wpAny_bind ?_
  show wpAny _ _ (updateSeq q (·.push .none) >>= fun _ => updateSeq q (·.pop)) _ _ _
  refine wpAny_bind (wpAny_updateSeq e3 rfl ?_)
  have I2 := I3.lset (f := (·.push Value.none)) (its' := [Value.none]) (ys := [.non]) (t' := s3.toks) hq' e3 (by simp) (.cons rfl .nil) (by rw [List.length_singleton, sizeLine_eq]; decide)
  obtain ⟨z4, its4, k4, r4, hl4, e4⟩ := I2.lstM upd_same
  obtain ⟨u4, rfl, ru4⟩ := r4.one
  refine wpAny_updateSeq e4 rfl ?_ (by show 1 ≤ sizeLine; rw [sizeLine_eq]; decide) (by show 0 ≤ sizeLine + 1; exact Nat.zero_le _)
  refine wpAny_pure ⟨plainId_quiet PySem.F.plain_extend_loop _, go _ ?_⟩
  have I5 := I2.lset (f := (·.pop)) (its := [u4]) (its' := []) (ys := []) (t' := s3.toks) upd_same e4 (by rfl) .nil (Nat.zero_le _)
  rw [upd_upd] at I5
  have hH : upd H' q (.lst []) = H' := by
    funext x
    by_cases hb : x = q
    · rw [hb, upd_same, hq']
    · rw [upd_ne hb]
  rw [hH] at I5
  exact I5
theorem call_listOwnT {j : Nat} (hc : X.calm = true) (hr : Room j X.A) (hk : k + 3 ≤ j) : CallR X (.type "list") (rOwnT X.prog X.w X.K X.mg X.base k) := by
  intro pins s σ H xs us Q I rv h
  obtain ⟨a, C, dx, fs, spI, spL, rfl, ha, MI, ML, hq⟩ := h
  obtain ⟨u, rfl, ru⟩ := vals1 rv
  cases (show u = Value.ref a from ru)
  have sb : Sub X (k + 1) X.A.in1.in1 := Sub.in1 (Sub.in1 (⟨hr.mono hk, rfl⟩ : Sub X (k + 3) X.A))
  have sb2 : Sub X k X.A.in1.in1.in1 := Sub.in1 sb
  refine callType_codes (Q₁ := fun obj s₁ => obj = .ref s.heap.objs.size ∧ s₁ = { s with heap := s.heap.push { cls := .type "list", data := .seq #[] } }) PySem.F.called_list (PySem.F.typeCall_list_1 _) PySem.F.entry_list_init
    (code_list_new _ ⟨rfl, rfl⟩) fun obj s₁ h₁ => ?_
  obtain ⟨rfl, rfl⟩ := h₁
  have hS : (s.heap.push { cls := .type "list", data := .seq #[] }).get? s.heap.objs.size = some { cls := .type "list", data := .seq #[] } := Heap.get?_push_size _ rfl
  refine ⟨⟨_, hS, rfl⟩, PySem.F.args_list_init_2 _ _, ?_⟩
  have fr : H s.heap.objs.size = none := I.hok.fresh (Nat.le_refl _)
  have I1 : Inv X pins σ (upd H s.heap.objs.size (.lst [])) { s with heap := s.heap.push { cls := .type "list", data := .seq #[] } } := I.lnew (its := []) (t' := s.toks) .nil (Nat.zero_le _)
  show wpAny _ _ (do let old ← Builtin.List.listItems (.ref s.heap.objs.size); Builtin.List.listUpdate (.ref s.heap.objs.size) (fun _ => #[]); letGo old.toList.reverse; Builtin.List.listExtendWith (.ref s.heap.objs.size) (.ref a) .none) _ _ _
  refine wpAny_bind ?_
  unfold Builtin.List.listItems
  refine wpAny_bind (wpAny_seqItems hS rfl (wpAny_pure ?_))
  show wpAny _ _ (updateSeq s.heap.objs.size (fun _ => #[]) >>= fun _ => letGo (#[] : Array Value).toList.reverse >>= fun _ => Builtin.List.listExtendWith (.ref s.heap.objs.size) (.ref a) .none) _ _ _
  refine wpAny_bind (wpAny_updateSeq hS rfl ?_)
  have I2 := I1.lset (f := fun _ => #[]) (its := []) (its' := []) (ys := []) (t' := s.toks) upd_same hS rfl .nil (Nat.zero_le _)
  rw [upd_upd] at I2
  refine wpAny_bind (wpAny_letGo ?_)
  have ha2 : upd H s.heap.objs.size (.lst []) a = some (.ins C dx fs) := by rw [upd_ne (ne_of_none ha fr)]; exact ha
  exact own_extT (A1 := X.A.in1) (Rs := wants (fun r s₂ => r = .none ∧ EP X pins σ Q (.ref s.heap.objs.size) s₂) X.xe) (I.ok.hd hc) (sb.room.mono (Nat.le_succ _)) sb2.room rfl MI ML I2 ha2 upd_same (hq _ fr)
    fun H' s' I' hR => ⟨rfl, .ref s.heap.objs.size, H', I', rfl, hR⟩
end
end Cm
namespace Cm
open PySem PySem.Spec PyProof.Rows
open L2 hiding Same
open NdefX
/-! ### super().__init__(e) in the __init__ of an own error over ValueError -/
section
open PySem.W PySem.Calls
variable {prog : Program} {w : World} {A : Around} {E : Value → Shared → Prop} {h : Heap} {g : Array GenState} {d : Drawn} {t : Nat} {os : OsState}
/-- the bound ValueError.__init__, called: the args are laid anew -/
theorem call_mw {u e C t0 : Addr} {rest : List Value} {Q : Value → Shared → Prop} {nm q : Str} {N : Addr} {bs bm : List Value} {hdct : Bool} {sn : List Str} {sub : List Value} {ab : Bool} {col : Option Bool} {dd : Option Addr} {k0 k1 k2 k3 k5 : Option Value}
    (hC : h.get? C = some (excClassObj nm q C N bs bm hdct sn sub ab col dd k0 k1 k2 k3 k5 "ValueError.__new__")) (he : h.get? e = some ({ cls := .ref C, dict := none, data := .fields #[.ref t0, .none, .none, .none, .bool false, .none] } : Obj))
    (hu : h.get? u = some (kxs_mw "ValueError.__init__" e)) (hz : rest.length ≤ sizeLine)
    (hq : ∀ h' t1, (∀ b o, b ≠ e → h.get? b = some o → h'.get? b = some o) → h'.get? e = some ({ cls := .ref C, dict := none, data := .fields #[.ref t1, .none, .none, .none, .bool false, .none] } : Obj) → Q .none ⟨h', g, d, t, os⟩) :
    wpAny (model prog w) A (call (.ref u) rest) Q E ⟨h, g, d, t, os⟩ := by
  refine wpAny_call (codeAny_of_tree ?_)
  show wpAny _ A.in1 (callAny (.ref u) ⟨rest, []⟩) _ _ _
  simp only [callAny]
  refine wpAny_bind (wpAny_load hu ?_)
  simp only [kxs_mw, show (Value.type "method-wrapper" == Value.type "method" || Value.type "method-wrapper" == Value.type "builtin_function_or_method" || Value.type "method-wrapper" == Value.type "method-wrapper") = true by decide, if_true]
  refine KFB.if_so (by decide) ?_
  refine wpAny_bind (check_bound_init F.excBase_ValueError.toExcCallFacts hC he rfl ?_)
  refine wpAny_bind (wpAny_pure (wpAny_pure ?_))
  refine ⟨plainId_quiet F.excBase_ValueError.init.plain _, codeAny_builtin F.excBase_ValueError.initEntry ?_⟩
  exact exc_init_tree (cls := .ref C) (t0 := t0) (dv := none) (c2 := .none) (c3 := .none) (b4 := .bool false) he hz fun h' k e' t' => hq h' _ k e'
end
theorem inv_pin {X : Cx} {σ : L2.St} {H : Hp} {s : Shared} {u : Addr} {o : Obj} (I : Inv X [] σ H s) (hu : s.heap.get? u = some o) (hH : H u = none) (nl : u ≠ X.env.locals) (nf : u ∉ X.fs) (nc : ∀ v, o.data ≠ .cell v) : Inv X [(u, o)] σ H s := by
  refine ⟨I.ok, I.os, I.bare, I.base, I.loc, I.cell, I.free, I.freeC, fun p hp => ?_, I.hok, I.len⟩
  rcases List.mem_append.mp hp with hp | hp
  · exact I.pin p (List.mem_append.mpr (.inl hp))
  · have e : p = (u, o) := by simpa using hp
    subst e
    exact ⟨hu, hH, nl, nf, nc⟩
/-- the __init__ of the class at C: what the written part says -/
structure SupC (P : Program) (K : PySem.W.Frag) (mg : Str → Option Value) (C f cc c : Addr) (x qual : Str) (params : Arguments) (body : List Stmt) (scope : Scope) (fd : FuncData) : Prop where
  fdE : ∃ (dV kV doc pm : Value) (an : Option Addr) (ct : Value), fd = PySem.W.fnX x qual params body scope [("__class__", cc)] dV kV doc pm an (.ref c) ct
  lk : ∃ (oc : Value) (od : Option Addr) (osl : Array (Option Value)), K.lookup f = some ⟨oc, od, .func fd, osl⟩
  code : PySem.W.codeIn K (.ref c) qual = true
  file : ∃ (co : Obj) (vs : Array Value) (file : Str) (tf : Tok), K.lookup c = some co ∧ co.data = .fields vs ∧ vs[2]? = some (.str file tf) ∧ ((P.main.file : Str) == file) = true
  cell : ∃ o, K.lookup cc = some o ∧ o.data = .cell (some (.ref C))
  sup : PySem.W.ks_superIn K C C "__init__" = some (some (.builtin "ValueError.__init__"))
  nop : PySem.W.nsIn K cStatics "thirdparty.any" = some none
  sB : PySem.W.subIn K (.ref C) (.type "ValueError") = some true
  sC : PySem.W.mroIn K C (.ref C) = some true
  nS : mg "super" = none
  ex : OexC K C
section
variable {CX : CXT} {P : Program} {w : World} {K : PySem.W.Frag} {mg : Str → Option Value} {base : Heap} {N ps : List Str} {k : Nat} {f C cc c : Addr} {x qual : Str} {params : Arguments} {scope : Scope} {fd : FuncData} {sp : Sp} {rest : List Stmt} {e : Expr} {p0 p1 p2 p3 p4 : Pos} {ar : Arg}
theorem sup_ok (S : SupC P K mg C f cc c x qual params (.Expr (.Call (.Attribute (.Call (.Name "super" p0) [] [] p1) "__init__" p2) [e] [] p3) p4 :: rest) scope fd)
    (NS : NScope N ps ["__class__"] scope) (hks : scope.names.lookup ("super" : Str) = some .globalImplicit) (hp : (params.posonlyargs ++ params.args).head? = some ar) (hp0 : ps[0]? = some ar.arg)
    (htop : (P.main.scope.names.lookup ("super" : Str)).isSome = false) (len : ∀ vs H Q E, sp vs H Q E → vs.length = ps.length)
    (hbody : ∀ (A : Around) (outer : List Env) (s : Shared) (H : Hp) (vs : List V) (Q : VK) (E : XK), Room k (A.deeper (envF ⟨x, qual, params, [], scope, [("__class__", cc)], c⟩ f s.heap.objs.size)) → sp vs H Q E →
      ∃ te tr a, PE (ncx CX P w K mg base N ⟨x, qual, params, [], scope, [("__class__", cc)], c⟩ f A outer s H E) e te ∧ PSs (ncx CX P w K mg base N ⟨x, qual, params, [], scope, [("__class__", cc)], c⟩ f A outer s H E) rest tr ∧ vs[0]? = some (.ref a) ∧ H a = some (exo a C none) ∧
        te (startF N vs [some (.ref C)]) H fun y H1 => ([y] : List V).length ≤ 1 ∧ H1 a = some (exo a C none) ∧ tr { nx := fun _ H' => Q .non H', rt := Q } (startF N vs [some (.ref C)]) H1)
    (hms : ∀ (L : Addr) (env : Env), env = envF ⟨x, qual, params, [], scope, [("__class__", cc)], c⟩ f L → ∃ pl, eval (.Call (.Attribute (.Call (.Name "super" p0) [] [] p1) "__init__" p2) [e] [] p3) env = (do
      let ov ← attributeBase (.Call (.Name "super" p0) [] [] p1) "__init__" env (eval (.Call (.Name "super" p0) [] [] p1) env)
      standAt p2.atName
      let (f, first) ← holding [ov] (getMethod ov "__init__" pl)
      callWith p3 f first (backTo p3 (starEach [e] env)) []) )
    (hsw : ∀ L, swapsWith (.Call (.Attribute (.Call (.Name "super" p0) [] [] p1) "__init__" p2) [e] [] p3) none p4.line (envF ⟨x, qual, params, [], scope, [("__class__", cc)], c⟩ f L) = pure false)
    (hint : ∀ L, interactive (envF ⟨x, qual, params, [], scope, [("__class__", cc)], c⟩ f L) = false)
    (hse : ∀ (L : Addr) (env : Env), env = envF ⟨x, qual, params, [], scope, [("__class__", cc)], c⟩ f L → starEach [e] env = (false, eval e env) :: starEach [] env) :
    FnOk P w K mg base CX (k + 1) f fd ps sp := by
  refine ⟨len, fun A outer s H args us vs Q E hr e0 hb r hsp => ?_⟩
  obtain ⟨dV, kV, doc, pm, an, ct, rfl⟩ := S.fdE
  obtain ⟨oc, od, osl, lk⟩ := S.lk
  have hl := len _ _ _ _ hsp
  have KX : K.In s.heap := e0.mod.kin.keeps fun b o e => (e0.bs b o e).1
  have lim : s.heap.NoLimit := e0.mod.nolimit.keeps fun b o e => (e0.bs b o e).1
  have kH : ∀ {b : Addr} {o : Obj}, K.lookup b = some o → H b = none := fun {b o} z => (e0.bs b o (e0.mod.kin b o z)).2
  refine codeAny_call_function hr.depth (KX _ _ lk) rfl NS.co NS.gen rfl (PySem.W.codeRec_of KX S.code) (hb _ _ _ _ ?_)
  refine wpAny_newFunctionEnv NS.nocell (fun ⟨n, _⟩ hy => NS.par n (List.of_mem_zip hy).1) (fun h₁ hns hsb => ⟨lim.fresh _ hsb, ?_⟩) NS.kind
  show codeAny _ _ (.func _ (envF ⟨x, qual, params, [], scope, [("__class__", cc)], c⟩ f s.heap.objs.size)) _ _
  refine ks_codeAny_funcAt ?_
  have kp : ∀ b o, s.heap.get? b = some o → h₁.get? b = some o := fun b o e => hsb.extBut b o (Nat.ne_of_lt (Heap.lt_size e)) (Heap.get?_push_of_some _ e)
  obtain ⟨te, tr, a, de, dr, hva, haH, hq⟩ := hbody A outer s H vs Q E (hr.deeper _) hsp
  obtain ⟨oc2, lcc, dcc⟩ := S.cell
  have CA : CellsAt [("__class__", cc)] ["__class__"] [some (V.ref C)] s.heap H := by
    refine ⟨rfl, fun y z hy => ?_, fun y z d h1 h2 => ?_, fun i y hi => ?_⟩
    · by_cases e : y = "__class__"
      · subst e
        have : cc = z := by simpa [List.lookup] using hy
        subst this
        exact ⟨kH lcc, _, oc2, KX _ _ lcc, dcc⟩
      · rw [List.lookup_cons, beq_false_of_ne e] at hy; cases hy
    · by_cases e1 : y = "__class__"
      · by_cases e2 : z = "__class__"
        · rw [e1, e2]
        · rw [List.lookup_cons, beq_false_of_ne e2] at h2; cases h2
      · rw [List.lookup_cons, beq_false_of_ne e1] at h1; cases h1
    · cases i with
      | succ i => simp at hi
      | zero =>
        have : y = "__class__" := by simpa using hi.symm
        subst this
        exact ⟨cc, by simp [List.lookup], fun v hv => ⟨.ref C, by cases (Option.some.inj (Option.some.inj hv)); rfl, oc2, KX _ _ lcc, dcc⟩⟩
  have I : Inv (ncx CX P w K mg base N ⟨x, qual, params, [], scope, [("__class__", cc)], c⟩ f A outer s H E) [] (startF N vs [some (V.ref C)]) H { s with heap := h₁, toks := s.toks + (ps.zip us).length } := inv_startN (F := ⟨x, qual, params, [], scope, [("__class__", cc)], c⟩) NS hr.hd e0 hl r CA hns kp
  have hva0 : (startF N vs [some (V.ref C)])[0]? = some (some (V.ref a)) := by
    unfold startF
    have h0 : 0 < vs.length := (List.getElem?_eq_some_iff.mp hva).1
    rw [List.getElem?_append_left (by simpa using h0), List.getElem?_map, hva]; rfl
  obtain ⟨pl, hm⟩ := hms s.heap.objs.size _ rfl
  have hse := hse s.heap.objs.size _ rfl
  obtain ⟨nm, q, N0, bs, bm, sn, sub, ab, col, dd, k0, k1, k2, k3, k5, hC, hbm⟩ := S.ex.cls
  obtain ⟨co, cvs, file, tf, lc, dc, hv2, hfile⟩ := S.file
  have K1 : K.In h₁ := KX.keeps kp
  have e1 : H a = some (exo a C none) := haH
  obtain ⟨t1, hoa⟩ := exo_at I.hok e1
  have hkc : scope.names.lookup ("__class__" : Str) = some .free := NS.frk _ (by simp)
  have hka : scope.names.lookup ar.arg = some .local := NS.par _ (List.mem_of_getElem? hp0)
  refine ks_wpAt_execs_cons (ks_wpAt_Expr_any (ks_wpAt_MethodCall ?_ hm) (hint _) (hsw _))
  refine ks_wpAt_super_base (of := ⟨oc, od, .func (PySem.W.fnX x qual params (.Expr (.Call (.Attribute (.Call (.Name "super" p0) [] [] p1) "__init__" p2) [e] [] p3) p4 :: rest) scope [("__class__", cc)] dV kV doc pm an (.ref c) ct), osl⟩)
    (env := envF ⟨x, qual, params, [], scope, [("__class__", cc)], c⟩ f s.heap.objs.size) hks hkc (by decide +kernel) rfl (K1 _ _ lk) rfl hp rfl (K1 _ _ lc) dc hv2 hfile htop ?_
  obtain ⟨mb, hb1, hb2⟩ := I.mod.blt
  refine PySem.W.ks_loadName_global NS.kind hks (PySem.Calls.loadGlobal_builtin (env := envF ⟨x, qual, params, [], scope, [("__class__", cc)], c⟩ f s.heap.objs.size) (I.mod.glob.keeps I.bk) S.nS (hb1.keeps I.bk) ((hb2 _ (by decide)).trans (by decide +kernel)) ⟨rfl, ?_⟩)
  refine wpAny_loadName_free NS.kind hkc rfl ⟨oc2, K1 _ _ lcc, dcc⟩ ?_
  obtain ⟨m, hnm, hloc⟩ := I.loc
  have hN0 : N[0]? = some ar.arg := by
    have hpre := NS.pre
    have h0 : 0 < ps.length := (List.getElem?_eq_some_iff.mp hp0).1
    have z : (ps ++ [("__class__" : Str)])[0]? = some ar.arg := by rw [List.getElem?_append_left h0]; exact hp0
    rw [← hpre, List.getElem?_take_of_lt (by omega)] at z
    exact z
  obtain ⟨u, ru, hlk⟩ := hloc 0 ar.arg (.ref a) hN0 hva0 (.inl hka)
  obtain rfl : u = Value.ref a := ru
  have hma : m ar.arg = some (.ref a) := by
    rcases hlk with ⟨_, z⟩ | ⟨z, _⟩
    · exact z
    · have z2 : scope.names.lookup ar.arg = some .cell ∨ scope.names.lookup ar.arg = some .free := z
      rw [hka] at z2
      rcases z2 with z2 | z2 <;> cases z2
  refine wpAny_loadName_local NS.kind hka hnm hma ?_
  refine ks_wpAny_isType_cls (K1 _ _ hC) rfl ⟨rfl, ?_⟩
  refine ks_wpAny_call_super (K1 _ _ hC) rfl hoa rfl (fun c e => by cases e) (PySem.W.looks_mroIn K1 S.sC) (fun h₂ hso k2 => ?_)
  · -- the bound __init__
    have I2 := I.kept (t' := s.toks + (ps.zip us).length) k2
    have K2 : K.In h₂ := I2.kIn
    have hcl : PySem.W.clsIn K C = some { name := nm, bases := bs, mro := .ref C :: bm, ns := N0, qualname := q, hasDict := true, slotNames := sn, subclasses := sub, abstract := ab, collection := col, hasDel := false } := by unfold PySem.W.clsIn; rw [hC] <;> rfl
    have hsup := S.sup
    unfold PySem.W.ks_superIn at hsup
    rw [hcl] at hsup
    have IA : PySem.W.InstAt h₂ a ({ cls := .ref C, dict := none, data := .fields #[.ref t1, .none, .none, .none, .bool false, .none] } : Obj) C none := ⟨k2 _ _ hoa, rfl, rfl, trivial⟩
    refine PySem.W.kxs_getMethod PySem.W.kxs_ValueError hso (PySem.W.looks_opaque K2 S.nop) (l₀ := .ref C :: bm) (fun A Q E s k q => wpAny_bind ((PySem.W.looks_clsIn K2 hcl) A _ E s k (wpAny_pure q))) rfl K2 hsup (IA.type.andThen (PySem.W.looks_subIn K2 S.sB)) (PySem.W.ks_ne K2 IA hcl) (by decide +kernel) ?_
    have I3 := I2.kept (t' := s.toks + (ps.zip us).length + 1) (h' := h₂.push (PySem.W.kxs_mw "ValueError.__init__" a)) (fun b o e => Heap.get?_push_of_some _ e)
    have hu : (h₂.push (PySem.W.kxs_mw "ValueError.__init__" a)).get? h₂.objs.size = some (PySem.W.kxs_mw "ValueError.__init__" a) := Heap.get?_push_at rfl rfl
    have Ip := inv_pin I3 hu (I2.hok.fresh (Nat.le_refl _)) (Nat.ne_of_gt I2.lt) (I2.nofs (Nat.le_refl _)) (fun v z => by cases z)
    refine PySem.W.kxs_callWith (i := "ValueError.__init__") (x := a) (by rw [hse]; rfl) ?_
    rw [hse]
    refine PySem.Calls.evalArgs_plain ?_
    have pa : PA (ncx CX P w K mg base N ⟨x, qual, params, [], scope, [("__class__", cc)], c⟩ f A outer s H E) [e] (tCons te tNil) := pa_cons (hs := hse) de pa_nil
    have run := pa.run p3 [(h₂.objs.size, PySem.W.kxs_mw "ValueError.__init__" a)] _ _ H (fun ws H1 => ws.length ≤ 1 ∧ H1 a = some (exo a C none) ∧ tr { nx := fun _ H' => Q .non H', rt := Q } (startF N vs [some (.ref C)]) H1) Ip hq
    have hse2 := hse
    refine thn (Q := AP (ncx CX P w K mg base N ⟨x, qual, params, [], scope, [("__class__", cc)], c⟩ f A outer s H E) [(h₂.objs.size, PySem.W.kxs_mw "ValueError.__init__" a)] (startF N vs [some (V.ref C)]) (fun ws H1 => ws.length ≤ 1 ∧ H1 a = some (exo a C none) ∧ tr { nx := fun _ H' => Q .non H', rt := Q } (startF N vs [some (.ref C)]) H1)) ?_ (fun us' s2 z => ?_)
    · have z := run
      rw [show (ncx CX P w K mg base N ⟨x, qual, params, [], scope, [("__class__", cc)], c⟩ f A outer s H E).env = envF ⟨x, qual, params, [], scope, [("__class__", cc)], c⟩ f s.heap.objs.size from rfl, hse] at z
      exact z
    obtain ⟨ws, H2, J, rw', l1, ha2, q2⟩ := z
    obtain ⟨hus, _⟩ := J.pin (h₂.objs.size, PySem.W.kxs_mw "ValueError.__init__" a) (List.mem_append.mpr (.inr (by simp)))
    refine ⟨hus, ?_⟩
    obtain ⟨t2, hoa2⟩ := exo_at J.hok ha2
    have hlen : us'.length ≤ sizeLine := by
      have := rw'.length
      rw [sizeLine_eq]; omega
    have KJ := J.kIn
    obtain ⟨hp2, g2, d2, tk2, os2⟩ := s2
    refine call_mw (KJ _ _ hC) hoa2 hus (by simpa using hlen) fun h' t1 k' hx => ?_
    have J2 := J.write (t' := tk2) (x := a) (e := a) (o := exo a C none) (by rw [ha2]; exact True.intro) (.inl rfl) k' ⟨_, hx⟩ (exo_ok hx)
    have eu : upd H2 a (exo a C none) = H2 := by
      funext b
      by_cases hb : b = a
      · rw [hb, upd_same, ha2]
      · rw [upd_ne hb]
    rw [eu] at J2
    refine wpAt_of_wpAny ?_
    refine wpAny_mono (dr.run _ _ _ _ _ J2 q2) (fun fl s' hs => ?_) fun e s' hs => hs
    have fin : ∀ {σ' : L2.St} {H' : Hp} {v : V} {u : Value}, Inv (ncx CX P w K mg base N ⟨x, qual, params, [], scope, [("__class__", cc)], c⟩ f A outer s H E) [(h₂.objs.size, PySem.W.kxs_mw "ValueError.__init__" a)] σ' H' s' → L2.RelV v u → Q v H' → CE outer P w H s Q u s' :=
      fun {σ' H' v u} J rv q => ⟨v, H', J.os, J.bare, J.base, J.hok, rv, q⟩
    cases fl with
    | ret u =>
      obtain ⟨v, σ', H', J, rv, q⟩ := hs
      exact fin J rv q
    | next =>
      obtain ⟨σ', H', J, q⟩ := hs
      exact fin (v := V.non) (u := Value.none) J rfl q
    | brk =>
      obtain ⟨_, _, _, q⟩ := hs
      exact False.elim q
    | cont =>
      obtain ⟨_, _, _, q⟩ := hs
      exact False.elim q
end
end Cm
namespace Cm
open PySem PySem.Spec PyProof.Rows
open L2 hiding Same
/-! ### {x!r}, whatever is under way -/
section
open Sem (wp)
theorem list_head_any {M : Model} {A : Around} {E : Value → Shared → Prop} {s : Shared} {Q : Fin → Shared → Prop} {a : Addr} {o : Obj} {x : Value} {l : List Value} {n} {b : Nat}
    (hget : s.heap.get? a = some o) (hd : o.data = .seq (x :: l).toArray n)
    (h2 : ∀ u tk, Q (.done (.ret (.str "[...]" u))) { s with toks := tk })
    (h : wpAny M A (do again (.builtin "list.__repr__.loop" ⟨[.ref a, rawInt 0, ← newList [], rawInt b], []⟩)) Q E s) : wpAny M A (Builtin.listReprAt b ⟨[.ref a], []⟩) Q E s := by
  intro Γ p hΓ
  have h1 := h Γ p hΓ
  have h3 : wpAny M A (do rule "list.__repr__.in-itself"; retStr ("[...]" : Str)) Q E s := by
    refine wpAny_bind (wpAny_rule ?_)
    refine wpAny_bind (wpAny_mkStr (wpAny_pure ?_) (by decide +kernel))
    exact h2 _ _
  have h4 := h3 Γ p hΓ
  unfold Builtin.listReprAt
  simp [slotArgs, Builtin.List.listItems, seqItems?, Sem.wp_load_of (h := hget), hd, PySem.stack]
  show wp M Γ (if (Γ.below.any _) = true then _ else _) _ _ p s
  split
  · exact h4
  · exact h1
end
section
variable {prog : Program} {w : World} {A : Around} {E : Value → Shared → Prop} {s : Shared} {a : Addr} {oa : Obj} {x : Value} {l : List Value} {na : Nat} {ts : List Str}
theorem call_list_any {Q : Value → Shared → Prop} (hTy : s.TypeIs (.ref a) "list")
    (ha : s.heap.get? a = some oa) (hda : oa.data = .seq (x :: l).toArray na) (hlen : ts.length = (x :: l).toArray.size)
    (hT : ∀ (i : Nat) (y : Value), (x :: l).toArray[i]? = some y → ∃ t, ts[i]? = some t ∧ ReprIs prog w y t)
    (hQ : ∀ h' m u tk, m.length ≤ (listText ts).length + 5 → (∀ b o, s.heap.get? b = some o → h'.get? b = some o) → Q (.str m u) { s with heap := h', toks := tk })
    (hsz : (listText ts).length ≤ sizeLine) :
    wpAny (model prog w) A (call (.builtin "list.__repr__") [.ref a]) Q E s := by
  refine wpAny_call (codeAny_call_builtin F.slot_list_repr.plain F.entry_list_repr (F.slot_list_repr.check _ _ _ _ _ _ _ _ hTy (F.args_list_repr_1 _) ?_))
  refine list_head_any (A := A.in1) ha hda (fun u tk => hQ s.heap _ _ _ (Nat.le_trans (by decide +kernel) (Nat.le_add_left _ _)) fun _ _ z => z) ?_
  refine wpAny_bind (m := newList []) (wpAny_newObj_type ?_)
  refine wpAny_pure ⟨F.quiet_list_repr_loop _, ?_⟩
  refine codeAny_list_repr_start (P := s.heap.objs.size) (Nat.ne_of_lt (Heap.lt_size ha)) hlen hT (Heap.get?_push_of_some _ ha) hda (Heap.get?_push_size _ rfl) (fun h' u tk hk => ?_) (by omega)
  exact hQ h' _ u tk (Nat.le_add_right _ _) fun b o e => hk b o (Nat.ne_of_lt (Heap.lt_size e)) (Heap.get?_push_of_some _ e)
end
/-! ### odd values -/
inductive OdK
  | str (z : Str) | non | zero | tru | tup | lst
def OdAt (K : PySem.W.Frag) (H : Hp) (v : V) : OdK → Prop
  | .str z => v = .str z ∧ z.length ≤ 1000 ∧ ∀ c ∈ z.cps.toList, c < 128
  | .non => v = .non
  | .zero => v = .int 0
  | .tru => v = .bl true
  | .tup => ∃ a, v = .ref a ∧ H a = some (.tup [.str "asks"])
  | .lst => ∃ a, v = .ref a ∧ H a = some (.lst [.str "free"])
def tFmtO (K : PySem.W.Frag) (te : TE) : TE := fun σ H Q => te σ H fun x H1 => (∃ k, OdAt K H1 x k) ∧ ∀ m : Str, m.length ≤ 11000 → Q (.str m) H1
theorem small {n : Nat} (h : n ≤ 11000) : n ≤ sizeLine := Nat.le_trans h (by decide)
theorem pe_fmtRO {X : Cx} {e : Expr} {te : TE} {pos : Pos} {k : Nat} (hr : Room k X.A) (he : PE X e te) : PE X (.FormattedValue e 114 none pos) (tFmtO X.K te) := by
  refine ⟨fun pins s σ H Q I h => ?_⟩
  refine wpAny_FormattedValue_repr (thn (he.run pins s σ H _ I h) fun v s1 hv => ?_)
  obtain ⟨x, H1, I1, r1, ⟨k, ho⟩, q⟩ := hv
  have hu := hr.units
  have fin : ∀ (m : Str) (u : Tok) (s2 : Shared), m.length ≤ 11000 → Inv X pins σ H1 s2 → wpAny (model X.prog X.w) X.A (formatField (.str m u) Str.empty) (EP X pins σ Q) X.xe s2 := fun m u s2 hm J =>
    wpAny_formatField_str ⟨.str m, H1, J, ⟨_, rfl⟩, q m hm⟩ ⟨.str m, H1, J.tok _, ⟨_, rfl⟩, q m hm⟩ (small hm)
  cases k with
  | str z =>
    obtain ⟨rfl, hz, hc⟩ := ho
    obtain ⟨t, rfl⟩ := r1
    have h1 := StrLaws.reprText_len z fun c h => Nat.lt_of_lt_of_le (hc c h) (by decide)
    exact pyReprObj_str (fin _ _ _ (by omega) (I1.tok _)) (small (by omega))
  | non =>
    obtain rfl : x = .non := ho
    obtain rfl : v = Value.none := r1
    exact pyReprObj_none (fin _ _ _ (by decide +kernel) (I1.tok _))
  | zero =>
    obtain rfl : x = .int 0 := ho
    obtain ⟨t, rfl⟩ := r1
    exact pyReprObj_int (by decide +kernel) (fin _ _ _ (by decide +kernel) (I1.tok _))
  | tru =>
    obtain rfl : x = .bl true := ho
    obtain rfl : v = Value.bool true := r1
    exact pyReprObj_bool (fin _ _ _ (by decide +kernel) (I1.tok _))
  | tup =>
    obtain ⟨a, rfl, ha⟩ := ho
    obtain rfl : v = Value.ref a := r1
    obtain ⟨its, rv, ⟨o, ho, hcl, n, hd⟩, _⟩ := I1.tuple (SqT.of ha)
    have rv2 : Vals ([("asks" : Str)].map V.str) its := rv
    refine wpAny_pyReprObj_slot (by omega) ⟨o, ho, hcl⟩ F.slot_tuple_repr (fmt_tuple_repr (ts := [("asks" : Str)].map reprText) ho hcl hd (repr_all rv2 fun y hy => ?_) (by decide +kernel) fun m u tk hm => ⟨m, u, rfl, fin m u _ ?_ (I1.tok _)⟩)
    · have e : y = "asks" := by simpa using hy
      rw [e]; decide +kernel
    · have : (tupleText ([("asks" : Str)].map reprText)).length ≤ 100 := by decide +kernel
      omega
  | lst =>
    obtain ⟨a, rfl, ha⟩ := ho
    obtain rfl : v = Value.ref a := r1
    obtain ⟨its, rv, ⟨o, n, ho, hcl, _, hd⟩, _⟩ := I1.list (SqL.of ha)
    obtain ⟨u1, rfl, t, rfl⟩ := vals1 rv
    refine wpAny_pyReprObj_slot (by omega) ⟨o, ho, hcl⟩ F.slot_list_repr.toG (call_list_any (ts := [("free" : Str)].map reprText) ⟨o, ho, hcl⟩ ho hd rfl (fun i y hy => ?_) (fun h' m u tk hm hk => ⟨m, u, rfl, fin m u _ ?_ (I1.kept hk)⟩) (by decide +kernel))
    · cases i with
      | zero =>
        have e : Value.str "free" t = y := by simpa using hy
        subst e
        exact ⟨_, rfl, ReprIs.str "free" t (by decide +kernel)⟩
      | succ i => simp at hy
    · have : (listText ([("free" : Str)].map reprText)).length ≤ 100 := by decide +kernel
      omega
end Cm
namespace Cm
open PySem PySem.Spec PyProof.Rows
open L2 hiding Same
open NdefX
/-! ### what the written part says of an own error's class and of its __init__ -/
def oexB (K : PySem.W.Frag) (C : Addr) : Bool := match K.lookup C with
  | some ⟨.type "type", _, .cls cd, sl⟩ => (match cd.mro, sl.toList with
    | .ref C' :: bm, [_, _, _, _, some (.builtin n), _] => C' == C && n == "ValueError.__new__" && !cd.hasDel && cd.hasDict && PySem.HandSPX.refsVE bm
    | _, _ => false)
  | _ => false
theorem oexB_ok {K : PySem.W.Frag} {C : Addr} (q : oexB K C = true) : ∃ nm q N bs bm sn sub ab col dd k0 k1 k2 k3 k5, K.lookup C = some (excClassObj nm q C N bs bm true sn sub ab col dd k0 k1 k2 k3 k5 "ValueError.__new__") ∧ PySem.HandSPX.refsVE bm = true := by
  unfold oexB at q
  split at q
  · rename_i dd cd sl ho
    split at q
    · rename_i C' bm k0 k1 k2 k3 n k5 hm hs
      simp only [Bool.and_eq_true, beq_iff_eq, Bool.not_eq_true'] at q
      obtain ⟨⟨⟨⟨rfl, rfl⟩, hdel⟩, hd⟩, ht⟩ := q
      obtain ⟨nm, bs, mro, ns, qn, hd', sn, sub, ab, col, del⟩ := cd
      dsimp only at hm hdel hd
      subst hm hdel hd
      have hsl : sl = #[k0, k1, k2, k3, some (.builtin "ValueError.__new__"), k5] := by
        obtain ⟨l⟩ := sl
        simp only at hs
        rw [hs]
      subst hsl
      exact ⟨nm, qn, ns, bs, bm, sn, sub, ab, col, dd, k0, k1, k2, k3, k5, ho, ht⟩
    · cases q
  · cases q
abbrev FnWS : Type := Option (Str × Str × Arguments × FuncBody × Scope × Addr × List Str × Addr)
def fnWS (K : PySem.W.Frag) (f : Addr) : FnWS := match K.lookup f with
  | some ⟨_, _, .func fd, _⟩ => some (fd.name, fd.qualname, fd.params, fd.body, fd.scope, fd.globals, fd.closure.map (·.1), fd.builtins)
  | _ => none
def codeB (file : Str) (K : PySem.W.Frag) (c : Addr) : Bool := match K.lookup c with
  | some o => (match o.data with
    | .fields vs => (match (vs[2]? : Option Value) with
      | some (Value.str f _) => file == f
      | _ => false)
    | _ => false)
  | _ => false
def cellB (K : PySem.W.Frag) (C cc : Addr) : Bool := match K.lookup cc with
  | some o => (match o.data with
    | .cell (some (.ref D)) => D == C
    | _ => false)
  | _ => false
def supB (file : Str) (K : PySem.W.Frag) (C f : Addr) (qual : Str) : Bool := match K.lookup f with
  | some ⟨_, _, .func fd, _⟩ => (match fd.code with
    | .ref c => PySem.W.codeIn K (.ref c) qual && codeB file K c
    | _ => false) && (match fd.closure with
    | [(_, cc)] => cellB K C cc
    | _ => false)
  | _ => false
theorem codeB_ok {file : Str} {K : PySem.W.Frag} {c : Addr} (h : codeB file K c = true) : ∃ (co : Obj) (vs : Array Value) (f : Str) (tf : Tok), K.lookup c = some co ∧ co.data = .fields vs ∧ vs[2]? = some (.str f tf) ∧ (file == f) = true := by
  unfold codeB at h
  split at h
  · rename_i o ho
    split at h
    · rename_i vs hv
      split at h
      · rename_i f t ht
        exact ⟨o, vs, f, t, ho, hv, ht, h⟩
      · cases h
    · cases h
  · cases h
theorem cellB_ok {K : PySem.W.Frag} {C cc : Addr} (h : cellB K C cc = true) : ∃ o, K.lookup cc = some o ∧ o.data = .cell (some (.ref C)) := by
  unfold cellB at h
  split at h
  · rename_i o ho
    split at h
    · rename_i D hD
      have e : D = C := beq_iff_eq.mp h
      subst e
      exact ⟨o, ho, hD⟩
    · cases h
  · cases h
/-- the facts of one own error over ValueError: its class, its __init__ -/
structure ExB (K : PySem.W.Frag) (C f : Addr) : Prop where
  o : oexB K C = true
  sa : PySem.W.findIn K (.ref C) "__setattr__" = some (some (.builtin "object.__setattr__"))
  exC : PySem.W.subIn K (.ref C) (.type "BaseException") = some true
  tyC : PySem.W.typeIn K (.ref C) = some (.type "type")
  kC : PySem.W.keepIn K (.ref C) = true
  iC : PySem.W.findIn K (.ref C) "__init__" = some (some (.ref f))
  tI : PySem.W.typeIn K (.ref f) = some (.type "function")
  sup : PySem.W.ks_superIn K C C "__init__" = some (some (.builtin "ValueError.__init__"))
  nop : PySem.W.nsIn K cStatics "thirdparty.any" = some none
  sB : PySem.W.subIn K (.ref C) (.type "ValueError") = some true
  sC : PySem.W.mroIn K C (.ref C) = some true
  xf : xfB K C = true
  em : PySem.W.exmOne K (.ref C) (.ref C) = some true
  cc : PySem.W.findIn K (.ref C) "__class__" = some (some (.builtin "object.__class__"))
  mo : PySem.W.mroIn K C (.type "object") = some true
def exB (K : PySem.W.Frag) (C f : Addr) : List Bool := [oexB K C,
  decide (PySem.W.findIn K (.ref C) "__setattr__" = some (some (.builtin "object.__setattr__"))),
  decide (PySem.W.subIn K (.ref C) (.type "BaseException") = some true),
  decide (PySem.W.typeIn K (.ref C) = some (.type "type")),
  PySem.W.keepIn K (.ref C),
  decide (PySem.W.findIn K (.ref C) "__init__" = some (some (.ref f))),
  decide (PySem.W.typeIn K (.ref f) = some (.type "function")),
  decide (PySem.W.ks_superIn K C C "__init__" = some (some (.builtin "ValueError.__init__"))),
  decide (PySem.W.nsIn K cStatics "thirdparty.any" = some none),
  decide (PySem.W.subIn K (.ref C) (.type "ValueError") = some true),
  decide (PySem.W.mroIn K C (.ref C) = some true),
  xfB K C,
  decide (PySem.W.exmOne K (.ref C) (.ref C) = some true),
  decide (PySem.W.findIn K (.ref C) "__class__" = some (some (.builtin "object.__class__"))),
  decide (PySem.W.mroIn K C (.type "object") = some true)]
theorem exB_ok {K : PySem.W.Frag} {C f : Addr} (h : (exB K C f).all id = true) : ExB K C f := by
  have g : ∀ (i : Nat) {b : Bool}, (exB K C f)[i]? = some b → b = true := fun i b e => List.all_eq_true.mp h b (List.mem_of_getElem? e)
  exact ⟨g 0 rfl, of_decide_eq_true (g 1 rfl), of_decide_eq_true (g 2 rfl), of_decide_eq_true (g 3 rfl), g 4 rfl, of_decide_eq_true (g 5 rfl), of_decide_eq_true (g 6 rfl), of_decide_eq_true (g 7 rfl), of_decide_eq_true (g 8 rfl), of_decide_eq_true (g 9 rfl),
    of_decide_eq_true (g 10 rfl), g 11 rfl, of_decide_eq_true (g 12 rfl), of_decide_eq_true (g 13 rfl), of_decide_eq_true (g 14 rfl)⟩
theorem ExB.oex {K : PySem.W.Frag} {C f : Addr} (h : ExB K C f) : OexC K C := ⟨oexB_ok h.o, h.sa, h.exC, h.tyC, h.kC⟩
/-- the def of the __init__ -/
theorem supC_of {P : Program} {K : PySem.W.Frag} {mg : Str → Option Value} {C f : Addr} {x qual : Str} {params : Arguments} {body : List Stmt} {scope : Scope} (X : ExB K C f) (w : fnWS K f = some (x, qual, params, FuncBody.stmts body, scope, mainGlobals, [("__class__" : Str)], builtinsNs))
    (b : supB P.main.file K C f qual = true) (nS : mg "super" = none) : ∃ (cc c : Addr) (fd : FuncData), SupC P K mg C f cc c x qual params body scope fd := by
  unfold fnWS at w
  unfold supB at b
  cases q : K.lookup f with
  | none => rw [q] at b; cases b
  | some o =>
    obtain ⟨oc, od, dt, osl⟩ := o
    rw [q] at w b
    cases dt with
    | func fd =>
      obtain ⟨n1, n2, n3, n4, n5, n6, n7, n8, n9, n10, n11, n12, n13, n14, n15⟩ := fd
      have e2 : (some (n1, n2, n3, n4, n5, n6, n7.map (·.1), n15) : FnWS) = some (x, qual, params, FuncBody.stmts body, scope, mainGlobals, [("__class__" : Str)], builtinsNs) := w
      simp only [Option.some.injEq, Prod.mk.injEq] at e2
      obtain ⟨h1, h2, h3, h4, h5, h6, h7, h8⟩ := e2
      subst h1 h2 h3 h4 h5 h6 h8
      dsimp only at b
      obtain ⟨b3, b4⟩ := Bool.and_eq_true_iff.mp b
      cases n7 with
      | nil => cases b4
      | cons z n7 =>
        cases n7 with
        | cons z2 n7 => cases b4
        | nil =>
          obtain ⟨y, cc⟩ := z
          have ey : y = "__class__" := by simpa using h7
          subst ey
          cases n13 with
          | ref c =>
            obtain ⟨b5, b6⟩ := Bool.and_eq_true_iff.mp b3
            exact ⟨cc, c, _, ⟨⟨n8, n9, n10, n11, n12, n14, rfl⟩, ⟨oc, od, osl, q⟩, b5, codeB_ok b6, cellB_ok b4, X.sup, X.nop, X.sB, X.sC, nS, X.oex⟩⟩
          | _ => cases b3
    | _ => cases b
end Cm
namespace PySem.W
open PySem PySem.Spec PySem.Calls PyProof.Rows
section
variable {prog : Program} {w : World} {A : Around} {E : Value → Shared → Prop} {s : Shared} {K : Frag} {x D : Addr} {ox : Obj}
theorem findObj_dataO {C : Addr} {od : Option Obj} {name : Str} {a g : Value} (hc : (clsIn K C).isSome = true) (ha : findIn K (.ref C) name = some (some a)) (hg : specialIn K a "__get__" = some (some g)) (ht : takesIn K a = some true) : findObj K C od name = some (.bind g a) := by
  obtain ⟨cd, hc⟩ := Option.isSome_iff_exists.mp hc
  unfold findObj
  rw [hc, Option.bind_some, ha, Option.bind_some]
  simp [hg, ht]
theorem kin_classO {od : Option Obj} {Q : Option Value → Shared → Prop} (hga : findIn K (.ref D) "__getattribute__" = some (some (.builtin "BaseException.__getattribute__"))) (hgt : findIn K (.ref D) "__getattr__" = some none) (hsub : subIn K (.ref D) (.type "BaseException") = some true)
    (hdct : hasDictIn K D = true) (ha : findIn K (.ref D) "__class__" = some (some (.builtin "object.__class__")))
    (hn : specialIn K (.builtin "object.__class__") "__get__" = some (some (.builtin "getset_descriptor.__get__"))) (htk : takesIn K (.builtin "object.__class__") = some true) (hm : mroIn K D (.type "object") = some true)
    (X : K.In s.heap) (I : InstAt s.heap x ox D od) (h : Q (some (.ref D)) { s with toks := s.toks + 1 }) : wpAny (model prog w) A (getAttr? (.ref x) "__class__") Q E s := by
  have hf : findObj K D od "__class__" = some (.bind (.builtin "getset_descriptor.__get__") (.builtin "object.__class__")) := findObj_dataO (by obtain ⟨cd, hc, _⟩ := any_some hdct; rw [hc]; rfl) ha hn htk
  obtain ⟨hp, g, d, t, os⟩ := s
  have L0 := I.type (M := model prog w)
  have L1 := looks_findIn (M := model prog w) X hga
  have L2 := looks_findIn (M := model prog w) X hgt
  have L3 := looks_find (M := model prog w) X I hf
  have sub : Looks (model prog w) hp (isInstance (.ref x) (.type "BaseException")) true := L0.andThen (looks_subIn X hsub)
  have hx0 : (false && onTheHeap (Value.builtin "BaseException.__getattribute__")) = false := rfl
  have hx2 : (Value.builtin "BaseException.__getattribute__" == Value.builtin "object.__getattribute__") = false := by decide +kernel
  have hx1 : (onTheHeap (Value.ref D) && Value.builtin "BaseException.__getattribute__" == Value.builtin "object.__getattribute__") = false := by rw [hx2]; rfl
  unfold getAttr? getAttrBy? getAttrBy
  refine wpAny_bind (wpAny_mkText (wpAny_bind (wpAny_attempt (wpAny_holding (wpAny_bind (L0.at (wpAny_bind (L1.at ?_))))))))
  show wpAny _ _ (if (onTheHeap (Value.ref D) && Value.builtin "BaseException.__getattribute__" == Value.builtin "object.__getattribute__") = true then _ else _) _ _ _
  rw [hx1, if_neg Bool.false_ne_true]
  unfold getAttrByItsOwn hookBefore
  refine wpAny_bind ?_
  rw [if_pos (show onTheHeap (Value.ref D) = true from rfl)]
  refine L2.at ?_
  refine wpAny_bind (wpAny_attempt (wpAny_holding ?_))
  unfold callGetattribute
  rw [hx0, if_neg Bool.false_ne_true]
  unfold boundAndCalled
  rw [PySem.F.excAttr_ValueError.ga.bind (.ref x)]
  refine wpAny_bind (wpAny_pure ?_)
  show wpAny _ _ (call (.builtin "BaseException.__getattribute__") [.ref x, .str "__class__" t]) _ _ _
  refine wpAny_call (codeAny_call_builtin PySem.F.excAttr_ValueError.ga.plain PySem.F.entry_bexc_ga ?_)
  refine @check_slot (model prog w) _ _ ⟨hp, g, d, t + 1, os⟩ "BaseException.__getattribute__" "BaseException" "__getattribute__" (.ref x) [.str "__class__" t] [] _ (by decide +kernel) (by decide +kernel) sub (PySem.F.args_bexc_ga (.ref x) (.str "__class__" t)) ?_
  unfold Builtin.«object.__getattribute__»
  refine wpAny_bind (wpAny_of_eq (a := ((Value.ref x : Value), [Value.str "__class__" t])) (by first | rfl | (simp only [slotArgs]; rfl)) ?_)
  refine wpAny_bind (wpAny_pure (wpAny_bind (L0.at (wpAny_bind (L3.at ?_)))))
  show wpAny _ _ (holding [Value.builtin "object.__class__"] (call (.builtin "getset_descriptor.__get__") [.builtin "object.__class__", .ref x, .ref D]) >>= ret) _ _ _
  refine wpAny_bind (wpAny_holding (wpAny_call (class_get (s := ⟨hp, g, d, t + 1, os⟩) (ox := ox) (od := od) X I hm ?_)))
  refine wpAny_pure ?_
  show wpAny _ _ (handedOut (.ref D)) _ _ _
  rw [handedOut_of (v := .ref D) rfl]
  first
    | exact wpAny_pure (wpAny_pure h)
    | exact wpAny_pure h
    | exact wpAny_pure (wpAny_bind (wpAny_pure (wpAny_pure h)))
theorem kitx_excO {od : Option Obj} (hga : findIn K (.ref D) "__getattribute__" = some (some (.builtin "BaseException.__getattribute__"))) (hgt : findIn K (.ref D) "__getattr__" = some none) (hsub : subIn K (.ref D) (.type "BaseException") = some true) (hdct : hasDictIn K D = true) (ha : findIn K (.ref D) "__class__" = some (some (.builtin "object.__class__")))
    (hn : specialIn K (.builtin "object.__class__") "__get__" = some (some (.builtin "getset_descriptor.__get__"))) (htk : takesIn K (.builtin "object.__class__") = some true) (hm : mroIn K D (.type "object") = some true) :
    KitX K (.ref x) (.ref D) (fun h => InstAt h x ox D od) where
  ty := fun _ _ _ I => I.type
  it := fun _ _ X _ => by
    obtain ⟨cdD, hcD, _⟩ := any_some hdct
    unfold clsIn at hcD
    split at hcD
    · rename_i c' d' cd' sl' ho
      intro A' Q' E' s' k q
      unfold isType loadHead
      exact wpAny_bind (wpAny_loadPart (k _ _ (X _ _ ho)) (wpAny_pure q))
    · cases hcD
  ne := fun h tp dd its n sl X htp => by
    obtain ⟨cdD, hcD, _⟩ := any_some hdct
    refine Bool.eq_false_iff.mpr fun q => ?_
    have e : D = tp := Value.ref.inj (beq_iff_eq.mp q)
    subst e
    unfold clsIn at hcD
    split at hcD
    · rename_i c' d' cd' sl' ho
      have z := (X _ _ ho).symm.trans htp
      cases z
    · cases hcD
  ca := fun X I k => kin_classO hga hgt hsub hdct ha hn htk hm X I k
end
end PySem.W
namespace Cm
open PySem PySem.Spec PyProof.Rows
open L2 hiding Same
/-! ### isinstance of a caught error that has fields -/
def rIsF (K : PySem.W.Frag) (D a : Addr) (cls : Value) (d : Option Addr) : List V → Hp → VK → Prop := fun xs H Q => ∃ (c : V) (cv : Value) (b : Bool) (dd : Addr) (fs : List (Str × V)), cls = .ref D ∧ xs = [.ref a, c] ∧ (∀ u, RelV c u → u = cv) ∧ PySem.W.kitOne K (.ref D) cv = some b ∧ d = some dd ∧ H dd = some (.xd fs) ∧ Q (.bl b) H
theorem call_isF {X : Cx} {a D : Addr} {oe : Obj} {cls : Value} {d : Option Addr} {pn : List (Addr × Obj)} (C : ExcC X.K D) (hz : Zc cls d oe) (hf : ∃ vs, oe.data = .fields vs) : CallR (X.suite a ((a, oe) :: pn)) (.builtin "isinstance") (rIsF X.K D a cls d) := by
  intro pins s σ H xs us Q I r h
  obtain ⟨c, cv, b, dd, fs, rfl, rfl, hcv, e, rfl, hd, q⟩ := h
  cases r with
  | cons rx rr =>
    cases rr with
    | cons rt rr =>
      cases rr
      cases rx
      have ec := hcv _ rt
      subst ec
      obtain ⟨hget, _⟩ := I.pin (a, oe) (List.mem_append.mpr (.inl List.mem_cons_self))
      obtain ⟨vs, hv⟩ := hf
      have hx : ObjOk X.prog X.w H s.heap dd (.xd fs) := I.hok dd _ hd
      obtain ⟨mA, hns, _⟩ := hx
      obtain ⟨od, ho, _⟩ := lookIn_ns hns
      have J : PySem.W.InstAt s.heap a oe D (some od) := ⟨hget, hz.1, by unfold PySem.W.notCls; rw [hv] <;> rfl, by rw [hz.2]; exact ho⟩
      exact PySem.W.kia_one (PySem.W.kitx_excO C.hg C.hk C.hs C.hd C.ha C.hn C.ht C.hm) I.kIn J e (fun z => nomatch z) fun tk => ⟨.bl b, H, I.kept (t' := tk) fun _ _ z => z, rfl, q⟩
theorem passes_len {X : Cx} {W : WX} {E : XK} (tk : Takes X W) (hW : ∀ cls d σ H, σ.length = X.N.length → E cls d H → W cls d σ H) : Passes (CX X.prog X.w) X E :=
  fun pins σ H s e s' I c => tk _ _ (XE.of_call I (fun cls d H' h => hW cls d σ H' I.len h) c)
/-! ### a call of a local name that holds a class; of a classmethod without arguments -/
section
variable {X : Cx} {CX : CXT} {k i : Nat} {C f : Addr} {fd : FuncData} {ps : List Str} {sp : Sp} {ds : List Value} {dvs : List V} {E : XK} {x : Str} {e : Expr} {es : List Expr} {p pos : Pos} {t : TA}
def tMakeL (i : Nat) (C : Addr) (sp : Sp) (dvs : List V) (E : XK) (t : TA) : TE := fun σ H Q => σ[i]? = some (some (.ref C)) ∧ tMake C sp dvs E t σ H Q
theorem pe_makeL (M : Mk X.K C f) (F : FnOk X.prog X.w X.K X.mg X.base CX k f fd ps sp) (hr : Room (k + 1) X.A) (hN : X.N[i]? = some x) (hv : Vis X.env.scope x) (hb : Binds X.K fd ps ds) (hd : Vals dvs ds) (hx : Passes CX X E)
    (ha : PA X (e :: es) t) (hdb : (x == ("__debug__" : Str)) = false := by decide) (hcd : (x == ("__classdict__" : Str)) = false := by decide)
    (he : starEach (e :: es) X.env = (false, eval e X.env) :: starEach es X.env := by rfl) (hpl : (backTo pos (starEach es X.env)).any (·.1) = false := by rfl) :
    PE X (.Call (.Name x p) (e :: es) [] pos) (tMakeL i C sp dvs E t) := by
  refine ⟨fun pins s σ H Q I h => ?_⟩
  obtain ⟨hs, ht⟩ := h
  refine wpAny_Call_Name_kw (thn ((pe_var (pos := p) hN hv hdb hcd).run pins s σ H (fun v H1 => v = .ref C ∧ H1 = H) I ⟨.ref C, hs, rfl, rfl⟩) fun u s1 ⟨v, H1, I1, r1, q1⟩ => ?_)
  obtain ⟨rfl, rfl⟩ := q1
  cases r1
  refine PySem.W.callWith_K (h₀ := X.base) I1.ok.mod.kin M.kp (thn (ha.run pos pins s1 σ _ _ I1 ht) fun us s2 ⟨vs, H2, I2, r, q⟩ => ⟨I2.kIn, ?_⟩) he hpl
  exact run_make M F hr hb hd hx I2 r q
end
section
variable {X : Cx} {CX : CXT} {k : Nat} {C p g : Addr} {mc : Value} {sp : Sp} {E : XK} {o : Expr} {m : Str} {pos apos : Pos} {ta : TE} {pl : Sem Bool}
theorem pe_cmeth0 (he : PE X o ta) (r : ClX.CRead X.K C mc) (c : ClX.CMet X.K C mc m p g) (F : FnR X.prog X.w X.K X.mg X.base CX k g sp) (hr : Room k X.A) (hx : Passes CX X E)
    (ht : eval (.Call (.Attribute o m apos) [] [] pos) X.env = (do
      let ov ← eval o X.env
      standAt apos.atName
      let (f, first) ← holding [ov] (getMethod ov m pl)
      callWith pos f first (backTo pos (starEach [] X.env)) (backToKw pos (keywordEach [] X.env))) := by rfl) :
    PE X (.Call (.Attribute o m apos) [] [] pos) (ClX.tCMeth C sp E ta tNil) := by
  refine ⟨fun pins s σ H Q I h => ?_⟩
  refine PySem.W.methodCall_KW (pl := pl) (thn (he.run pins s σ H _ I h) fun u s1 ⟨x, H1, I1, rx, ex, q⟩ => ?_) ht
  subst ex
  obtain rfl : u = Value.ref C := rx
  refine ClX.getmethcm_ok I1 r c fun s2 I2 => ?_
  exact PySem.W.callWith_M0 (first := []) ⟨ClX.pin_at I2, I2.kIn⟩ c.fi (ClX.run_cm (us := []) (vs := []) F hr hx I2 .nil q)
end
end Cm
namespace Cm
open PySem PySem.Spec PyProof.Rows
open L2 hiding Same
/-! ### constants and classmethods of a class -/
def valA (K : PySem.W.Frag) (C : Addr) (mc : Value) (f : Str) : Addr := match PySem.W.findCls K (.ref C) mc f with
  | some (.val (.ref a)) => a
  | _ => 0
def valB (K : PySem.W.Frag) (C : Addr) (mc : Value) (f : Str) : Bool := match PySem.W.findCls K (.ref C) mc f with
  | some (.val (.ref _)) => true
  | _ => false
theorem valB_ok {K : PySem.W.Frag} {C : Addr} {mc : Value} {f : Str} (h : valB K C mc f = true) : ClX.CVal K C mc f (.ref (valA K C mc f)) (.ref (valA K C mc f)) := by
  unfold valB at h
  unfold valA
  split at h
  · rename_i a e
    refine ⟨?_, rfl⟩
    rw [e]
  · cases h
def cmP (K : PySem.W.Frag) (C : Addr) (mc : Value) (m : Str) : Addr := match PySem.W.findCls K (.ref C) mc m with
  | some (.get _ (.ref p) _ _) => p
  | _ => 0
def cmG (K : PySem.W.Frag) (C : Addr) (mc : Value) (m : Str) : Addr := match PySem.W.recIn K (cmP K C mc m) "classmethod" with
  | some (.ref g :: _) => g
  | _ => 0
def cmB (K : PySem.W.Frag) (C : Addr) (mc : Value) (m : Str) : Bool := (match PySem.W.findCls K (.ref C) mc m with
  | some (.get (.builtin b) (.ref _) .none (.ref D)) => b == "classmethod.__get__" && D == C
  | _ => false) && ((match PySem.W.recIn K (cmP K C mc m) "classmethod" with
  | some (.ref _ :: _) => true
  | _ => false) && PySem.W.fnIn K (cmG K C mc m))
theorem cmB_ok {K : PySem.W.Frag} {C : Addr} {mc : Value} {m : Str} (h : cmB K C mc m = true) : ClX.CMet K C mc m (cmP K C mc m) (cmG K C mc m) := by
  unfold cmB at h
  obtain ⟨h1, h⟩ := Bool.and_eq_true_iff.mp h
  obtain ⟨h2, h3⟩ := Bool.and_eq_true_iff.mp h
  refine ⟨?_, ?_, h3⟩
  · unfold cmP
    split at h1
    · rename_i b p D e
      obtain ⟨e1, e2⟩ := Bool.and_eq_true_iff.mp h1
      have e1 := beq_iff_eq.mp e1
      have e2 := beq_iff_eq.mp e2
      subst e1 e2
      rw [e]
    · cases h1
  · unfold cmG
    split at h2
    · rename_i g r e
      rw [e]
      exact ⟨r, rfl⟩
    · cases h2
/-- a tuple of texts -/
def tsB (K : PySem.W.Frag) (a : Addr) (ts : List Str) : Bool := match K.lookup a with
  | some ⟨.type c, _, .seq its _, _⟩ => c == "tuple" && (decide (its.size ≤ sizeLine) && He.relAll (ts.map V.str) its.toList)
  | _ => false
theorem tsB_ok {K : PySem.W.Frag} {a : Addr} {ts : List Str} (h : tsB K a ts = true) (H : Hp) : SqT K H a (ts.map V.str) := by
  unfold tsB at h
  split at h
  · rename_i c d its n sl e
    obtain ⟨h1, h⟩ := Bool.and_eq_true_iff.mp h
    obtain ⟨h2, h3⟩ := Bool.and_eq_true_iff.mp h
    exact .inr ⟨_, its, n, e, congrArg Value.type (beq_iff_eq.mp h1), rfl, of_decide_eq_true h2, He.relAll_ok h3⟩
  · cases h
/-! ### def of(cls, *names) -/
def starB (K : PySem.W.Frag) (f : Addr) (qual : Str) : Bool := match K.lookup f with
  | some ⟨_, _, .func fd, _⟩ => PySem.W.codeIn K fd.code qual && fd.defaults == .none
  | _ => false
theorem star_of {K : PySem.W.Frag} {f : Addr} {x qual : Str} {params : Arguments} {body : List Stmt} {scope : Scope} (w : fnWS K f = some (x, qual, params, FuncBody.stmts body, scope, mainGlobals, [], builtinsNs)) (b : starB K f qual = true) :
    ∃ (oc : Value) (od : Option Addr) (kV doc pm : Value) (an : Option Addr) (cdv ct : Value) (osl : Array (Option Value)), K.lookup f = some ⟨oc, od, .func (PySem.W.fnOf x qual params body scope .none kV doc pm an cdv ct), osl⟩ ∧ PySem.W.codeIn K cdv qual = true := by
  unfold fnWS at w
  unfold starB at b
  cases q : K.lookup f with
  | none => rw [q] at b; cases b
  | some o =>
    obtain ⟨oc, od, dt, osl⟩ := o
    rw [q] at w b
    cases dt with
    | func fd =>
      obtain ⟨n1, n2, n3, n4, n5, n6, n7, n8, n9, n10, n11, n12, n13, n14, n15⟩ := fd
      have e2 : (some (n1, n2, n3, n4, n5, n6, n7.map (·.1), n15) : FnWS) = some (x, qual, params, FuncBody.stmts body, scope, mainGlobals, [], builtinsNs) := w
      simp only [Option.some.injEq, Prod.mk.injEq] at e2
      obtain ⟨h1, h2, h3, h4, h5, h6, h7, h8⟩ := e2
      subst h1 h2 h3 h4 h5 h6 h8
      dsimp only at b
      obtain ⟨b3, b4⟩ := Bool.and_eq_true_iff.mp b
      have b5 := beq_iff_eq.mp b4
      subst b5
      cases n7 with
      | nil => exact ⟨oc, od, n9, n10, n11, n12, n13, n14, osl, rfl, b3⟩
      | cons z n7 => cases h7
    | _ => cases b
def dfN (K : PySem.W.Frag) (f : Addr) : Bool := match K.lookup f with
  | some ⟨_, _, .func fd, _⟩ => fd.defaults == .none
  | _ => false
theorem dfN_ok {K : PySem.W.Frag} {f : Addr} {oc : Value} {od : Option Addr} {fd : FuncData} {osl : Array (Option Value)} (lk : K.lookup f = some ⟨oc, od, .func fd, osl⟩) (h : dfN K f = true) : fd.defaults = .none := by
  unfold dfN at h
  rw [lk] at h
  exact beq_iff_eq.mp h
/-! ### x not in t, of any depth -/
def rNotInT (K : PySem.W.Frag) : R2 := fun x y H Q => ∃ d ds, Dp K H x d ∧ Dp K H y (.tuple ds) ∧ SeqAt.shaped d = true ∧ SeqAt.shaped (.tuple ds) = true ∧ Q (.bl (!ds.any fun z => PyData.eqv z d)) H
theorem op_notInT {X : Cx} (hu : X.A.units + 65 < cLine) : OpR X (compareOp .NotIn) (rNotInT X.K) := by
  intro pins s σ H x y v u Q I rx ry h
  obtain ⟨d, ds, hd, he, sd, se, q⟩ := h
  obtain ⟨as, r1⟩ := Dp.reads I d x v hd rx
  obtain ⟨bs, r2⟩ := Dp.reads I (.tuple ds) y u he ry
  exact SeqAt.notIn_tuple_reads r2 r1 (SeqAt.canLay_of_shaped se) (SeqAt.canLay_of_shaped sd) (room_in_shaped sd hu) ⟨.bl _, H, I, rfl, q⟩
end Cm
namespace Cm
open PySem PySem.Spec PyProof.Rows L2 PySem.W
/-! ### max(ints, default=d) -/
theorem alike_ints (ns : List Int) : AlikeAll (ns.map PyData.int) := by
  constructor
  · intro x hx y hy
    obtain ⟨i, _, rfl⟩ := List.mem_map.mp hx
    obtain ⟨j, _, rfl⟩ := List.mem_map.mp hy
    rfl
  · intro x hx e
    obtain ⟨i, _, rfl⟩ := List.mem_map.mp hx
    cases e
theorem depth_ints : ∀ ns : List Int, PyData.depthAll (ns.map PyData.int) = 0
  | [] => rfl
  | n :: ns => by
    show max (PyData.depth (.int n)) (PyData.depthAll (ns.map PyData.int)) = 0
    rw [depth_ints ns]; rfl
theorem dpAll_ints {K : PySem.W.Frag} {H : Hp} : ∀ ns : List Int, DpAll K H (ns.map V.int) (ns.map PyData.int)
  | [] => .nil
  | n :: ns => .cons (.int n) (dpAll_ints ns)
theorem foldmax (n : Int) : ∀ ns : List Int, ns.foldl max n ∈ n :: ns ∧ ∀ k ∈ n :: ns, k ≤ ns.foldl max n
  | [] => ⟨List.mem_cons_self, fun k hk => by simp at hk; subst hk; exact Int.le_refl _⟩
  | m :: ns => by
    obtain ⟨h1, h2⟩ := foldmax (max n m) ns
    refine ⟨?_, fun k hk => ?_⟩
    · rcases List.mem_cons.mp h1 with e | e
      · rw [List.foldl_cons, e]
        by_cases c : n ≤ m
        · rw [show max n m = m from by omega]; simp
        · rw [show max n m = n from by omega]; simp
      · rw [List.foldl_cons]; exact List.mem_cons_of_mem _ (List.mem_cons_of_mem _ e)
    · rw [List.foldl_cons]
      have h3 := h2 (max n m) List.mem_cons_self
      rcases List.mem_cons.mp hk with e | e
      · omega
      · rcases List.mem_cons.mp e with e | e
        · omega
        · exact h2 k (List.mem_cons_of_mem _ e)
section
variable {X : Cx}
theorem call_maxD (hc : X.calm = true) (hu : X.A.units + 64 < cLine) : CallRK X (.builtin "max") [Str.ofString "default"] (fun vs zs H Q => ∃ (a : Addr) (ns : List Int) (d : V), vs = [V.ref a] ∧ zs = [d] ∧ SqL X.K H a (ns.map V.int) ∧
    (ns = [] → Q d H) ∧ ∀ m, m ∈ ns → (∀ n ∈ ns, n ≤ m) → Q (.int m) H) := by
  intro pins s σ H vs zs us ws Q I r rz h
  obtain ⟨a, ns, d, rfl, rfl, hs, q0, q1⟩ := h
  obtain ⟨u, rfl, e⟩ := vals1 r
  cases (show u = Value.ref a from e)
  obtain ⟨w1, rfl, e1⟩ := vals1 rz
  obtain ⟨its, rv, hl, hz⟩ := I.list hs
  obtain ⟨as, hr⟩ := Dp.readsAll I (ns.map PyData.int) _ its (dpAll_ints ns) rv
  refine max_list_default (vs := its.toArray) (I.ok.hd hc) hl.isList (by simpa using hr) (alike_ints ns) (by rw [depth_ints]; omega) (fun e h' tk k => ?_) (fun y ys i v h' tk bs e hi rd k => ?_)
  · exact ⟨d, H, I.kept k, e1, q0 (by simpa using e)⟩
  · cases ns with
    | nil => cases e
    | cons n ns =>
      obtain ⟨rfl, rfl⟩ : PyData.int n = y ∧ ns.map PyData.int = ys := by simpa using e
      rw [maxD_ints] at rd
      obtain ⟨m1, m2⟩ := foldmax n ns
      cases rd with
      | int _ t => exact ⟨.int (ns.foldl max n), H, I.kept k, ⟨t, rfl⟩, q1 _ m1 m2⟩
end
/-! ### heaps -/
def Same (H H' : Hp) : Prop := ∀ a o, H a = some o → H' a = some o
theorem Same.refl (H : Hp) : Same H H := fun _ _ h => h
theorem Same.trans {H H1 H2 : Hp} (a : Same H H1) (b : Same H1 H2) : Same H H2 := fun c o h => b c o (a c o h)
theorem Same.new {H : Hp} {p : Addr} {o : HO} (h : H p = none) : Same H (upd H p o) := fun c u e => by rw [upd_ne (ne_of_none e h)]; exact e
theorem Same.mut {H H' : Hp} {p : Addr} {o : HO} (s : Same H H') (h : H p = none) : Same H (upd H' p o) := fun c u e => by rw [upd_ne (ne_of_none e h)]; exact s c u e
theorem Same.free {H H' : Hp} {p : Addr} (s : Same H H') (h : H' p = none) : H p = none := by
  cases e : H p with
  | none => rfl
  | some o => rw [s _ _ e] at h; cases h
theorem Same.kp {H H' : Hp} {p : Addr} (s : Same H H') : Kp p H H' := fun a o _ h => s a o h
theorem Same.sl {K : PySem.W.Frag} {a : Addr} {H H' : Hp} {xs : List V} (k : Same H H') (h : SqL K H a xs) : SqL K H' a xs :=
  h.elim (fun h => .inl (h.elim (fun h => .inl (k _ _ h)) fun ⟨o, h⟩ => .inr ⟨o, k _ _ h⟩)) .inr
theorem kmut {H H' : Hp} {p q : Addr} {o : HO} (s : Kp p H H') (h : H q = none) : Kp p H (upd H' q o) := fun c u n e => by rw [upd_ne (ne_of_none e h)]; exact s c u n e
theorem kfree {H H' : Hp} {p q : Addr} (s : Kp p H H') (n : q ≠ p) (h : H' q = none) : H q = none := by
  cases e : H q with
  | none => rfl
  | some o => rw [s _ _ n e] at h; cases h
def IntOk (i : Int) : Prop := i.natAbs ≤ 4000000000
theorem io {m : Int} (h : m.natAbs ≤ 4000000000) : IntOk m := h
/-! ### the pool -/
def PoolAt (K : PySem.W.Frag) (sa : Addr) (sx : List Int) (H : Hp) (p : Addr) : Prop :=
  ∃ (i b s : Int), H p = some (.lst [V.ref sa, V.int i, V.int b, V.int s]) ∧ (sa ≠ p ∨ ∀ H', SqL K H' sa (sx.map V.int)) ∧ SqL K H sa (sx.map V.int) ∧ 0 ≤ i ∧ 0 ≤ b ∧ 0 ≤ s ∧ s < 2147483647
section
variable {K : PySem.W.Frag} {sa : Addr} {sx : List Int}
theorem pool_new {H : Hp} {p q : Addr} {o : HO} (hP : PoolAt K sa sx H p) (hq : H q = none) : PoolAt K sa sx (upd H q o) p := by
  obtain ⟨i, b, s, hp, na, hS, r⟩ := hP
  refine ⟨i, b, s, ?_, na, ?_, r⟩
  · rw [upd_ne (ne_of_none hp hq)]; exact hp
  · exact na.elim (fun n => Kp.sl (p := p) (Kp.refl.new hq) n hS) (fun z => z _)
theorem pool_ne {H : Hp} {p q : Addr} (hP : PoolAt K sa sx H p) (hq : H q = none) : q ≠ p := by
  obtain ⟨i, b, s, hp, _⟩ := hP
  exact (ne_of_none hp hq).symm
theorem sq_new {H : Hp} {a q : Addr} {xs : List V} (h : SqL K H a xs) (hq : H q = none) : a ≠ q ∨ ∀ H', SqL K H' a xs :=
  h.elim (fun r => .inl (r.elim (fun e => ne_of_none e hq) fun ⟨o, e⟩ => ne_of_none e hq)) fun r => .inr fun H' => .inr r
theorem pool_fresh {H : Hp} {p q : Addr} (hP : PoolAt K sa sx H p) (hq : H q = none) : sa ≠ q ∨ ∀ H', SqL K H' sa (sx.map V.int) := by
  obtain ⟨_, _, _, _, _, hS, _⟩ := hP
  exact sq_new hS hq
theorem pool_upd {H : Hp} {p D : Addr} {o : HO} (hP : PoolAt K sa sx H p) (nD : D ≠ p) (hd : sa ≠ D ∨ ∀ H', SqL K H' sa (sx.map V.int)) : PoolAt K sa sx (upd H D o) p := by
  obtain ⟨i, b, s, hp, na, hS, r⟩ := hP
  refine ⟨i, b, s, (upd_ne nD.symm).trans hp, na, ?_, r⟩
  rcases hd with n | z
  · refine hS.elim (fun q => .inl ?_) .inr
    exact q.elim (fun e => .inl ((upd_ne n).trans e)) fun ⟨o', e⟩ => .inr ⟨o', (upd_ne n).trans e⟩
  · exact z _
theorem pool_same {H H' : Hp} {p : Addr} (hP : PoolAt K sa sx H p) (s : Same H H') : PoolAt K sa sx H' p := by
  obtain ⟨i, b, s', hp, na, hS, r⟩ := hP
  exact ⟨i, b, s', s _ _ hp, na, s.sl hS, r⟩
/-- a list of ints is not the pool -/
theorem pool_int {H : Hp} {p a : Addr} {ns : List Int} (hP : PoolAt K sa sx H p) (ha : H a = some (.lst (ns.map V.int))) : a ≠ p := by
  rintro rfl
  obtain ⟨i, b, s, hp, _⟩ := hP
  rw [ha] at hp
  cases ns with
  | nil => cases hp
  | cons n ns => cases hp
theorem pool_tup {H : Hp} {p a : Addr} {xs : List V} (hP : PoolAt K sa sx H p) (ha : H a = some (.tup xs)) : a ≠ p := by
  rintro rfl
  obtain ⟨i, b, s, hp, _⟩ := hP
  rw [ha] at hp
  cases hp
theorem wd {m : Int} (h0 : 0 < m) (h : IntOk m) : CDivW 0 m := wide_div h0 (b := 40) (Nat.lt_of_le_of_lt h (by decide)) (by decide) (by decide)
end
/-! ### ints in lists -/
theorem at_int {ns : List Int} {i : Nat} (h : i < ns.length) : atI (ns.map V.int) ((i : Nat) : Int) = some (.int ns[i]) := atI_nat (by rw [List.getElem?_map, List.getElem?_eq_getElem h]; rfl)
theorem at_int' {ns : List Int} {k : Int} (h0 : 0 ≤ k) (h : k.toNat < ns.length) : atI (ns.map V.int) k = some (.int ns[k.toNat]) := by
  have e : k = ((k.toNat : Nat) : Int) := by omega
  exact (congrArg (atI (ns.map V.int)) e).trans (at_int h)
theorem map_at {ns : List Int} {i : Nat} {x : V} (h : (ns.map V.int)[i]? = some x) : ∃ hi : i < ns.length, x = .int ns[i] := by
  rw [List.getElem?_map] at h
  cases e : ns[i]? with
  | none => rw [e] at h; cases h
  | some n =>
    rw [e] at h
    obtain ⟨hi, e2⟩ := List.getElem?_eq_some_iff.mp e
    exact ⟨hi, by rw [e2]; exact (Option.some.inj h).symm⟩
theorem flat_ints (ns : List Int) : (ns.map V.int).all flatV = true := by
  rw [List.all_eq_true]
  intro x hx
  obtain ⟨i, _, rfl⟩ := List.mem_map.mp hx
  rfl
theorem inV_ints (n : Int) (ns : List Int) : inV (.int n) (ns.map V.int) = decide (n ∈ ns) := by
  unfold inV
  rw [List.any_map]
  apply Bool.eq_iff_iff.mpr
  rw [List.any_eq_true, decide_eq_true_iff]
  exact ⟨fun ⟨x, hx, e⟩ => by have e2 : x = n := by simpa [eqV] using e
                              subst e2; exact hx, fun h => ⟨n, h, by simp [eqV]⟩⟩
theorem tru_ints {K : PySem.W.Frag} {H : Hp} {a : Addr} {ns : List Int} (h : H a = some (.lst (ns.map V.int))) : TruV K (.ref a) H (!ns.isEmpty) :=
  .inl ⟨_, SqL.of h, by cases ns <;> rfl⟩
/-- a test by a list's truth -/
theorem lC {ns : List Int} {A B : Prop} (hT : ns ≠ [] → A) (hF : ns = [] → B) : if (!ns.isEmpty) = true then A else B := by
  cases ns with
  | nil => exact iteF (hF rfl)
  | cons n ns => exact iteT (hT (by simp))
end Cm
namespace Cm
open PySem PySem.Spec PyProof.Rows
open L2 hiding Same
theorem u65 {k : Nat} {A : Around} (r : Room k A) : A.units + 65 < cLine := by have := r.un; omega
theorem pe_cal0 {X : Cx} {j k : Nat} {x : Str} {sp : Sp} {p pos : Pos} (c : Cal X.prog X.w X.K X.mg X.base k x sp) (hr : Room j X.A) (hk : k ≤ j) (hg : Gl X x := by rfl) (hd : (x == ("__debug__" : Str)) = false := by decide) :
    PE X (.Call (.Name x p) [] [] pos) (tCall sp [] E0 tNil) := by
  obtain ⟨f, fd, ps, F, b, g, kp⟩ := c
  exact pe_call0 F (hr.mono hk) hg g kp b .nil pass0 hd
/-! ### a walk over a list or a tuple -/
theorem PI.or2 {X : Cx} {tg iter : Expr} {t1 t2 : TI} (h1 : PI X tg iter t1) (h2 : PI X tg iter t2) : PI X tg iter (fun σ H R => t1 σ H R ∨ t2 σ H R) :=
  ⟨fun pins s σ H R I h => h.elim (h1.run pins s σ H R I) (h2.run pins s σ H R I)⟩
def iSeq (K : PySem.W.Frag) (tl : TE) : TI := fun σ H R => iList K tl σ H R ∨ iTup K tl σ H R
theorem pi_seq {X : Cx} {tg l : Expr} {tl : TE} (hl : PE X l tl) : PI X tg l (iSeq X.K tl) := PI.or2 (pi_list hl) (pi_tup hl)
def Sq (K : PySem.W.Frag) (H : Hp) (a : Addr) (xs : List V) : Prop := SqL K H a xs ∨ SqT K H a xs
theorem for_seq {K : PySem.W.Frag} {a : Addr} {xs : List V} {g : TG} {tb : TS} {tl : TE} {D : Ends} {σ : L2.St} {H : Hp} (e : ∀ Q : VK, Q (.ref a) H → tl σ H Q) (hn : Sq K H a xs) (Pv : Nat → L2.St → Hp → Prop) (h0 : Pv 0 σ H)
    (hl : ∀ i σ H', i ≤ xs.length → Pv i σ H' → (SqL K H a xs → SqL K H' a xs) ∧ (SqT K H a xs → SqT K H' a xs))
    (hs : ∀ i x σ H, xs[i]? = some x → Pv i σ H → g x σ H fun σ2 H2 => tb { D with nx := Pv (i + 1), ct := Pv (i + 1), bk := D.nx } σ2 H2) (hd : ∀ σ H, Pv xs.length σ H → D.nx σ H) : tFor (iSeq K tl) g tb D σ H := by
  rcases hn with hn | hn
  · exact .inl (e _ ⟨a, rfl, ⟨xs, hn⟩, for_list Pv h0 (fun i σ H' hi p => (hl i σ H' hi p).1 hn) hs hd⟩)
  · exact .inr (e _ ⟨a, rfl, ⟨xs, hn⟩, for_tup Pv h0 (fun i σ H' hi p => (hl i σ H' hi p).2 hn) hs hd⟩)
theorem Same.st {K : PySem.W.Frag} {a : Addr} {H H' : Hp} {xs : List V} (k : Same H H') (h : SqT K H a xs) : SqT K H' a xs :=
  h.elim (fun h => .inl (h.elim (fun h => .inl (k _ _ h)) fun ⟨o, h⟩ => .inr ⟨o, k _ _ h⟩)) .inr
theorem Sq.same {K : PySem.W.Frag} {a : Addr} {H H' : Hp} {xs : List V} (h : Sq K H a xs) (k : Same H H') : Sq K H' a xs := h.elim (fun h => .inl (k.sl h)) fun h => .inr (k.st h)
/-! ### texts in lists -/
theorem flat_strs (ts : List Str) : (ts.map V.str).all flatV = true := by
  rw [List.all_eq_true]
  intro x hx
  obtain ⟨i, _, rfl⟩ := List.mem_map.mp hx
  rfl
theorem inV_strs (n : Str) (ts : List Str) : inV (.str n) (ts.map V.str) = decide (n ∈ ts) := by
  unfold inV
  rw [List.any_map]
  apply Bool.eq_iff_iff.mpr
  rw [List.any_eq_true, decide_eq_true_iff]
  exact ⟨fun ⟨x, hx, e⟩ => by have e2 : x = n := by simpa [eqV] using e
                              subst e2; exact hx, fun h => ⟨n, h, by simp [eqV]⟩⟩
theorem strs_at {ts : List Str} {i : Nat} {x : V} (h : (ts.map V.str)[i]? = some x) : ∃ hi : i < ts.length, x = .str ts[i] := by
  rw [List.getElem?_map] at h
  cases e : ts[i]? with
  | none => rw [e] at h; cases h
  | some n =>
    rw [e] at h
    obtain ⟨hi, e2⟩ := List.getElem?_eq_some_iff.mp e
    exact ⟨hi, by rw [e2]; exact (Option.some.inj h).symm⟩
theorem take_filter {ts : List Str} {p : Str → Bool} {i : Nat} (hi : i < ts.length) : (ts.take (i + 1)).filter p = if p ts[i] = true then (ts.take i).filter p ++ [ts[i]] else (ts.take i).filter p := by
  rw [List.take_add_one, List.getElem?_eq_getElem hi]
  show ((ts.take i) ++ [ts[i]]).filter p = _
  rw [List.filter_append]
  by_cases h : p ts[i] = true
  · rw [if_pos h, List.filter_cons_of_pos h, List.filter_nil]
  · rw [if_neg h, List.filter_cons_of_neg h, List.filter_nil, List.append_nil]
theorem filt_len {ts : List Str} {p : Str → Bool} {i n : Nat} (h : ts.length ≤ n) : ((ts.take i).filter p).length ≤ n := by
  have := List.length_filter_le p (ts.take i)
  have := List.length_take_le' i ts
  omega
theorem dp_strs {K : PySem.W.Frag} {H : Hp} : ∀ ts : List Str, DpAll K H (ts.map V.str) (ts.map PyData.str)
  | [] => .nil
  | n :: ns => .cons (.str n) (dp_strs ns)
theorem shp_strAll : ∀ ts : List Str, (∀ z ∈ ts, PyData.strOk z = true) → PyData.canLayAll0 (ts.map PyData.str) = true ∧ PyData.depthAll (ts.map PyData.str) = 0
  | [], _ => ⟨rfl, rfl⟩
  | n :: ns, hk => by
    obtain ⟨h1, h2⟩ := shp_strAll ns fun z hz => hk z (List.mem_cons_of_mem _ hz)
    exact ⟨by show (PyData.canLay0 (.str n) && PyData.canLayAll0 (ns.map PyData.str)) = true; rw [h1]; simp [PyData.canLay0, hk n List.mem_cons_self], by show max (PyData.depth (.str n)) (PyData.depthAll (ns.map PyData.str)) = 0; rw [h2]; rfl⟩
theorem shp_str {z : Str} (h : PyData.strOk z = true) : SeqAt.shaped (.str z) = true := by
  show ((PyData.str z).canLay0 && decide ((PyData.str z).depth ≤ 64)) = true
  simp [PyData.canLay0, PyData.depth, h]
theorem shp_strs {ts : List Str} (hk : ∀ z ∈ ts, PyData.strOk z = true) : SeqAt.shaped (.list (ts.map PyData.str)) = true := by
  obtain ⟨h1, h2⟩ := shp_strAll ts hk
  show ((PyData.list (ts.map PyData.str)).canLay0 && decide ((PyData.list (ts.map PyData.str)).depth ≤ 64)) = true
  simp only [PyData.canLay0, PyData.depth, h1, h2, Bool.true_and, decide_eq_true_eq]
  omega
theorem shp_strsT {ts : List Str} (hk : ∀ z ∈ ts, PyData.strOk z = true) : SeqAt.shaped (.tuple (ts.map PyData.str)) = true := by
  obtain ⟨h1, h2⟩ := shp_strAll ts hk
  show ((PyData.tuple (ts.map PyData.str)).canLay0 && decide ((PyData.tuple (ts.map PyData.str)).depth ≤ 64)) = true
  simp only [PyData.canLay0, PyData.depth, h1, h2, Bool.true_and, decide_eq_true_eq]
  omega
theorem eqvA_strs : ∀ xs ys : List Str, PyData.eqvAll (xs.map PyData.str) (ys.map PyData.str) = decide (xs = ys)
  | [], [] => by simp [PyData.eqvAll]
  | [], y :: ys => by simp [PyData.eqvAll]
  | x :: xs, [] => by simp [PyData.eqvAll]
  | x :: xs, y :: ys => by
    have h := eqvA_strs xs ys
    show (PyData.eqv (.str x) (.str y) && PyData.eqvAll (xs.map PyData.str) (ys.map PyData.str)) = _
    rw [h]
    have e : PyData.eqv (.str x) (.str y) = decide (x = y) := by
      simp only [PyData.eqv]
      by_cases h : x = y <;> simp [h]
    rw [e]
    by_cases h1 : x = y <;> by_cases h2 : xs = ys <;> simp [h1, h2]
theorem eqv_strs (xs ys : List Str) : PyData.eqv (.list (xs.map PyData.str)) (.list (ys.map PyData.str)) = decide (xs = ys) := by
  simp only [PyData.eqv]; exact eqvA_strs xs ys
theorem eqv_strsT (xs ys : List Str) : PyData.eqv (.tuple (xs.map PyData.str)) (.tuple (ys.map PyData.str)) = decide (xs = ys) := by
  simp only [PyData.eqv]; exact eqvA_strs xs ys
theorem any_strs (n : Str) (ts : List Str) : ((ts.map PyData.str).any fun z => PyData.eqv z (.str n)) = decide (n ∈ ts) := by
  rw [List.any_map]
  apply Bool.eq_iff_iff.mpr
  rw [List.any_eq_true, decide_eq_true_iff]
  have e : ∀ x, PyData.eqv (.str x) (.str n) = decide (x = n) := fun x => by
    simp only [PyData.eqv]
    by_cases h : x = n <;> simp [h]
  exact ⟨fun ⟨x, hx, q⟩ => by
    have q2 : x = n := by
      have := q
      simp only [Function.comp, e, decide_eq_true_eq] at this
      exact this
    subst q2; exact hx, fun h => ⟨n, h, by simp only [Function.comp, e, decide_true]⟩⟩
end Cm
namespace Cm
open PySem PySem.Spec PyProof.Rows
open L2 hiding Same
section
variable {X : Cx} {j k : Nat} {m : Str} {C : Addr} {sp : Sp} {e o : Expr} {es : List Expr} {pos apos : Pos} {t : TA} {ta : TE}
theorem pe_mcalA {pl : Sem Bool} (c : MCal X.prog X.w X.K X.mg X.base k C m sp) (hr : Room j X.A) (hk : k ≤ j) (ho : PE X o ta) (ha : PA X (e :: es) t)
    (hst : starEach (e :: es) X.env = (false, eval e X.env) :: starEach es X.env := by rfl) (hpl : (backTo pos (starEach es X.env)).any (·.1) = false := by rfl)
    (ht : eval (.Call (.Attribute o m apos) (e :: es) [] pos) X.env = (do
      let ov ← eval o X.env
      standAt apos.atName
      let (f, first) ← holding [ov] (getMethod ov m pl)
      callWith pos f first (backTo pos (starEach (e :: es) X.env)) (backToKw pos (keywordEach [] X.env))) := by rfl) : PE X (.Call (.Attribute o m apos) (e :: es) [] pos) (tMeth C m sp [] E0 ta t) := by
  obtain ⟨cl, f, fd, ps, F, b, M⟩ := c
  exact pe_meth (pl := pl) ho cl M F (hr.mono hk) b .nil pass0 ha hst hpl ht
/-- x == t, by x's own __eq__, t a tuple -/
def rOwnGT (P : Program) (w : World) (K : PySem.W.Frag) (mg : Str → Option Value) (base : Heap) (k : Nat) : R2 := fun x y H Q =>
  ∃ a C dx fs sp t xs, x = .ref a ∧ y = .ref t ∧ H a = some (.ins C dx fs) ∧ SqT K H t xs ∧ MCal P w K mg base k C "__eq__" sp ∧ PySem.W.notFirst K C (.type "tuple") = true ∧ sp [x, y] H Q E0
theorem op_ownGT (hr : Room j X.A) (hk : k ≤ j) : OpR X (compareOp .Eq) (rOwnGT X.prog X.w X.K X.mg X.base k) := by
  intro pins s σ H x y v u Q I rx ry h
  obtain ⟨a, C, dx, fs, sp, t, xs, ex, ey, ha, ht, ⟨c, f, fd, ps, F, b, M⟩, hn, q⟩ := h
  subst ex ey
  cases (show v = Value.ref a from rx)
  cases (show u = Value.ref t from ry)
  obtain ⟨mA, O, _⟩ := ins_get I.hok ha
  obtain ⟨od, J, _⟩ := O.look
  obtain ⟨mm, hF⟩ := I.fr
  obtain ⟨its, rv, ⟨o, ho, hc, _⟩, _⟩ := I.tuple ht
  have hb : PySem.W.Looks (model X.prog X.w) s.heap (typeOf (.ref t)) (.type "tuple") := by
    have z := (PySem.W.Looks.ld (M := model X.prog X.w) (part := none) ho)
    intro A Q E s k q
    exact wpAny_typeOf_ref (k _ _ ho) (by rw [hc]; exact q)
  show wpAny _ X.A (richCompare .Eq (.ref a) (.ref t)) _ _ s
  refine PySem.W.cmp_K (op := .Eq) hr.units0 hF I.ok.mod.kin J hb hn M.at_ M.fn ?_
  refine wpAny_mono (run_fn (us := [.ref a, .ref t]) (vs := [.ref a, .ref t]) F (hr.mono hk) b .nil pass0 I (.cons rfl (.cons rfl .nil)) q) ?_ fun _ _ z => z
  rintro r s' ⟨z, H', I', rz, qz⟩
  exact SlX.cmpback rz ⟨z, H', I', rz, qz⟩
end
theorem cutT (xs : List V) (c : Nat) : cutV xs none (some (c : Int)) = xs.take c := by
  unfold cutV
  rw [HT.sIx_none, HT.sIx_nat, List.drop_zero, Nat.sub_zero]
  by_cases h : c ≤ xs.length
  · rw [Nat.min_eq_left h]
  · rw [Nat.min_eq_right (by omega), List.take_length, List.take_of_length_le (by omega)]
theorem cutD (xs : List V) (c : Nat) : cutV xs (some (c : Int)) none = xs.drop c := by
  unfold cutV
  rw [HT.sIx_none, HT.sIx_nat]
  by_cases h : c ≤ xs.length
  · rw [Nat.min_eq_left h, List.take_of_length_le (by rw [List.length_drop]; omega)]
  · rw [Nat.min_eq_right (by omega), Nat.sub_self, List.take_zero, List.drop_of_length_le (by omega)]
end Cm
namespace Cm
open PySem PySem.Spec PyProof.Rows L2
/-! ### patterns -/
inductive En
  | k (v : Int)
  | n (i : Nat)
  deriving DecidableEq
def En.vs : En → List V
  | .k v => [.str "kept", .int v]
  | .n i => [.str "new", .int (i : Int)]
def En.ds : En → List PyData
  | .k v => [.str "kept", .int v]
  | .n i => [.str "new", .int (i : Int)]
def pat (kept : List Int) : List Int → List Int → List En
  | _, [] => []
  | s, v :: vs => if v ∈ kept then .k v :: pat kept s vs else if v ∈ s then .n (s.idxOf v) :: pat kept s vs else .n s.length :: pat kept (s ++ [v]) vs
theorem pat_k {kept s : List Int} {v : Int} {vs : List Int} (h : v ∈ kept) : pat kept s (v :: vs) = .k v :: pat kept s vs := by rw [pat, if_pos h]
theorem pat_o {kept s : List Int} {v : Int} {vs : List Int} (h : v ∉ kept) (h2 : v ∈ s) : pat kept s (v :: vs) = .n (s.idxOf v) :: pat kept s vs := by rw [pat, if_neg h, if_pos h2]
theorem pat_n {kept s : List Int} {v : Int} {vs : List Int} (h : v ∉ kept) (h2 : v ∉ s) : pat kept s (v :: vs) = .n s.length :: pat kept (s ++ [v]) vs := by rw [pat, if_neg h, if_neg h2]
theorem pat_len (kept : List Int) : ∀ (xs s : List Int), (pat kept s xs).length = xs.length
  | [], _ => rfl
  | v :: vs, s => by
    by_cases h : v ∈ kept
    · rw [pat_k h, List.length_cons, pat_len kept vs s, List.length_cons]
    · by_cases h2 : v ∈ s
      · rw [pat_o h h2, List.length_cons, pat_len kept vs s, List.length_cons]
      · rw [pat_n h h2, List.length_cons, pat_len kept vs _, List.length_cons]
theorem pat_congr {k1 k2 : List Int} (h : ∀ v, v ∈ k1 ↔ v ∈ k2) : ∀ (xs s : List Int), pat k1 s xs = pat k2 s xs
  | [], _ => rfl
  | v :: vs, s => by
    by_cases h1 : v ∈ k1
    · rw [pat_k h1, pat_k ((h v).mp h1), pat_congr h vs s]
    · have h2 : v ∉ k2 := fun z => h1 ((h v).mpr z)
      by_cases h3 : v ∈ s
      · rw [pat_o h1 h3, pat_o h2 h3, pat_congr h vs s]
      · rw [pat_n h1 h3, pat_n h2 h3, pat_congr h vs _]
/-! ### first places -/
theorem idx_lt {v : Int} {s : List Int} (h : v ∈ s) : s.idxOf v < s.length := List.idxOf_lt_length_of_mem h
theorem idx_at {v : Int} {s : List Int} (h : v ∈ s) : s[s.idxOf v]'(idx_lt h) = v := List.getElem_idxOf (idx_lt h)
theorem idx_before {v : Int} : ∀ {s : List Int} {m : Nat} (hm : m < s.length), m < s.idxOf v → s[m] ≠ v
  | [], m, hm, _ => absurd hm (Nat.not_lt_zero _)
  | x :: s, m, hm, h => by
    rw [List.idxOf_cons] at h
    by_cases e : x = v
    · subst e; simp at h
    · have e2 : (x == v) = false := beq_false_of_ne e
      rw [e2] at h
      cases m with
      | zero => exact e
      | succ m =>
        rw [List.getElem_cons_succ]
        exact idx_before (by simpa using hm) (by simpa using h)
theorem idx_append {v : Int} {s : List Int} (h : v ∉ s) : (s ++ [v]).idxOf v = s.length := by
  induction s with
  | nil => simp
  | cons x s ih =>
    have h1 : x ≠ v := fun e => h (e ▸ List.mem_cons_self)
    have h2 : v ∉ s := fun e => h (List.mem_cons_of_mem _ e)
    rw [List.cons_append, List.idxOf_cons, beq_false_of_ne h1]
    simp [ih h2]
theorem idx_nodup {s : List Int} (nd : s.Nodup) {i : Nat} (h : i < s.length) : s.idxOf s[i] = i := by
  have hm := List.getElem_mem h
  have h1 := idx_lt hm
  have h2 := idx_at hm
  by_cases c : s.idxOf s[i] = i
  · exact c
  · exact absurd h2 (by
      have := List.pairwise_iff_getElem.mp nd
      rcases Nat.lt_or_gt_of_ne c with l | l
      · exact this _ _ h1 h l
      · exact (this _ _ h h1 l).symm)
/-! ### when two patterns are equal -/
abbrev g (l : List Int) (k : Nat) : Int := l.getD k 0
theorem g_at {l : List Int} {k : Nat} (h : k < l.length) : g l k = l[k] := by
  show l.getD k 0 = _
  rw [List.getD_eq_getElem?_getD, List.getElem?_eq_getElem h]; rfl
theorem g_mem {l : List Int} {k : Nat} (h : k < l.length) : g l k ∈ l := by rw [g_at h]; exact List.getElem_mem h
def Alk (kept s1 s2 xs ys : List Int) : Prop := ∀ k < xs.length, ((g xs k ∈ kept ∨ g ys k ∈ kept) → g xs k = g ys k) ∧ (∀ i < s1.length, (g xs k = g s1 i ↔ g ys k = g s2 i)) ∧ ∀ j < k, (g xs k = g xs j ↔ g ys k = g ys j)
theorem g_app1 {s : List Int} {x : Int} {i : Nat} (h : i < s.length) : g (s ++ [x]) i = g s i := by
  rw [g_at (by rw [List.length_append]; exact Nat.lt_add_right _ h), g_at h, List.getElem_append_left h]
theorem g_app2 {s : List Int} {x : Int} : g (s ++ [x]) s.length = x := by
  rw [g_at (by simp)]; simp
theorem alk_cons {kept s1 s2 xs ys : List Int} {x y : Int} (hl : s1.length = s2.length) :
    Alk kept s1 s2 (x :: xs) (y :: ys) ↔ (((x ∈ kept ∨ y ∈ kept) → x = y) ∧ ∀ i < s1.length, (x = g s1 i ↔ y = g s2 i)) ∧ Alk kept (s1 ++ [x]) (s2 ++ [y]) xs ys := by
  constructor
  · intro h
    obtain ⟨a, b, _⟩ := h 0 (Nat.zero_lt_succ _)
    refine ⟨⟨a, b⟩, fun k hk => ?_⟩
    obtain ⟨a2, b2, c2⟩ := h (k + 1) (Nat.succ_lt_succ hk)
    refine ⟨a2, fun i hi => ?_, fun j hj => c2 (j + 1) (Nat.succ_lt_succ hj)⟩
    rw [List.length_append] at hi
    by_cases c : i < s1.length
    · rw [g_app1 c, g_app1 (hl ▸ c)]; exact b2 i c
    · have e : i = s1.length := by simp at hi; omega
      subst e
      rw [g_app2, show g (s2 ++ [y]) s1.length = y from by rw [hl]; exact g_app2]
      exact c2 0 (Nat.zero_lt_succ _)
  · rintro ⟨⟨a, b⟩, h⟩ k hk
    cases k with
    | zero => exact ⟨a, b, fun j hj => absurd hj (Nat.not_lt_zero _)⟩
    | succ k =>
      obtain ⟨a2, b2, c2⟩ := h k (Nat.lt_of_succ_lt_succ hk)
      refine ⟨a2, fun i hi => ?_, fun j hj => ?_⟩
      · have z := b2 i (by rw [List.length_append]; exact Nat.lt_add_right _ hi)
        rw [g_app1 hi, g_app1 (hl ▸ hi)] at z; exact z
      · cases j with
        | zero =>
          have z := b2 s1.length (by simp)
          rw [g_app2, show g (s2 ++ [y]) s1.length = y from by rw [hl]; exact g_app2] at z
          exact z
        | succ j => exact c2 j (Nat.lt_of_succ_lt_succ hj)
/-- one more seen value that says nothing new -/
theorem alk_drop {kept s1 s2 xs ys : List Int} {x y : Int} (hl : s1.length = s2.length) (h : ∀ k < xs.length, ((g xs k ∈ kept ∨ g ys k ∈ kept) → g xs k = g ys k) → (∀ i < s1.length, (g xs k = g s1 i ↔ g ys k = g s2 i)) → (g xs k = x ↔ g ys k = y)) :
    Alk kept (s1 ++ [x]) (s2 ++ [y]) xs ys ↔ Alk kept s1 s2 xs ys := by
  constructor
  · intro q k hk
    obtain ⟨a, b, c⟩ := q k hk
    refine ⟨a, fun i hi => ?_, c⟩
    have z := b i (by rw [List.length_append]; exact Nat.lt_add_right _ hi)
    rw [g_app1 hi, g_app1 (hl ▸ hi)] at z; exact z
  · intro q k hk
    obtain ⟨a, b, c⟩ := q k hk
    refine ⟨a, fun i hi => ?_, c⟩
    rw [List.length_append] at hi
    by_cases d : i < s1.length
    · rw [g_app1 d, g_app1 (hl ▸ d)]; exact b i d
    · have e : i = s1.length := by simp at hi; omega
      subst e
      rw [g_app2, show g (s2 ++ [y]) s1.length = y from by rw [hl]; exact g_app2]
      exact h k hk a b
theorem nodup_app {s : List Int} {x : Int} (nd : s.Nodup) (h : x ∉ s) : (s ++ [x]).Nodup := by
  rw [List.nodup_append]
  exact ⟨nd, by simp, fun a ha b hb => by simp at hb; subst hb; exact fun e => h (e ▸ ha)⟩
theorem pat_eq (kept : List Int) : ∀ (xs ys s1 s2 : List Int), xs.length = ys.length → s1.length = s2.length → s1.Nodup → s2.Nodup → (∀ v ∈ s1, v ∉ kept) → (∀ v ∈ s2, v ∉ kept) → (pat kept s1 xs = pat kept s2 ys ↔ Alk kept s1 s2 xs ys)
  | [], [], s1, s2, _, _, _, _, _, _ => ⟨fun _ k hk => absurd hk (Nat.not_lt_zero _), fun _ => rfl⟩
  | [], _ :: _, _, _, h, _, _, _, _, _ => by cases h
  | _ :: _, [], _, _, h, _, _, _, _, _ => by cases h
  | x :: xs, y :: ys, s1, s2, hxy, hl, n1, n2, d1, d2 => by
    have hxy' : xs.length = ys.length := by simpa using hxy
    have ih := pat_eq kept xs ys s1 s2 hxy' hl n1 n2 d1 d2
    rw [alk_cons hl]
    by_cases hx : x ∈ kept
    · by_cases hy : y ∈ kept
      · rw [pat_k hx, pat_k hy]
        constructor
        · intro e
          injection e with e1 e2
          injection e1 with e1
          refine ⟨⟨fun _ => e1, fun i hi => ⟨fun z => ?_, fun z => ?_⟩⟩, (alk_drop hl fun k hk a b => ⟨fun z => ?_, fun z => ?_⟩).mpr (ih.mp e2)⟩
          · exact absurd hx (by rw [z]; exact d1 _ (g_mem hi))
          · exact absurd hy (by rw [z]; exact d2 _ (g_mem (hl ▸ hi)))
          · rw [← a (.inl (by rw [z]; exact hx)), z, e1]
          · rw [a (.inr (by rw [z]; exact hy)), z, e1]
        · rintro ⟨⟨a, b⟩, q⟩
          have e1 := a (.inl hx)
          have q2 := (alk_drop hl fun k hk a b => ⟨fun z => by rw [← a (.inl (by rw [z]; exact hx)), z, e1], fun z => by rw [a (.inr (by rw [z]; exact hy)), z, e1]⟩).mp q
          rw [ih.mpr q2, e1]
      · constructor
        · intro e
          rw [pat_k hx] at e
          by_cases h2 : y ∈ s2
          · rw [pat_o hy h2] at e; injection e with e1; cases e1
          · rw [pat_n hy h2] at e; injection e with e1; cases e1
        · rintro ⟨⟨a, _⟩, _⟩
          exact absurd (a (.inl hx) ▸ hx) hy
    · by_cases hy : y ∈ kept
      · constructor
        · intro e
          rw [pat_k hy] at e
          by_cases h2 : x ∈ s1
          · rw [pat_o hx h2] at e; injection e with e1; cases e1
          · rw [pat_n hx h2] at e; injection e with e1; cases e1
        · rintro ⟨⟨a, _⟩, _⟩
          exact absurd (a (.inr hy) ▸ hy) hx
      · have hk : (x ∈ kept ∨ y ∈ kept) → x = y := fun z => z.elim (fun z => absurd z hx) fun z => absurd z hy
        by_cases h1 : x ∈ s1
        · have l1 := idx_lt h1
          have a1 := idx_at h1
          by_cases h2 : y ∈ s2
          · have l2 := idx_lt h2
            have a2 := idx_at h2
            rw [pat_o hx h1, pat_o hy h2]
            have dr : (∀ i < s1.length, (x = g s1 i ↔ y = g s2 i)) → (Alk kept (s1 ++ [x]) (s2 ++ [y]) xs ys ↔ Alk kept s1 s2 xs ys) := fun b => alk_drop hl fun k hk a c => by
              have z := c _ l1
              have e1 : g s1 (s1.idxOf x) = x := by rw [g_at l1, a1]
              have e2 : g s2 (s1.idxOf x) = y := ((b _ l1).mp e1.symm).symm
              rw [e1, e2] at z; exact z
            constructor
            · intro e
              injection e with e1 e2
              injection e1 with e1
              have b : ∀ i < s1.length, (x = g s1 i ↔ y = g s2 i) := fun i hi => ⟨fun z => by
                have : s1.idxOf x = i := by rw [z, g_at hi]; exact idx_nodup n1 hi
                rw [← this, e1, g_at l2, a2], fun z => by
                have : s2.idxOf y = i := by rw [z, g_at (hl ▸ hi)]; exact idx_nodup n2 (hl ▸ hi)
                rw [← this, ← e1, g_at l1, a1]⟩
              exact ⟨⟨hk, b⟩, (dr b).mpr (ih.mp e2)⟩
            · rintro ⟨⟨_, b⟩, q⟩
              have e1 : s1.idxOf x = s2.idxOf y := by
                have z := (b _ l1).mp (by rw [g_at l1, a1])
                have l3 : s1.idxOf x < s2.length := hl ▸ l1
                rw [z, g_at l3]; exact (idx_nodup n2 l3).symm
              rw [ih.mpr ((dr b).mp q), e1]
          · constructor
            · intro e
              rw [pat_o hx h1, pat_n hy h2] at e
              injection e with e1; injection e1 with e1; omega
            · rintro ⟨⟨_, b⟩, _⟩
              have z := (b _ l1).mp (by rw [g_at l1, a1])
              exact absurd (by rw [z]; exact g_mem (hl ▸ l1)) h2
        · by_cases h2 : y ∈ s2
          · have l2 := idx_lt h2
            have a2 := idx_at h2
            constructor
            · intro e
              rw [pat_n hx h1, pat_o hy h2] at e
              injection e with e1; injection e1 with e1; omega
            · rintro ⟨⟨_, b⟩, _⟩
              have z := (b _ (hl ▸ l2)).mpr (by rw [g_at l2, a2])
              exact absurd (by rw [z]; exact g_mem (hl ▸ l2)) h1
          · rw [pat_n hx h1, pat_n hy h2]
            have ih2 := pat_eq kept xs ys (s1 ++ [x]) (s2 ++ [y]) hxy' (by simp [hl]) (nodup_app n1 h1) (nodup_app n2 h2)
              (fun v hv => by rcases List.mem_append.mp hv with h | h; · exact d1 v h
                              · simp at h; subst h; exact hx)
              (fun v hv => by rcases List.mem_append.mp hv with h | h; · exact d2 v h
                              · simp at h; subst h; exact hy)
            constructor
            · intro e
              injection e with e1 e2
              exact ⟨⟨hk, fun i hi => ⟨fun z => absurd (by rw [z]; exact g_mem hi) h1, fun z => absurd (by rw [z]; exact g_mem (hl ▸ hi)) h2⟩⟩, ih2.mp e2⟩
            · rintro ⟨_, q⟩
              rw [ih2.mpr q, hl]
def Alike (kept xs ys : List Int) : Prop := ∀ k < xs.length, ((g xs k ∈ kept ∨ g ys k ∈ kept) → g xs k = g ys k) ∧ ∀ j < k, (g xs k = g xs j ↔ g ys k = g ys j)
theorem alike_iff {kept xs ys : List Int} (h : xs.length = ys.length) : pat kept [] xs = pat kept [] ys ↔ Alike kept xs ys := by
  rw [pat_eq kept xs ys [] [] h rfl List.nodup_nil List.nodup_nil (fun v hv => absurd hv (by simp)) (fun v hv => absurd hv (by simp))]
  exact ⟨fun q k hk => let ⟨a, _, c⟩ := q k hk; ⟨a, c⟩, fun q k hk => let ⟨a, c⟩ := q k hk; ⟨a, fun i hi => absurd hi (Nat.not_lt_zero _), c⟩⟩
/-! ### what no kept one is -/
def fre (t : List Int) (n : Nat) : List Int := ((List.range n).map fun i : Nat => (i : Int)).filter fun v => decide (v ∉ t)
theorem fre_succ (t : List Int) (n : Nat) : fre t (n + 1) = fre t n ++ (if (n : Int) ∉ t then [(n : Int)] else []) := by
  unfold fre
  rw [List.range_succ, List.map_append, List.filter_append]
  by_cases h : (n : Int) ∈ t <;> simp [h]
theorem fre_at (t : List Int) : ∀ (n i : Nat) (v : Int), (fre t n)[i]? = some v → 0 ≤ v ∧ v < n ∧ v ∉ t ∧ (fre t v.toNat).length = i
  | 0, i, v, h => by simp [fre] at h
  | n + 1, i, v, h => by
    rw [fre_succ] at h
    by_cases c : i < (fre t n).length
    · rw [List.getElem?_append_left c] at h
      obtain ⟨a, b, r⟩ := fre_at t n i v h
      exact ⟨a, by omega, r⟩
    · rw [List.getElem?_append_right (by omega)] at h
      by_cases hn : (n : Int) ∈ t
      · simp [hn] at h
      · rw [if_pos hn] at h
        have h2 : i - (fre t n).length = 0 := by
          have := (List.getElem?_eq_some_iff.mp h).1
          simpa using this
        rw [h2] at h
        have e : (n : Int) = v := by simpa using h
        subst e
        exact ⟨by omega, by omega, hn, by rw [Int.toNat_natCast]; omega⟩
theorem filter_ne {l : List Int} (a : Int) (h : l.Pairwise (· < ·)) : l.length ≤ (l.filter fun v => decide (v ≠ a)).length + 1 := by
  induction l with
  | nil => simp
  | cons x l ih =>
    obtain ⟨h1, h2⟩ := List.pairwise_cons.mp h
    by_cases e : x = a
    · subst e
      have : l.filter (fun v => decide (v ≠ x)) = l := List.filter_eq_self.mpr fun v hv => decide_eq_true (by have := h1 v hv; omega)
      rw [List.filter_cons_of_neg (by simp), this]; simp
    · rw [List.filter_cons_of_pos (by simpa using e), List.length_cons, List.length_cons]
      have := ih h2
      omega
theorem fre_sorted (t : List Int) (n : Nat) : (fre t n).Pairwise (· < ·) := by
  unfold fre
  refine List.Pairwise.filter _ (List.Pairwise.map _ (fun a b h => ?_) List.pairwise_lt_range)
  exact Int.ofNat_lt.mpr h
theorem fre_len (t : List Int) (n : Nat) : n ≤ (fre t n).length + t.length := by
  induction t with
  | nil =>
    have e : fre [] n = (List.range n).map fun i : Nat => (i : Int) := List.filter_eq_self.mpr fun v _ => by simp
    rw [e]; simp
  | cons a t ih =>
    have e : fre (a :: t) n = (fre t n).filter fun v => decide (v ≠ a) := by
      unfold fre
      rw [List.filter_filter]
      congr 1
      funext v
      by_cases h1 : v = a <;> by_cases h2 : v ∈ t <;> simp [h1, h2]
    have := filter_ne a (fre_sorted t n)
    rw [e, List.length_cons]
    omega
def frs (c : Nat) (t : List Int) : List Int := (fre t (c + t.length)).take c
theorem frs_len (c : Nat) (t : List Int) : (frs c t).length = c := by
  have := fre_len t (c + t.length)
  unfold frs
  rw [List.length_take]
  omega
theorem frs_at {c : Nat} {t : List Int} {i : Nat} (h : i < c) : 0 ≤ g (frs c t) i ∧ g (frs c t) i < (c + t.length : Nat) ∧ g (frs c t) i ∉ t ∧ (fre t (g (frs c t) i).toNat).length = i := by
  have h2 : i < (frs c t).length := by rw [frs_len]; exact h
  rw [g_at h2]
  refine fre_at t (c + t.length) i _ ?_
  have e : (frs c t)[i]? = some (frs c t)[i] := List.getElem?_eq_getElem h2
  unfold frs at e
  rw [List.getElem?_take_of_lt h] at e
  exact e
theorem frs_nodup (c : Nat) (t : List Int) : (frs c t).Nodup :=
  ((fre_sorted t (c + t.length)).take (i := c)).imp fun h => Int.ne_of_lt h
/-! ### what realises a pattern -/
def rz (o : List Int) : En → Int
  | .k v => v
  | .n i => g o i
theorem pat_rz {kept o : List Int} (nd : o.Nodup) (dj : ∀ v ∈ o, v ∉ kept) : ∀ (xs s : List Int), (∀ i, En.n i ∈ pat kept s xs → i < o.length) → s.length ≤ o.length → pat kept (o.take s.length) ((pat kept s xs).map (rz o)) = pat kept s xs
  | [], _, _, _ => rfl
  | v :: vs, s, hb, hs => by
    by_cases h : v ∈ kept
    · rw [pat_k h] at hb ⊢
      rw [List.map_cons, show rz o (.k v) = v from rfl, pat_k h, pat_rz nd dj vs s (fun i hi => hb i (List.mem_cons_of_mem _ hi)) hs]
    · by_cases h2 : v ∈ s
      · rw [pat_o h h2] at hb ⊢
        have l := idx_lt h2
        have lo : s.idxOf v < o.length := Nat.lt_of_lt_of_le l hs
        have l2 : s.idxOf v < (o.take s.length).length := by rw [List.length_take]; omega
        have e : rz o (.n (s.idxOf v)) = (o.take s.length)[s.idxOf v] := by
          show g o _ = _
          rw [g_at lo, List.getElem_take]
        rw [List.map_cons, e, pat_o (by rw [List.getElem_take]; exact dj _ (List.getElem_mem _)) (List.getElem_mem _), idx_nodup (nd.take) l2, pat_rz nd dj vs s (fun i hi => hb i (List.mem_cons_of_mem _ hi)) hs]
      · rw [pat_n h h2] at hb ⊢
        have lo : s.length < o.length := hb _ List.mem_cons_self
        have e : rz o (.n s.length) = o[s.length] := g_at lo
        have nm : o[s.length] ∉ o.take s.length := by
          intro z
          obtain ⟨j, hj, ej⟩ := List.getElem_of_mem z
          rw [List.getElem_take] at ej
          rw [List.length_take] at hj
          exact List.pairwise_iff_getElem.mp nd j s.length (by omega) lo (by omega) ej
        rw [List.map_cons, e, pat_n (dj _ (List.getElem_mem _)) nm, List.length_take, Nat.min_eq_left hs]
        have e2 : o.take s.length ++ [o[s.length]] = o.take (s ++ [v]).length := by
          rw [List.length_append, List.length_singleton, List.take_add_one, List.getElem?_eq_getElem lo]; rfl
        rw [e2, pat_rz nd dj vs (s ++ [v]) (fun i hi => hb i (List.mem_cons_of_mem _ hi)) (by rw [List.length_append]; exact lo)]
/-- a class's number is below the count of classes so far -/
theorem pat_bound (kept : List Int) : ∀ (xs s : List Int) (i : Nat), En.n i ∈ pat kept s xs → i < s.length + xs.length
  | [], _, _, h => by simp [pat] at h
  | v :: vs, s, i, h => by
    by_cases h1 : v ∈ kept
    · rw [pat_k h1] at h
      rcases List.mem_cons.mp h with e | e
      · cases e
      · have := pat_bound kept vs s i e; simp; omega
    · by_cases h2 : v ∈ s
      · rw [pat_o h1 h2] at h
        rcases List.mem_cons.mp h with e | e
        · injection e with e; have := idx_lt h2; simp; omega
        · have := pat_bound kept vs s i e; simp; omega
      · rw [pat_n h1 h2] at h
        rcases List.mem_cons.mp h with e | e
        · injection e with e; simp; omega
        · have := pat_bound kept vs (s ++ [v]) i e
          simp at this ⊢; omega
theorem pat_kept (kept : List Int) : ∀ (xs s : List Int) (v : Int), En.k v ∈ pat kept s xs → v ∈ kept
  | [], _, _, h => by simp [pat] at h
  | x :: xs, s, v, h => by
    by_cases h1 : x ∈ kept
    · rw [pat_k h1] at h
      rcases List.mem_cons.mp h with e | e
      · injection e with e; subst e; exact h1
      · exact pat_kept kept xs s v e
    · by_cases h2 : x ∈ s
      · rw [pat_o h1 h2] at h
        rcases List.mem_cons.mp h with e | e
        · cases e
        · exact pat_kept kept xs s v e
      · rw [pat_n h1 h2] at h
        rcases List.mem_cons.mp h with e | e
        · cases e
        · exact pat_kept kept xs _ v e
end Cm
namespace Cm
open PySem PySem.Spec PyProof.Rows L2
theorem cut_take (xs : List V) (c : Nat) : cutV xs none (some (c : Int)) = xs.take c := by
  unfold cutV
  rw [HT.sIx_none, HT.sIx_nat, Nat.sub_zero, List.drop_zero]
  exact (List.take_eq_take_min ..).symm
/-! ### patterns in the heap -/
abbrev AE := Addr × En
def rf (l : List AE) : List V := l.map fun q => V.ref q.1
def PatAt (H : Hp) (a : Addr) (es : List En) : Prop := ∃ l : List AE, H a = some (.tup (rf l)) ∧ l.map (·.2) = es ∧ ∀ q ∈ l, H q.1 = some (.tup q.2.vs)
theorem PatAt.same {H H' : Hp} {a : Addr} {es : List En} (s : Same H H') (h : PatAt H a es) : PatAt H' a es :=
  let ⟨l, h1, h2, h3⟩ := h; ⟨l, s _ _ h1, h2, fun q hq => s _ _ (h3 q hq)⟩
theorem PatAt.kp {K : PySem.W.Frag} {sa : Addr} {sx : List Int} {H H' : Hp} {a p : Addr} {es : List En} (hP : PoolAt K sa sx H p) (s : Kp p H H') (h : PatAt H a es) : PatAt H' a es :=
  let ⟨l, h1, h2, h3⟩ := h; ⟨l, s _ _ (pool_tup hP h1) h1, h2, fun q hq => s _ _ (pool_tup hP (h3 q hq)) (h3 q hq)⟩
/-- the dict of the classes -/
def kvs (s : List Int) : List (Key × V) := s.zipIdx.map fun q => (Sum.inl q.1, V.int (q.2 : Int))
theorem kvs_len (s : List Int) : (kvs s).length = s.length := by unfold kvs; rw [List.length_map, List.length_zipIdx]
theorem val_from (v : Int) : ∀ (s : List Int) (n : Nat), valV ((s.zipIdx n).map fun q => ((Sum.inl q.1 : Key), V.int (q.2 : Int))) (Sum.inl v) = if v ∈ s then some (.int ((n + s.idxOf v : Nat) : Int)) else none
  | [], n => rfl
  | x :: s, n => by
    rw [List.zipIdx_cons, List.map_cons]
    by_cases e : x = v
    · subst e
      have : valV (((Sum.inl x : Key), V.int (n : Int)) :: ((s.zipIdx (n + 1)).map fun q => ((Sum.inl q.1 : Key), V.int (q.2 : Int)))) (Sum.inl x) = some (V.int (n : Int)) := by
        unfold valV
        rw [List.find?_cons_of_pos (by simp)]; rfl
      rw [this, if_pos List.mem_cons_self, List.idxOf_cons_self]; rfl
    · have : valV (((Sum.inl x : Key), V.int (n : Int)) :: ((s.zipIdx (n + 1)).map fun q => ((Sum.inl q.1 : Key), V.int (q.2 : Int)))) (Sum.inl v) = valV ((s.zipIdx (n + 1)).map fun q => ((Sum.inl q.1 : Key), V.int (q.2 : Int))) (Sum.inl v) := by
        unfold valV
        rw [List.find?_cons_of_neg (by simpa using e)]
      rw [this, val_from v s (n + 1), List.idxOf_cons, beq_false_of_ne e]
      by_cases h : v ∈ s
      · rw [if_pos h, if_pos (List.mem_cons_of_mem _ h)]
        show some (V.int ((n + 1 + s.idxOf v : Nat) : Int)) = some (V.int ((n + (s.idxOf v + 1) : Nat) : Int))
        rw [show n + 1 + s.idxOf v = n + (s.idxOf v + 1) from by omega]
      · rw [if_neg h, if_neg (by simp [h]; exact fun z => e z.symm)]
theorem val_kvs (v : Int) (s : List Int) : valV (kvs s) (Sum.inl v) = if v ∈ s then some (.int ((s.idxOf v : Nat) : Int)) else none := by
  have := val_from v s 0
  rw [Nat.zero_add] at this
  exact this
theorem put_kvs {v : Int} {s : List Int} (h : v ∉ s) : putK (kvs s) (Sum.inl v) (V.int ((kvs s).length : Int)) = kvs (s ++ [v]) := by
  have e : ((kvs s).any fun kv => decide (kv.1 = (Sum.inl v : Key))) = false := by
    rw [List.any_eq_false]
    intro kv hk
    unfold kvs at hk
    obtain ⟨q, hq, rfl⟩ := List.mem_map.mp hk
    have hm : q.1 ∈ s := by
      have := List.mem_zipIdx hq
      rw [this.2.2]
      exact List.getElem_mem _
    intro z
    have z2 : q.1 = v := by simpa using z
    exact h (z2 ▸ hm)
  unfold putK
  rw [e, if_neg (by simp), kvs_len]
  unfold kvs
  rw [List.zipIdx_append, List.map_append]
  simp
/-! ### data of patterns -/
theorem kn1 : (("kept" : Str) == "new") = false := by decide +kernel
theorem kn2 : (("new" : Str) == "kept") = false := by decide +kernel
theorem eqv_en (a b : En) : PyData.eqv (.tuple a.ds) (.tuple b.ds) = decide (a = b) := by
  cases a with
  | k v => cases b with
    | k w => simp [En.ds, PyData.eqv, PyData.eqvAll]; apply Bool.eq_iff_iff.mpr; simp
    | n j => simp [En.ds, PyData.eqv, PyData.eqvAll, kn1]
  | n i => cases b with
    | k w => simp [En.ds, PyData.eqv, PyData.eqvAll, kn2]
    | n j => simp [En.ds, PyData.eqv, PyData.eqvAll]; apply Bool.eq_iff_iff.mpr; simp [Int.ofNat_inj]
def pds (es : List En) : List PyData := es.map fun e => .tuple e.ds
theorem eqv_pds : ∀ a b : List En, PyData.eqvAll (pds a) (pds b) = decide (a = b)
  | [], [] => rfl
  | [], b :: bs => by simp [pds, PyData.eqvAll]
  | a :: as, [] => by simp [pds, PyData.eqvAll]
  | a :: as, b :: bs => by
    show (PyData.eqv (.tuple a.ds) (.tuple b.ds) && PyData.eqvAll (pds as) (pds bs)) = _
    rw [eqv_en, eqv_pds as bs]
    apply Bool.eq_iff_iff.mpr
    simp
theorem eqv_pat (a b : List En) : PyData.eqv (.tuple (pds a)) (.tuple (pds b)) = decide (a = b) := by
  rw [PyData.eqv]; exact eqv_pds a b
theorem dp_en {K : PySem.W.Frag} {H : Hp} {a : Addr} {e : En} (h : H a = some (.tup e.vs)) : Dp K H (.ref a) (.tuple e.ds) := by
  cases e with
  | k v => exact .tup (SqT.of h) (.cons (.str _) (.cons (.int _) .nil))
  | n i => exact .tup (SqT.of h) (.cons (.str _) (.cons (.int _) .nil))
theorem dp_ens {K : PySem.W.Frag} {H : Hp} : ∀ (l : List AE), (∀ q ∈ l, H q.1 = some (.tup q.2.vs)) → DpAll K H (rf l) (pds (l.map (·.2)))
  | [], _ => .nil
  | q :: l, h => .cons (dp_en (h q List.mem_cons_self)) (dp_ens l fun r hr => h r (List.mem_cons_of_mem _ hr))
theorem dp_pat {K : PySem.W.Frag} {H : Hp} {a : Addr} {es : List En} (h : PatAt H a es) : Dp K H (.ref a) (.tuple (pds es)) := by
  obtain ⟨l, h1, rfl, h3⟩ := h
  exact .tup (SqT.of h1) (dp_ens l h3)
theorem lay_en (e : En) : PyData.canLay0 (.tuple e.ds) = true ∧ (PyData.tuple e.ds).depth = 1 := by
  have k : ∀ x : Str, PyData.strOk x = true → PyData.canLay0 (.str x) = true := fun x h => by rw [PyData.canLay0]; exact h
  cases e with
  | k v =>
    refine ⟨?_, rfl⟩
    rw [PyData.canLay0]
    show (PyData.canLay0 (.str "kept") && (PyData.canLay0 (.int v) && true)) = true
    rw [k "kept" (by decide +kernel)]; rfl
  | n i =>
    refine ⟨?_, rfl⟩
    rw [PyData.canLay0]
    show (PyData.canLay0 (.str "new") && (PyData.canLay0 (.int i) && true)) = true
    rw [k "new" (by decide +kernel)]; rfl
theorem lay_pds : ∀ es : List En, PyData.canLayAll0 (pds es) = true ∧ PyData.depthAll (pds es) ≤ 1
  | [] => ⟨rfl, Nat.zero_le _⟩
  | e :: es => by
    obtain ⟨h1, h2⟩ := lay_pds es
    obtain ⟨h3, h4⟩ := lay_en e
    constructor
    · show (PyData.canLay0 (.tuple e.ds) && PyData.canLayAll0 (pds es)) = true
      rw [h1, h3]; rfl
    · show max (PyData.tuple e.ds).depth (PyData.depthAll (pds es)) ≤ 1
      omega
theorem shp_pat (es : List En) : SeqAt.shaped (.tuple (pds es)) = true := by
  obtain ⟨h1, h2⟩ := lay_pds es
  unfold SeqAt.shaped
  rw [PyData.canLay0, h1, PyData.depth]
  have : PyData.depthAll (pds es) + 1 ≤ 64 := by omega
  simpa using this
end Cm
namespace Cm
open PySem PySem.Spec PyProof.Rows
open L2 hiding Same
theorem ix_ints1 {v : Int} {s : List Int} (h : v ∈ s) : (s.map V.int)[s.idxOf v]? = some (.int v) := by
  rw [List.getElem?_map, List.getElem?_eq_getElem (idx_lt h), idx_at h]; rfl
theorem ix_ints2 {v : Int} {s : List Int} (m : Nat) (z : V) (hm : m < s.idxOf v) (h : (s.map V.int)[m]? = some z) : eqV z (.int v) = false := by
  obtain ⟨hi, rfl⟩ := map_at h
  have := idx_before hi hm
  simpa [eqV] using this
theorem eqV_int (v : Int) : eqV (.int v) (.int v) = true := by simp [eqV]
theorem rf_len (l : List AE) : (rf l).length = l.length := List.length_map ..
theorem rf_at {l : List AE} {i : Nat} {x : V} (h : (rf l)[i]? = some x) : ∃ q, l[i]? = some q ∧ V.ref q.1 = x := by
  unfold rf at h
  rw [List.getElem?_map] at h
  cases e : l[i]? with
  | none => rw [e] at h; cases h
  | some q => rw [e] at h; exact ⟨q, rfl, Option.some.inj h⟩
def clsF (q : AE) : Option Int := match q.2 with
  | .k _ => none
  | .n i => some (i + 1 : Int)
def cls (l : List AE) : List Int := l.filterMap clsF
theorem cls_take {l : List AE} {i : Nat} {q : AE} (h : l[i]? = some q) : cls (l.take (i + 1)) = cls (l.take i) ++ (clsF q).toList := by
  unfold cls
  rw [List.take_add_one, h, List.filterMap_append]
  have e : List.filterMap clsF (some q).toList = (clsF q).toList := by
    show List.filterMap clsF [q] = _
    cases e : clsF q <;> simp [e]
  rw [e]
theorem cls_len (l : List AE) : (cls l).length ≤ l.length := List.length_filterMap_le ..
/-- how many classes there are -/
def CntOk (c : Nat) (es : List En) : Prop := (∀ i, En.n i ∈ es → i < c) ∧ (c = 0 ∨ En.n (c - 1) ∈ es)
theorem CntOk.le {c n : Nat} {es : List En} (h : CntOk c es) (b : ∀ i, En.n i ∈ es → i < n) : c ≤ n := by
  rcases h.2 with e | e
  · omega
  · have := b _ e; omega
theorem cnt_nil {l : List AE} (h : cls l = []) : CntOk 0 (l.map (·.2)) := by
  refine ⟨fun i hi => ?_, .inl rfl⟩
  obtain ⟨q, hq, e⟩ := List.mem_map.mp hi
  have : (i + 1 : Int) ∈ cls l := List.mem_filterMap.mpr ⟨q, hq, by unfold clsF; rw [e]⟩
  rw [h] at this; cases this
theorem cnt_max {l : List AE} {m : Int} (h : m ∈ cls l) (hm : ∀ n ∈ cls l, n ≤ m) : ∃ c : Nat, m = c ∧ CntOk c (l.map (·.2)) := by
  obtain ⟨q, hq, e⟩ := List.mem_filterMap.mp h
  unfold clsF at e
  cases e2 : q.2 with
  | k v => rw [e2] at e; cases e
  | n i =>
    rw [e2] at e
    have e3 : (i + 1 : Int) = m := Option.some.inj e
    refine ⟨i + 1, by omega, fun j hj => ?_, .inr (List.mem_map.mpr ⟨q, hq, e2⟩)⟩
    obtain ⟨r, hr, e4⟩ := List.mem_map.mp hj
    have := hm (j + 1 : Int) (List.mem_filterMap.mpr ⟨r, hr, by unfold clsF; rw [e4]⟩)
    omega
end Cm
namespace Cm
open PySem PySem.Spec PyProof.Rows
open L2 hiding Same
theorem vi {a b : Int} : V.int a = V.int b ↔ a = b := ⟨fun h => by injection h, fun h => by rw [h]⟩
theorem bl_iff {a b c d : Int} : V.bl (decide (V.int a = V.int b)) = V.bl (decide (V.int c = V.int d)) ↔ (a = b ↔ c = d) := by
  constructor
  · intro h
    injection h with h
    have := decide_eq_decide.mp h
    rwa [vi, vi] at this
  · intro h
    congr 1
    exact decide_eq_decide.mpr (by rwa [vi, vi])
end Cm
namespace Cm
open PySem PySem.Spec PyProof.Rows
open L2 hiding Same
theorem fre_congr {t1 t2 : List Int} (h : ∀ v, v ∈ t1 ↔ v ∈ t2) (n : Nat) : fre t1 n = fre t2 n := by
  unfold fre
  congr 1
  funext v
  exact decide_eq_decide.mpr (not_congr (h v))
theorem frs_congr {t1 t2 : List Int} (h : ∀ v, v ∈ t1 ↔ v ∈ t2) (hl : t1.length = t2.length) (c : Nat) : frs c t1 = frs c t2 := by
  unfold frs
  rw [fre_congr h, hl]
theorem frs_dj {c : Nat} {t : List Int} : ∀ v ∈ frs c t, v ∉ t := fun v hv => by
  obtain ⟨i, hi, rfl⟩ := List.getElem_of_mem hv
  have := (frs_at (t := t) (show i < c by rwa [frs_len] at hi)).2.2.1
  rwa [g_at hi] at this
/-- the pattern of what realises a pattern -/
theorem pat_real {kept xs : List Int} {c : Nat} (h : CntOk c (pat kept [] xs)) : pat kept [] ((pat kept [] xs).map (rz (frs c kept))) = pat kept [] xs := by
  have := pat_rz (kept := kept) (o := frs c kept) (frs_nodup c kept) frs_dj xs [] (fun i hi => by rw [frs_len]; exact h.1 i hi) (Nat.zero_le _)
  simpa using this
theorem pat_lt {kept xs : List Int} {n : Nat} (h : xs.length ≤ n) : ∀ i, En.n i ∈ pat kept [] xs → i < n := fun i hi => by
  have := pat_bound kept xs [] i hi
  simp at this; omega
end Cm
namespace Cm
open PySem PySem.Spec PyProof.Rows
open L2 hiding Same
/-! ### each once -/
def addN (s : List Int) (v : Int) : List Int := if v ∈ s then s else s ++ [v]
def fin (kept : List Int) : List Int → List Int → List Int
  | s, [] => s
  | s, v :: vs => if v ∈ kept then fin kept s vs else fin kept (addN s v) vs
theorem fin_filter (kept : List Int) : ∀ (xs s : List Int), (xs.filter fun v => decide (v ∉ kept)).foldl addN s = fin kept s xs
  | [], _ => rfl
  | v :: vs, s => by
    by_cases h : v ∈ kept
    · rw [fin, if_pos h, List.filter_cons_of_neg (by simpa using h), fin_filter kept vs s]
    · rw [fin, if_neg h, List.filter_cons_of_pos (by simpa using h), List.foldl_cons, fin_filter kept vs _]
theorem due_fin {kept sk : List Int} (h : ∀ v, v ∈ sk ↔ v ∈ kept) : ∀ (xs s : List Int), xs.foldl addN (sk ++ s) = sk ++ fin kept s xs
  | [], _ => rfl
  | v :: vs, s => by
    rw [List.foldl_cons, fin]
    by_cases h1 : v ∈ kept
    · rw [if_pos h1, show addN (sk ++ s) v = sk ++ s from if_pos (List.mem_append.mpr (.inl ((h v).mpr h1))), due_fin h vs s]
    · rw [if_neg h1]
      by_cases h2 : v ∈ s
      · rw [show addN (sk ++ s) v = sk ++ s from if_pos (List.mem_append.mpr (.inr h2)), show addN s v = s from if_pos h2, due_fin h vs s]
      · have h3 : v ∉ sk ++ s := fun z => (List.mem_append.mp z).elim (fun z => h1 ((h v).mp z)) h2
        rw [show addN (sk ++ s) v = sk ++ (s ++ [v]) from by unfold addN; rw [if_neg h3, List.append_assoc], show addN s v = s ++ [v] from if_neg h2, due_fin h vs _]
theorem addN_in {s : List Int} {v : Int} (h : v ∈ s) : addN s v = s := if_pos h
theorem addN_out {s : List Int} {v : Int} (h : v ∉ s) : addN s v = s ++ [v] := if_neg h
theorem addN_nodup {s : List Int} {v : Int} (h : s.Nodup) : (addN s v).Nodup := by
  unfold addN
  by_cases c : v ∈ s
  · rw [if_pos c]; exact h
  · rw [if_neg c]; exact nodup_app h c
theorem fin_nodup (kept : List Int) : ∀ (xs s : List Int), s.Nodup → (fin kept s xs).Nodup
  | [], _, h => h
  | v :: vs, s, h => by
    rw [fin]
    by_cases c : v ∈ kept
    · rw [if_pos c]; exact fin_nodup kept vs s h
    · rw [if_neg c]; exact fin_nodup kept vs _ (addN_nodup h)
theorem mem_addN {s : List Int} {v w : Int} : w ∈ addN s v ↔ w ∈ s ∨ w = v := by
  unfold addN
  by_cases c : v ∈ s
  · rw [if_pos c]; exact ⟨.inl, fun h => h.elim id fun e => e ▸ c⟩
  · rw [if_neg c]; simp
theorem mem_fin (kept : List Int) (w : Int) : ∀ (xs s : List Int), w ∈ fin kept s xs ↔ w ∈ s ∨ (w ∈ xs ∧ w ∉ kept)
  | [], s => by rw [fin]; simp
  | v :: vs, s => by
    rw [fin]
    by_cases c : v ∈ kept
    · rw [if_pos c, mem_fin kept w vs s]
      constructor
      · rintro (h | ⟨h1, h2⟩)
        · exact .inl h
        · exact .inr ⟨List.mem_cons_of_mem _ h1, h2⟩
      · rintro (h | ⟨h1, h2⟩)
        · exact .inl h
        · rcases List.mem_cons.mp h1 with e | e
          · exact absurd c (e ▸ h2)
          · exact .inr ⟨e, h2⟩
    · rw [if_neg c, mem_fin kept w vs _, mem_addN]
      constructor
      · rintro ((h | h) | ⟨h1, h2⟩)
        · exact .inl h
        · exact .inr ⟨h ▸ List.mem_cons_self, h ▸ c⟩
        · exact .inr ⟨List.mem_cons_of_mem _ h1, h2⟩
      · rintro (h | ⟨h1, h2⟩)
        · exact .inl (.inl h)
        · rcases List.mem_cons.mp h1 with e | e
          · exact .inl (.inr e)
          · exact .inr ⟨e, h2⟩
theorem fin_pre (kept : List Int) : ∀ (xs s : List Int), ∃ t, fin kept s xs = s ++ t
  | [], s => ⟨[], (List.append_nil s).symm⟩
  | v :: vs, s => by
    rw [fin]
    by_cases c : v ∈ kept
    · rw [if_pos c]; exact fin_pre kept vs s
    · rw [if_neg c]
      obtain ⟨t, e⟩ := fin_pre kept vs (addN s v)
      rw [e]
      unfold addN
      by_cases d : v ∈ s
      · rw [if_pos d]; exact ⟨t, rfl⟩
      · rw [if_neg d, List.append_assoc]; exact ⟨_, rfl⟩
/-! ### a pattern with one more -/
def ent (kept U : List Int) (c : Int) : En := if c ∈ kept then .k c else if c ∈ U then .n (U.idxOf c) else .n U.length
theorem pat_app (kept : List Int) (c : Int) : ∀ (xs s : List Int), pat kept s (xs ++ [c]) = pat kept s xs ++ [ent kept (fin kept s xs) c]
  | [], s => by
    show pat kept s [c] = [ent kept s c]
    unfold ent
    by_cases h : c ∈ kept
    · rw [pat_k h, if_pos h]; rfl
    · by_cases h2 : c ∈ s
      · rw [pat_o h h2, if_neg h, if_pos h2]; rfl
      · rw [pat_n h h2, if_neg h, if_neg h2]; rfl
  | v :: vs, s => by
    rw [List.cons_append, fin]
    by_cases h : v ∈ kept
    · rw [pat_k h, pat_k h, if_pos h, pat_app kept c vs s]; rfl
    · rw [if_neg h]
      by_cases h2 : v ∈ s
      · rw [pat_o h h2, pat_o h h2, show addN s v = s from if_pos h2, pat_app kept c vs s]; rfl
      · rw [pat_n h h2, pat_n h h2, show addN s v = s ++ [v] from if_neg h2, pat_app kept c vs _]; rfl
theorem pat_app_eq {kept xs : List Int} {c n : Int} : pat kept [] (xs ++ [c]) = pat kept [] (xs ++ [n]) ↔ ent kept (fin kept [] xs) c = ent kept (fin kept [] xs) n := by
  rw [pat_app, pat_app]
  exact ⟨fun h => by simpa using h, fun h => by rw [h]⟩
/-- the choices: sk those kept, U the others, f a new one -/
structure Chs (kept sk U : List Int) (f : Int) : Prop where
  mem : ∀ v, v ∈ sk ↔ v ∈ kept
  len : sk.length = kept.length
  nk : sk.Nodup
  nu : U.Nodup
  dj : ∀ v ∈ U, v ∉ kept
  fk : f ∉ kept
  fu : f ∉ U
def chs (sk U : List Int) (f : Int) : List Int := sk ++ U ++ [f]
section
variable {kept sk U : List Int} {f : Int}
theorem Chs.nodup (h : Chs kept sk U f) : (chs sk U f).Nodup := by
  unfold chs
  refine nodup_app ?_ fun z => (List.mem_append.mp z).elim (fun z => h.fk ((h.mem f).mp z)) h.fu
  rw [List.nodup_append]
  exact ⟨h.nk, h.nu, fun a ha b hb e => h.dj b hb ((h.mem b).mp (e ▸ ha))⟩
theorem Chs.cases (h : Chs kept sk U f) {c : Int} (m : c ∈ chs sk U f) : c ∈ kept ∨ (c ∉ kept ∧ c ∈ U) ∨ c = f := by
  unfold chs at m
  rcases List.mem_append.mp m with m | m
  · rcases List.mem_append.mp m with m | m
    · exact .inl ((h.mem c).mp m)
    · exact .inr (.inl ⟨h.dj c m, m⟩)
  · exact .inr (.inr (by simpa using m))
theorem Chs.inj (h : Chs kept sk U f) {c d : Int} (mc : c ∈ chs sk U f) (md : d ∈ chs sk U f) (e : ent kept U c = ent kept U d) : c = d := by
  unfold ent at e
  rcases h.cases mc with c1 | ⟨c1, c2⟩ | c1 <;> rcases h.cases md with d1 | ⟨d1, d2⟩ | d1
  · rw [if_pos c1, if_pos d1] at e; injection e
  · rw [if_pos c1, if_neg d1, if_pos d2] at e; cases e
  · subst d1; rw [if_pos c1, if_neg h.fk, if_neg h.fu] at e; cases e
  · rw [if_neg c1, if_pos c2, if_pos d1] at e; cases e
  · rw [if_neg c1, if_pos c2, if_neg d1, if_pos d2] at e
    injection e with e
    have a := idx_at c2
    have b := idx_at d2
    have b2 : U[U.idxOf c]'(idx_lt c2) = d := by rw [← b]; congr 1
    rw [← a, b2]
  · subst d1; rw [if_neg c1, if_pos c2, if_neg h.fk, if_neg h.fu] at e; injection e with e; have := idx_lt c2; omega
  · subst c1; rw [if_neg h.fk, if_neg h.fu, if_pos d1] at e; cases e
  · subst c1; rw [if_neg h.fk, if_neg h.fu, if_neg d1, if_pos d2] at e; injection e with e; have := idx_lt d2; omega
  · rw [c1, d1]
theorem Chs.has (h : Chs kept sk U f) (n : Int) : ∃ c ∈ chs sk U f, ent kept U c = ent kept U n := by
  by_cases h1 : n ∈ kept
  · exact ⟨n, by unfold chs; simp [(h.mem n).mpr h1], rfl⟩
  · by_cases h2 : n ∈ U
    · exact ⟨n, by unfold chs; simp [h2], rfl⟩
    · refine ⟨f, by unfold chs; simp, ?_⟩
      unfold ent
      rw [if_neg h.fk, if_neg h.fu, if_neg h1, if_neg h2]
theorem filter_one {l : List Int} {c : Int} {p : Int → Bool} (nd : l.Nodup) (hc : c ∈ l) (hp : ∀ d ∈ l, (p d = true ↔ d = c)) : (l.filter p).length = 1 := by
  induction l with
  | nil => cases hc
  | cons x l ih =>
    obtain ⟨h1, h2⟩ := List.nodup_cons.mp nd
    by_cases e : x = c
    · subst e
      have : l.filter p = [] := List.filter_eq_nil_iff.mpr fun d hd z => h1 ((hp d (List.mem_cons_of_mem _ hd)).mp z ▸ hd)
      rw [List.filter_cons_of_pos ((hp x List.mem_cons_self).mpr rfl), this]; rfl
    · rw [List.filter_cons_of_neg fun z => e ((hp x List.mem_cons_self).mp z)]
      exact ih h2 ((List.mem_cons.mp hc).resolve_left fun z => e z.symm) fun d hd => hp d (List.mem_cons_of_mem _ hd)
/-- exactly one choice has the pattern -/
theorem Chs.one {xs : List Int} (h : Chs kept sk (fin kept [] xs) f) (n : Int) : ((chs sk (fin kept [] xs) f).filter fun c => decide (pat kept [] (xs ++ [c]) = pat kept [] (xs ++ [n]))).length = 1 := by
  obtain ⟨c, hc, e⟩ := h.has n
  refine filter_one h.nodup hc fun d hd => ?_
  rw [decide_eq_true_iff, pat_app_eq, ← e]
  exact ⟨h.inj hd hc, fun z => by rw [z]⟩
/-- by places -/
theorem Chs.at (h : Chs kept sk U f) {k : Nat} (hk : k < (chs sk U f).length) : ent kept U (chs sk U f)[k] = if hs : k < sk.length then .k sk[k] else .n (k - sk.length) := by
  unfold chs at hk ⊢
  unfold ent
  by_cases c1 : k < sk.length
  · have e : (sk ++ U ++ [f])[k] = sk[k] := by rw [List.getElem_append_left (by rw [List.length_append]; omega), List.getElem_append_left c1]
    rw [dif_pos c1, e, if_pos ((h.mem _).mp (List.getElem_mem c1))]
  · rw [dif_neg c1]
    by_cases c2 : k - sk.length < U.length
    · have e : (sk ++ U ++ [f])[k] = U[k - sk.length] := by rw [List.getElem_append_left (by rw [List.length_append]; omega), List.getElem_append_right (by omega)]
      rw [e, if_neg (h.dj _ (List.getElem_mem c2)), if_pos (List.getElem_mem c2), idx_nodup h.nu c2]
    · have hl : k = sk.length + U.length := by simp at hk; omega
      have e : (sk ++ U ++ [f])[k] = f := by rw [List.getElem_append_right (by rw [List.length_append]; omega)]; simp
      rw [e, if_neg h.fk, if_neg h.fu]
      congr 1; omega
theorem chs_len (sk U : List Int) (f : Int) : (chs sk U f).length = sk.length + U.length + 1 := by unfold chs; simp; omega
/-- the entry by the place in the list of choices -/
theorem Chs.idx (h : Chs kept sk U f) {c : Int} (m : c ∈ chs sk U f) (hc : c ∉ kept) : ent kept U c = .n ((chs sk U f).idxOf c - kept.length) ∧ kept.length ≤ (chs sk U f).idxOf c := by
  have hk := idx_lt m
  have ha := idx_at m
  have e := h.at hk
  rw [ha] at e
  by_cases c1 : (chs sk U f).idxOf c < sk.length
  · rw [dif_pos c1] at e
    unfold ent at e
    rw [if_neg hc] at e
    by_cases c2 : c ∈ U
    · rw [if_pos c2] at e; cases e
    · rw [if_neg c2] at e; cases e
  · rw [dif_neg c1] at e
    rw [e, h.len]
    exact ⟨rfl, by have := h.len; omega⟩
theorem Chs.rz (h : Chs kept sk U f) {c : Int} (m : c ∈ chs sk U f) : rz (U ++ [f]) (ent kept U c) = c := by
  unfold ent
  rcases h.cases m with c1 | ⟨c1, c2⟩ | c1
  · rw [if_pos c1]; rfl
  · rw [if_neg c1, if_pos c2]
    show g (U ++ [f]) _ = c
    rw [g_app1 (idx_lt c2), g_at (idx_lt c2), idx_at c2]
  · subst c1
    rw [if_neg h.fk, if_neg h.fu]
    exact g_app2
theorem ent_lt {c : Int} {i : Nat} (e : ent kept U c = .n i) : i ≤ U.length := by
  unfold ent at e
  by_cases c1 : c ∈ kept
  · rw [if_pos c1] at e; cases e
  · rw [if_neg c1] at e
    by_cases c2 : c ∈ U
    · rw [if_pos c2] at e; injection e with e; have := idx_lt c2; omega
    · rw [if_neg c2] at e; injection e with e; omega
theorem ent_k {c v : Int} (e : ent kept U c = .k v) : v ∈ kept := by
  unfold ent at e
  by_cases c1 : c ∈ kept
  · rw [if_pos c1] at e; injection e with e; exact e ▸ c1
  · rw [if_neg c1] at e
    by_cases c2 : c ∈ U
    · rw [if_pos c2] at e; cases e
    · rw [if_neg c2] at e; cases e
end
/-! ### how many classes -/
theorem fin_cnt (kept : List Int) : ∀ (xs s : List Int), (∀ i, En.n i ∈ pat kept s xs → i < (fin kept s xs).length) ∧ ((fin kept s xs).length = s.length ∨ En.n ((fin kept s xs).length - 1) ∈ pat kept s xs)
  | [], s => ⟨fun i h => by simp [pat] at h, .inl rfl⟩
  | v :: vs, s => by
    rw [fin]
    by_cases h : v ∈ kept
    · obtain ⟨a, b⟩ := fin_cnt kept vs s
      rw [if_pos h, pat_k h]
      exact ⟨fun i hi => (List.mem_cons.mp hi).elim (fun e => by cases e) (a i), b.imp id (List.mem_cons_of_mem _)⟩
    · rw [if_neg h]
      by_cases h2 : v ∈ s
      · obtain ⟨a, b⟩ := fin_cnt kept vs s
        rw [show addN s v = s from if_pos h2, pat_o h h2]
        refine ⟨fun i hi => (List.mem_cons.mp hi).elim (fun e => ?_) (a i), b.imp id (List.mem_cons_of_mem _)⟩
        injection e with e
        obtain ⟨t, et⟩ := fin_pre kept vs s
        have := idx_lt h2
        rw [et, List.length_append]; omega
      · obtain ⟨a, b⟩ := fin_cnt kept vs (s ++ [v])
        obtain ⟨t, et⟩ := fin_pre kept vs (s ++ [v])
        rw [show addN s v = s ++ [v] from if_neg h2, pat_n h h2]
        refine ⟨fun i hi => (List.mem_cons.mp hi).elim (fun e => ?_) (a i), .inr ?_⟩
        · injection e with e
          rw [et]; simp; omega
        · rcases b with b | b
          · rw [b]
            simp
          · exact List.mem_cons_of_mem _ b
theorem fin_cntOk (kept xs : List Int) : CntOk (fin kept [] xs).length (pat kept [] xs) := by
  obtain ⟨a, b⟩ := fin_cnt kept xs []
  exact ⟨a, b⟩
theorem CntOk.uniq {c d : Nat} {es : List En} (h : CntOk c es) (h2 : CntOk d es) : c = d := by
  have a := h.le h2.1
  have b := h2.le h.1
  omega
/-! ### the values again -/
theorem pat_rep (kept tl : List Int) : ∀ (xs s : List Int), (pat kept s xs).map (rz (fin kept s xs ++ tl)) = xs
  | [], _ => rfl
  | v :: vs, s => by
    rw [fin]
    by_cases h : v ∈ kept
    · rw [if_pos h, pat_k h, List.map_cons, pat_rep kept tl vs s]; rfl
    · rw [if_neg h]
      by_cases h2 : v ∈ s
      · rw [show addN s v = s from if_pos h2, pat_o h h2, List.map_cons, pat_rep kept tl vs s]
        congr 1
        obtain ⟨t, et⟩ := fin_pre kept vs s
        show g _ _ = v
        rw [et, List.append_assoc, g_at (by rw [List.length_append]; have := idx_lt h2; omega), List.getElem_append_left (idx_lt h2), idx_at h2]
      · rw [show addN s v = s ++ [v] from if_neg h2, pat_n h h2, List.map_cons, pat_rep kept tl vs (s ++ [v])]
        congr 1
        obtain ⟨t, et⟩ := fin_pre kept vs (s ++ [v])
        show g _ _ = v
        rw [et, List.append_assoc, List.append_assoc, g_at (by simp), List.getElem_append_right (Nat.le_refl _)]
        simp
/-- two ways to realise one list of entries have one pattern -/
theorem rz_same {kept o1 o2 : List Int} {es : List En} (n1 : o1.Nodup) (n2 : o2.Nodup) (hl : o1.length = o2.length) (d1 : ∀ v ∈ o1, v ∉ kept) (d2 : ∀ v ∈ o2, v ∉ kept) (hb : ∀ i, En.n i ∈ es → i < o1.length) (hk : ∀ v, En.k v ∈ es → v ∈ kept) :
    pat kept [] (es.map (rz o1)) = pat kept [] (es.map (rz o2)) := by
  refine (alike_iff (by simp)).mpr fun k hk2 => ?_
  rw [List.length_map] at hk2
  have at1 : ∀ {o : List Int} {j : Nat} (hj : j < es.length), g (es.map (rz o)) j = rz o es[j] := fun hj => by rw [g_at (by simpa using hj)]; simp
  have key : ∀ {i : Nat} (h : En.n i ∈ es) {o : List Int} (e : o.length = o1.length), rz o (.n i) = o[i]'(by have := hb _ h; omega) := by
    intro i h o e; exact g_at _
  have ni : ∀ {i : Nat} {o : List Int}, En.n i ∈ es → o.length = o1.length → (∀ v ∈ o, v ∉ kept) → rz o (.n i) ∉ kept := by
    intro i o h e d; rw [key h e]; exact d _ (List.getElem_mem _)
  have inj : ∀ {o : List Int}, o.length = o1.length → o.Nodup → (∀ v ∈ o, v ∉ kept) → ∀ {a b : En}, a ∈ es → b ∈ es → (rz o a = rz o b ↔ a = b) := by
    intro o e nd d a b ha hb'
    refine ⟨fun z => ?_, fun z => by rw [z]⟩
    cases a with
    | k v => cases b with
      | k w => exact congrArg En.k z
      | n j => exact absurd (hk v ha) (by rw [show v = rz _ (.n j) from z]; exact ni hb' e d)
    | n i => cases b with
      | k w => exact absurd (hk w hb') (by rw [← show rz _ (.n i) = w from z]; exact ni ha e d)
      | n j =>
        rw [key ha e, key hb' e] at z
        have h1 := hb _ ha
        have h2 := hb _ hb'
        by_cases c : i = j
        · rw [c]
        · rcases Nat.lt_or_gt_of_ne c with l | l
          · exact absurd z (List.pairwise_iff_getElem.mp nd i j (by omega) (by omega) l)
          · exact absurd z.symm (List.pairwise_iff_getElem.mp nd j i (by omega) (by omega) l)
  refine ⟨fun h => ?_, fun j hj => ?_⟩
  · rw [at1 hk2, at1 hk2] at *
    cases e : es[k] with
    | k v => rfl
    | n i =>
      have hm : En.n i ∈ es := e ▸ List.getElem_mem hk2
      rw [e] at h
      exact h.elim (fun z => absurd z (ni hm rfl d1)) fun z => absurd z (ni hm hl.symm d2)
  · have hj2 : j < es.length := Nat.lt_trans hj hk2
    rw [at1 hk2, at1 hj2, at1 hk2, at1 hj2, inj rfl n1 d1 (List.getElem_mem _) (List.getElem_mem _), inj hl.symm n2 d2 (List.getElem_mem _) (List.getElem_mem _)]
theorem rz_congr {o1 o2 : List Int} {es : List En} (h : ∀ i, En.n i ∈ es → g o1 i = g o2 i) : es.map (rz o1) = es.map (rz o2) := by
  refine List.map_congr_left fun e he => ?_
  cases e with
  | k v => rfl
  | n i => exact h i he
theorem frs_pre {c i : Nat} {t : List Int} (h : i < c) : g (frs c t) i = g (frs (c + 1) t) i := by
  rw [g_at (by rw [frs_len]; exact h), g_at (by rw [frs_len]; omega)]
  have a : (frs c t)[i]'(by rw [frs_len]; exact h) = (fre t (c + t.length))[i]'(by have := fre_len t (c + t.length); omega) := by unfold frs; rw [List.getElem_take]
  have b : (frs (c + 1) t)[i]'(by rw [frs_len]; omega) = (fre t (c + 1 + t.length))[i]'(by have := fre_len t (c + 1 + t.length); omega) := by unfold frs; rw [List.getElem_take]
  have e : fre t (c + 1 + t.length) = fre t (c + t.length) ++ (if ((c + t.length : Nat) : Int) ∉ t then [((c + t.length : Nat) : Int)] else []) := by
    rw [show c + 1 + t.length = (c + t.length) + 1 from by omega, fre_succ]
  rw [a, b, List.getElem_of_eq e, List.getElem_append_left]
/-! ### the first free one -/
theorem fre_nil {t : List Int} {n : Nat} : (fre t n).length = 0 ↔ ∀ i < n, (i : Int) ∈ t := by
  rw [List.length_eq_zero_iff]
  unfold fre
  rw [List.filter_eq_nil_iff]
  constructor
  · intro h i hi
    have := h (i : Int) (List.mem_map.mpr ⟨i, List.mem_range.mpr hi, rfl⟩)
    simpa using this
  · intro h v hv
    obtain ⟨i, hi, rfl⟩ := List.mem_map.mp hv
    simpa using h i (List.mem_range.mp hi)
theorem frs_one {t : List Int} {n : Nat} (h1 : (n : Int) ∉ t) (h2 : ∀ i < n, (i : Int) ∈ t) : frs 1 t = [(n : Int)] := by
  have hl : (frs 1 t).length = 1 := frs_len 1 t
  obtain ⟨a, b, c, d⟩ := frs_at (c := 1) (t := t) (i := 0) (by decide)
  have z := fre_nil.mp d
  have e : g (frs 1 t) 0 = (n : Int) := by
    have e0 : g (frs 1 t) 0 = (((g (frs 1 t) 0).toNat : Nat) : Int) := by omega
    rcases Nat.lt_trichotomy (g (frs 1 t) 0).toNat n with h | h | h
    · exact absurd (h2 _ h) (by rw [← e0]; exact c)
    · rw [e0, h]
    · exact absurd (z n h) h1
  rw [g_at (by omega)] at e
  match h : frs 1 t, hl with
  | [x], _ => simp [h] at e; rw [e]
theorem below_len {t : List Int} {n : Nat} (h : ∀ i < n, (i : Int) ∈ t) : n ≤ t.length := by
  have := fre_len t n
  rw [fre_nil.mpr h] at this
  omega
/-! ### a dict of truths -/
def trs (s : List Int) : List (Key × V) := s.map fun v => (Sum.inl v, V.bl true)
theorem put_trs (s : List Int) (v : Int) : putK (trs s) (Sum.inl v) (V.bl true) = trs (addN s v) := by
  unfold putK addN
  by_cases h : v ∈ s
  · have e : ((trs s).any fun kv => decide (kv.1 = (Sum.inl v : Key))) = true := List.any_eq_true.mpr ⟨(Sum.inl v, V.bl true), List.mem_map.mpr ⟨v, h, rfl⟩, by simp⟩
    rw [e, if_pos rfl, if_pos h]
    unfold trs
    rw [List.map_map]
    refine List.map_congr_left fun w _ => ?_
    by_cases c : w = v
    · subst c; simp
    · simp [c]
  · have e : ((trs s).any fun kv => decide (kv.1 = (Sum.inl v : Key))) = false := by
      rw [List.any_eq_false]
      intro kv hk z
      obtain ⟨w, hw, rfl⟩ := List.mem_map.mp hk
      have z2 : w = v := by simpa using z
      exact h (z2 ▸ hw)
    rw [e, if_neg (by simp), if_neg h]
    unfold trs
    rw [List.map_append]; rfl
theorem addN_len (s : List Int) (v : Int) : (addN s v).length ≤ s.length + 1 := by
  unfold addN
  by_cases c : v ∈ s
  · rw [if_pos c]; omega
  · rw [if_neg c, List.length_append]; simp
theorem dc_list {K : PySem.W.Frag} {a : Addr} {xs : List V} {g : TG} {tt : TT} {tk tv : TE} {vs : List Nat} {σ : L2.St} {H1 : Hp} {D : Addr} {Qd : Hp → Prop} (Pv : Nat → Hp → Prop) (h0 : Pv 0 (upd H1 D (.dK []))) (hl : ∀ i H, i ≤ xs.length → Pv i H → SqL K H a xs)
    (hs : ∀ i x H, xs[i]? = some x → Pv i H → g x (wipe σ vs) H fun σ2 H2 => wipe σ2 vs = wipe σ vs ∧ tt σ2 H2 fun b H3 =>
      if b = true then tk σ2 H3 fun y H4 => tv σ2 H4 fun z H5 => ∃ kvs k, y = kV k ∧ H5 D = some (.dK kvs) ∧ kvs.length < sizeLine ∧ Pv (i + 1) (upd H5 D (.dK (putK kvs k z))) else Pv (i + 1) H3) (hd : ∀ H, Pv xs.length H → Qd H) :
    ∃ W : Nat → Nat → Hp → Prop, (∃ m, W 0 m (upd H1 D (.dK []))) ∧ ∀ i m H, W i m H →
      ((Itl K a).stop i H ∧ Qd H) ∨ ((Itl K a).go i H ∧ ∃ Nx : Hp → Prop, (∀ H', Nx H' → ∃ m', m' < m ∧ W (i + 1) m' H') ∧ ∀ x H', (Itl K a).yld i H x H' → g x (wipe σ vs) H' fun σ2 H2 => wipe σ2 vs = wipe σ vs ∧ tt σ2 H2 fun b H3 =>
        if b = true then tk σ2 H3 fun y H4 => tv σ2 H4 fun z H5 => ∃ kvs k, y = kV k ∧ H5 D = some (.dK kvs) ∧ kvs.length < sizeLine ∧ Nx (upd H5 D (.dK (putK kvs k z))) else Nx H3) := by
  refine ⟨fun i m H => m = xs.length - i ∧ i ≤ xs.length ∧ Pv i H, ⟨xs.length, by simp, Nat.zero_le _, h0⟩, ?_⟩
  rintro i m H ⟨rfl, hi, p⟩
  have q := hl i H hi p
  by_cases hlt : i < xs.length
  · refine .inr ⟨⟨xs, xs[i], q, by simp [hlt]⟩, Pv (i + 1), fun H' p' => ⟨xs.length - (i + 1), by omega, rfl, hlt, p'⟩, fun x H' y => ?_⟩
    obtain ⟨e, y⟩ := y
    subst e
    exact hs i x _ (y xs q) p
  · have e : i = xs.length := by omega
    subst e
    exact .inl ⟨⟨xs, q, Nat.le_refl _⟩, hd H p⟩
end Cm
namespace Cm
open PySem PySem.Spec PyProof.Rows
open L2 hiding Same
def srt (ks : List Int) : List Int := ks.mergeSort (fun a b => decide (a ≤ b))
theorem srt_perm (ks : List Int) : (srt ks).Perm ks := List.mergeSort_perm ..
theorem srt_up (ks : List Int) : (srt ks).Pairwise (· ≤ ·) := by
  have := List.pairwise_mergeSort (le := fun a b : Int => decide (a ≤ b)) (fun a b c h1 h2 => by simp at *; omega) (fun a b => by simp; omega) ks
  exact this.imp fun h => by simpa using h
theorem srt_of {ks ns : List Int} (p : ns.Perm ks) (u : ns.Pairwise (· ≤ ·)) : ns = srt ks :=
  (p.trans (srt_perm ks).symm).eq_of_pairwise (fun x y _ _ h1 h2 => Int.le_antisymm h1 h2) u (srt_up ks)
theorem chs_of {ks xs : List Int} {f : Int} (nd : ks.Nodup) (fk : f ∉ ks) (fu : f ∉ fin ks [] xs) : Chs ks (srt ks) (fin ks [] xs) f where
  mem v := (srt_perm ks).mem_iff
  len := (srt_perm ks).length_eq
  nk := (srt_perm ks).nodup_iff.mpr nd
  nu := fin_nodup ks xs [] List.nodup_nil
  dj v h := by
    rcases (mem_fin ks v xs []).mp h with h | h
    · cases h
    · exact h.2
  fk := fk
  fu := fu
theorem trs_keys (s : List Int) : ((trs s).map fun kv => kV kv.1) = s.map V.int := by
  unfold trs
  rw [List.map_map]; rfl
theorem fold_take {xs : List Int} {i : Nat} (h : i < xs.length) (s : List Int) : (xs.take (i + 1)).foldl addN s = addN ((xs.take i).foldl addN s) xs[i] := by
  rw [List.take_add_one, List.getElem?_eq_getElem h, List.foldl_append]; rfl
theorem fold_len (xs s : List Int) : (xs.foldl addN s).length ≤ s.length + xs.length := by
  induction xs generalizing s with
  | nil => simp
  | cons x xs ih =>
    rw [List.foldl_cons]
    have := ih (addN s x)
    have := addN_len s x
    simp; omega
theorem fin_len (kept xs : List Int) : (fin kept [] xs).length ≤ xs.length := by
  rw [← fin_filter]
  have := fold_len (xs.filter fun v => decide (v ∉ kept)) []
  have := List.length_filter_le (fun v => decide (v ∉ kept)) xs
  simp at *; omega
end Cm
namespace Cm
open PySem PySem.Spec PyProof.Rows
open L2 hiding Same
def fr1 (ks xs : List Int) : Int := g (frs 1 (ks ++ fin ks [] xs)) 0
theorem fr1_fresh (ks xs : List Int) : fr1 ks xs ∉ ks ∧ fr1 ks xs ∉ fin ks [] xs := by
  obtain ⟨_, _, h, _⟩ := frs_at (c := 1) (t := ks ++ fin ks [] xs) (i := 0) (by decide)
  exact ⟨fun z => h (List.mem_append.mpr (.inl z)), fun z => h (List.mem_append.mpr (.inr z))⟩
theorem frs1_eq (t : List Int) : frs 1 t = [g (frs 1 t) 0] := by
  have hl : (frs 1 t).length = 1 := frs_len 1 t
  match h : frs 1 t, hl with
  | [x], _ => rfl
abbrev chL (ks xs : List Int) : List Int := chs (srt ks) (fin ks [] xs) (fr1 ks xs)
theorem chs_ok {ks xs : List Int} (nd : ks.Nodup) : Chs ks (srt ks) (fin ks [] xs) (fr1 ks xs) := chs_of nd (fr1_fresh ks xs).1 (fr1_fresh ks xs).2
theorem srt_len (ks : List Int) : (srt ks).length = ks.length := (srt_perm ks).length_eq
end Cm
namespace Cm
open PySem PySem.Spec PyProof.Rows
open L2 hiding Same
theorem ixN_nat {n i : Nat} (h : i < n) : ixN n (i : Int) = some i := by
  unfold ixN
  rw [if_pos (by omega), Int.toNat_natCast, if_pos (Int.ofNat_lt.mpr h)]
end Cm
namespace Cm
open PySem PySem.Spec PyProof.Rows
open L2 hiding Same
theorem lay_ints : ∀ ns : List Int, PyData.canLayAll0 (ns.map PyData.int) = true
  | [] => rfl
  | n :: ns => by
    show (PyData.canLay0 (.int n) && PyData.canLayAll0 (ns.map PyData.int)) = true
    rw [lay_ints ns]; rfl
theorem shp_ints (ns : List Int) : SeqAt.shaped (.list (ns.map PyData.int)) = true := by
  unfold SeqAt.shaped
  rw [PyData.canLay0, lay_ints, PyData.depth, depth_ints]
  rfl
theorem eqv_ints (ns : List Int) : PyData.eqv (.list (ns.map PyData.int)) (.list (ns.map PyData.int)) = true := by
  rw [PyData.eqv]
  induction ns with
  | nil => rfl
  | cons n ns ih =>
    show (PyData.eqv (.int n) (.int n) && PyData.eqvAll (ns.map PyData.int) (ns.map PyData.int)) = true
    rw [ih]
    simp [PyData.eqv]
theorem dp_ints {K : PySem.W.Frag} {H : Hp} {a : Addr} {ns : List Int} (h : H a = some (.lst (ns.map V.int))) : Dp K H (.ref a) (.list (ns.map PyData.int)) := .lst (SqL.of h) (dpAll_ints ns)
theorem cut_drop (xs : List V) (c : Nat) : cutV xs (some (c : Int)) none = xs.drop c := by
  unfold cutV
  rw [HT.sIx_none, HT.sIx_nat]
  by_cases h : c ≤ xs.length
  · rw [Nat.min_eq_left h, List.take_of_length_le (by rw [List.length_drop]; omega)]
  · rw [Nat.min_eq_right (by omega), Nat.sub_self, List.take_zero, List.drop_of_length_le (by omega)]
theorem fin_len_eq {ks xs ys : List Int} (h : pat ks [] ys = pat ks [] xs) : (fin ks [] ys).length = (fin ks [] xs).length := by
  have a := fin_cntOk ks ys
  rw [h] at a
  exact a.uniq (fin_cntOk ks xs)
theorem chL_len (ks xs : List Int) : (chL ks xs).length = ks.length + (fin ks [] xs).length + 1 := by
  rw [chL, chs_len, srt_len]
theorem chL_len_eq {ks xs ys : List Int} (h : pat ks [] ys = pat ks [] xs) : (chL ks ys).length = (chL ks xs).length := by
  rw [chL_len, chL_len, fin_len_eq h]
theorem at_math {ks xs ys : List Int} (nd : ks.Nodup) (h : pat ks [] ys = pat ks [] xs) {k : Nat} (h1 : k < (chL ks ys).length) (h2 : k < (chL ks xs).length) : pat ks [] (ys ++ [(chL ks ys)[k]]) = pat ks [] (xs ++ [(chL ks xs)[k]]) := by
  rw [pat_app, pat_app, h, (chs_ok nd).at h1, (chs_ok nd).at h2]
theorem move_math {ks xs : List Int} (nd : ks.Nodup) {c : Int} (hm : c ∈ chL ks xs) (i : Nat) :
    pat ks [] (((pat ks [] xs).map (rz (frs ((fin ks [] xs).length + 1) ks))).set i (rz (frs ((fin ks [] xs).length + 1) ks) (ent ks (fin ks [] xs) c))) = pat ks [] (xs.set i c) := by
  have hC := chs_ok (xs := xs) nd
  have e1 := pat_rep ks [fr1 ks xs] xs []
  have e2 := hC.rz hm
  have e3 : xs.set i c = ((pat ks [] xs).set i (ent ks (fin ks [] xs) c)).map (rz (fin ks [] xs ++ [fr1 ks xs])) := by
    rw [List.map_set, e1, e2]
  rw [e3, ← List.map_set]
  have hme : ∀ {e : En}, e ∈ (pat ks [] xs).set i (ent ks (fin ks [] xs) c) → e ∈ pat ks [] xs ∨ e = ent ks (fin ks [] xs) c := fun h => List.mem_or_eq_of_mem_set h
  refine rz_same (frs_nodup _ _) (nodup_app hC.nu hC.fu) (by rw [frs_len, List.length_append]; rfl) frs_dj (fun v hv => ?_) (fun j hj => ?_) (fun v hv => ?_)
  · rcases List.mem_append.mp hv with h | h
    · exact hC.dj v h
    · simp at h; subst h; exact hC.fk
  · rw [frs_len]
    rcases hme hj with h | h
    · have := (fin_cntOk ks xs).1 j h; omega
    · have := ent_lt h.symm; omega
  · rcases hme hv with h | h
    · exact pat_kept ks xs [] v h
    · exact ent_k h.symm
theorem one_math {ks xs : List Int} (nd : ks.Nodup) (n : Int) : ((chL ks xs).filter fun c => decide (pat ks [] (xs ++ [c]) = pat ks [] (xs ++ [n]))).length = 1 := (chs_ok nd).one n
theorem set_cut (xs : List Int) {i : Nat} (h : i < xs.length) (c : Int) : xs.take i ++ [c] ++ xs.drop (i + 1) = xs.set i c := by
  rw [List.set_eq_take_append_cons_drop, if_pos h, List.append_assoc]; rfl
end Cm
namespace Cm
open PySem PySem.Spec PyProof.Rows
open L2 hiding Same
open PySem.W (DatumOrd Datum Tup listLt)
/-! ### < of patterns -/
def ep : En → Str × Int
  | .k v => ("kept", v)
  | .n i => ("new", (i : Int))
def llt (a b : List En) : Bool := listLt (a.map ep) (b.map ep)
theorem ep_ds (e : En) : Datum.toD (ep e) = .tuple e.ds := by cases e <;> rfl
theorem toD_pat (es : List En) : Datum.toD (Tup.mk (es.map ep)) = .tuple (pds es) := by
  show PyData.tuple ((es.map ep).map Datum.toD) = .tuple (pds es)
  unfold pds
  rw [List.map_map]
  refine congrArg PyData.tuple (List.map_congr_left fun e _ => ?_)
  exact ep_ds e
theorem ep_inj {a b : En} (h : ep a = ep b) : a = b := by
  cases a with
  | k v => cases b with
    | k w => exact congrArg En.k (Prod.mk.inj h).2
    | n j => exact absurd (Prod.mk.inj h).1 (by decide +kernel)
  | n i => cases b with
    | k w => exact absurd (Prod.mk.inj h).1 (by decide +kernel)
    | n j => exact congrArg En.n (Int.ofNat.inj (Prod.mk.inj h).2)
def rLtP (K : PySem.W.Frag) : R2 := fun x y H Q => ∃ es fs, Dp K H x (.tuple (pds es)) ∧ Dp K H y (.tuple (pds fs)) ∧ Q (.bl (llt es fs)) H
theorem op_ltP {X : Cx} (hu : X.A.units + 64 < cLine) : OpR X (compareOp .Lt) (rLtP X.K) := by
  intro pins s σ H x y v u Q I rx ry h
  obtain ⟨es, fs, hd, he, q⟩ := h
  obtain ⟨as, r1⟩ := Dp.reads I _ x v hd rx
  obtain ⟨bs, r2⟩ := Dp.reads I _ y u he ry
  have q2 : EP X pins σ Q (.bool (DatumOrd.lt (Tup.mk (es.map ep)) (Tup.mk (fs.map ep)))) s := ⟨.bl (llt es fs), H, I, rfl, q⟩
  exact PySem.W.lt_datum (α := Tup (Str × Int)) ⟨as, by rw [toD_pat]; exact r1⟩ ⟨bs, by rw [toD_pat]; exact r2⟩ (by show X.A.units + 2 < cLine; omega) q2
theorem llt_app : ∀ {a b : List En} {c d : List En}, a.length = b.length → llt a b = true → llt (a ++ c) (b ++ d) = true
  | [], [], _, _, _, h => by cases h
  | x :: a, y :: b, c, d, hl, h => by
    unfold llt at h ⊢
    simp only [List.map_cons, List.map_append, List.cons_append, listLt] at h ⊢
    by_cases e : ep x = ep y
    · rw [if_pos e] at h ⊢
      have := llt_app (a := a) (b := b) (c := c) (d := d) (by simpa using hl) h
      unfold llt at this
      rw [List.map_append, List.map_append] at this
      exact this
    · rw [if_neg e] at h ⊢
      exact h
theorem llt_same : ∀ {a c d : List En}, llt (a ++ c) (a ++ d) = llt c d
  | [], _, _ => rfl
  | x :: a, c, d => by
    have := llt_same (a := a) (c := c) (d := d)
    unfold llt at this ⊢
    rw [List.map_append, List.map_append] at this
    simp only [List.map_cons, List.map_append, List.cons_append, listLt, if_true]
    exact this
theorem llt_one {x y : En} (h : DatumOrd.lt (ep x) (ep y) = true) (ne : x ≠ y) : llt [x] [y] = true := by
  unfold llt
  simp only [List.map_cons, List.map_nil, listLt]
  rw [if_neg fun e => ne (ep_inj e)]
  exact h
/-! ### all patterns of a length -/
def cntE : List En → Nat
  | [] => 0
  | .k _ :: es => cntE es
  | .n i :: es => max (i + 1) (cntE es)
theorem cntE_lt : ∀ {es : List En} {i : Nat}, En.n i ∈ es → i < cntE es
  | .k _ :: es, i, h => by
    rcases List.mem_cons.mp h with e | e
    · cases e
    · exact cntE_lt (es := es) e
  | .n j :: es, i, h => by
    rcases List.mem_cons.mp h with e | e
    · obtain rfl : i = j := by injection e
      show i < max (i + 1) (cntE es); omega
    · have := cntE_lt (es := es) e; show i < max (j + 1) (cntE es); omega
theorem cntE_in : ∀ {es : List En}, cntE es = 0 ∨ En.n (cntE es - 1) ∈ es
  | [] => .inl rfl
  | .k v :: es => (cntE_in (es := es)).elim .inl fun h => .inr (List.mem_cons_of_mem _ h)
  | .n j :: es => by
    right
    show En.n (max (j + 1) (cntE es) - 1) ∈ _
    by_cases c : cntE es ≤ j + 1
    · rw [Nat.max_eq_left c]; exact List.mem_cons_self
    · rw [Nat.max_eq_right (by omega)]
      rcases cntE_in (es := es) with h | h
      · omega
      · exact List.mem_cons_of_mem _ h
theorem cnt_uniq {c : Nat} {es : List En} (h : CntOk c es) : c = cntE es := by
  have a := h.le (n := cntE es) fun i hi => cntE_lt hi
  have b : cntE es ≤ c := (cntE_in (es := es)).elim (fun e => by omega) fun e => by have := h.1 _ e; omega
  omega
theorem cntE_app (es : List En) (e : En) : cntE (es ++ [e]) = match e with | .k _ => cntE es | .n i => max (cntE es) (i + 1) := by
  induction es with
  | nil => cases e <;> simp [cntE]
  | cons x es ih =>
    cases x with
    | k v => show cntE (es ++ [e]) = _; rw [ih]; cases e <;> rfl
    | n j =>
      show max (j + 1) (cntE (es ++ [e])) = _
      rw [ih]
      cases e with
      | k v => rfl
      | n i => show max (j + 1) (max (cntE es) (i + 1)) = max (max (j + 1) (cntE es)) (i + 1); omega
def nxt (ks : List Int) (es : List En) : List En := (srt ks).map En.k ++ (List.range (cntE es + 1)).map En.n
def lev (ks : List Int) : Nat → List (List En)
  | 0 => [[]]
  | m + 1 => (lev ks m).flatMap fun es => (nxt ks es).map fun e => es ++ [e]
theorem mem_lev_succ {ks : List Int} {m : Nat} {es : List En} : es ∈ lev ks (m + 1) ↔ ∃ fs e, fs ∈ lev ks m ∧ e ∈ nxt ks fs ∧ es = fs ++ [e] := by
  show es ∈ (lev ks m).flatMap _ ↔ _
  rw [List.mem_flatMap]
  exact ⟨fun ⟨fs, h1, h2⟩ => by obtain ⟨e, h3, h4⟩ := List.mem_map.mp h2; exact ⟨fs, e, h1, h3, h4.symm⟩, fun ⟨fs, e, h1, h2, h3⟩ => ⟨fs, h1, List.mem_map.mpr ⟨e, h2, h3.symm⟩⟩⟩
theorem lev_length {ks : List Int} : ∀ {m : Nat} {es : List En}, es ∈ lev ks m → es.length = m
  | 0, es, h => by rw [List.mem_singleton.mp h]; rfl
  | m + 1, es, h => by
    obtain ⟨fs, e, h1, _, rfl⟩ := mem_lev_succ.mp h
    rw [List.length_append, lev_length h1]; rfl
theorem lev_take {ks : List Int} : ∀ {m : Nat} {es : List En}, es ∈ lev ks m → ∀ i, i ≤ m → es.take i ∈ lev ks i
  | 0, es, h, i, hi => by
    have : i = 0 := by omega
    subst this
    rw [List.take_zero]; exact List.mem_singleton.mpr rfl
  | m + 1, es, h, i, hi => by
    by_cases e : i = m + 1
    · subst e
      rw [List.take_of_length_le (by rw [lev_length h]; exact Nat.le_refl _)]; exact h
    · obtain ⟨fs, x, h1, _, rfl⟩ := mem_lev_succ.mp h
      rw [List.take_append_of_le_length (by rw [lev_length h1]; omega)]
      exact lev_take h1 i (by omega)
theorem nxt_asc {ks : List Int} (nd : ks.Nodup) (es : List En) : (nxt ks es).Pairwise fun x y => llt [x] [y] = true := by
  unfold nxt
  rw [List.pairwise_append]
  refine ⟨?_, ?_, ?_⟩
  · rw [List.pairwise_map]
    have h1 := srt_up ks
    have h2 : (srt ks).Nodup := (srt_perm ks).nodup_iff.mpr nd
    refine (h1.and h2).imp fun {a b} ⟨h, n⟩ => llt_one ?_ (fun z => n (by injection z))
    show (if ("kept" : Str) = "kept" then DatumOrd.lt a b else DatumOrd.lt ("kept" : Str) "kept") = true
    rw [if_pos rfl]
    exact decide_eq_true (by have := n; omega)
  · rw [List.pairwise_map]
    refine List.pairwise_lt_range.imp fun {a b} h => llt_one ?_ (fun z => by injection z with z; omega)
    show (if ("new" : Str) = "new" then DatumOrd.lt (a : Int) (b : Int) else DatumOrd.lt ("new" : Str) "new") = true
    rw [if_pos rfl]
    exact decide_eq_true (by omega)
  · intro x hx y hy
    obtain ⟨v, _, rfl⟩ := List.mem_map.mp hx
    obtain ⟨i, _, rfl⟩ := List.mem_map.mp hy
    refine llt_one ?_ (fun z => by cases z)
    show (if ("kept" : Str) = "new" then DatumOrd.lt v (i : Int) else DatumOrd.lt ("kept" : Str) "new") = true
    rw [if_neg (by decide +kernel)]
    decide +kernel
theorem lev_asc {ks : List Int} (nd : ks.Nodup) : ∀ m, (lev ks m).Pairwise fun a b => llt a b = true
  | 0 => List.pairwise_singleton _ _
  | m + 1 => by
    show ((lev ks m).flatMap _).Pairwise _
    rw [List.pairwise_flatMap]
    refine ⟨fun es _ => ?_, ?_⟩
    · rw [List.pairwise_map]
      exact (nxt_asc nd es).imp fun h => by rw [llt_same]; exact h
    · refine (List.Pairwise.and_mem.mp (lev_asc nd m)).imp fun {a b} ⟨ha, hb, h⟩ x hx y hy => ?_
      obtain ⟨e, _, rfl⟩ := List.mem_map.mp hx
      obtain ⟨f, _, rfl⟩ := List.mem_map.mp hy
      exact llt_app (by rw [lev_length ha, lev_length hb]) h
/-- how many classes the patterns have: their number hangs on the number of kept alone -/
def levC (k : Nat) : Nat → List Nat
  | 0 => [0]
  | m + 1 => (levC k m).flatMap fun c => List.replicate k c ++ (List.range (c + 1)).map fun i => max c (i + 1)
theorem lev_cnt (ks : List Int) : ∀ m, (lev ks m).map cntE = levC ks.length m
  | 0 => rfl
  | m + 1 => by
    show ((lev ks m).flatMap _).map cntE = (levC ks.length m).flatMap _
    rw [← lev_cnt ks m, List.map_flatMap, List.flatMap_map]
    refine congrArg (fun f => (lev ks m).flatMap f) (funext fun es => ?_)
    rw [List.map_map]
    unfold nxt
    rw [List.map_append, List.map_map, List.map_map]
    congr 1
    · have : (srt ks).map ((cntE ∘ fun e => es ++ [e]) ∘ En.k) = (srt ks).map fun _ => cntE es := List.map_congr_left fun v _ => cntE_app es (.k v)
      rw [this, List.map_const', srt_len]
    · exact List.map_congr_left fun i _ => cntE_app es (.n i)
theorem lev_num (ks : List Int) (m : Nat) : (lev ks m).length = (levC ks.length m).length := by rw [← lev_cnt, List.length_map]
end Cm
namespace Cm
open PySem PySem.Spec PyProof.Rows
open L2 hiding Same
section
variable {prog : Program} {w : World} {A : Around} {R : GenEnd} {Y : Protocol} {n : Nat} {s₀ : Shared} {fs : List Frame} {s : Shared} {env : Env}
abbrev ends (env : Env) : Value → Sem PySem.Fin := fun e => (do noteFrame e env; theTreesLotGoes e : Sem Unit).wrap (fun _ => .raise e) .raise id id
abbrev turnK (c' : Code) : Flow → Sem PySem.Fin := fun f => match f with
  | .next | .cont => .pure (.again c')
  | .brk => .pure (.done .next)
  | .ret v => .pure (.done (.ret v))
theorem seg_forLoop {target : Expr} {it : Value} {body : List Stmt}
    (h : wpAny (model prog w) (A.over (.forLoop target it body [] env) fs) (pyNext it) (fun r s1 => match r with
      | none => Seg (model prog w) A R Y n s₀ (.block [] env) ((model prog w).den (.block [] env)) fs s1
      | some v => wpAny (model prog w) (A.over (.forLoop target it body [] env) fs) (letOwnedTupleGo target it v) (fun _ s2 =>
          wpAny (model prog w) (A.over (.forLoop target it body [] env) fs) (assign target env v) (fun _ s3 =>
            Seg (model prog w) A R Y n s₀ (.forLoop target it body [] env) ((execs body env).wrap (turnK (.forLoop target it body [] env)) (ends env) id id) fs s3)
            (fun x s' => Seg (model prog w) A R Y n s₀ (.forLoop target it body [] env) (ends env x) fs s') s2)
          (fun x s' => Seg (model prog w) A R Y n s₀ (.forLoop target it body [] env) (ends env x) fs s') s1)
      (fun x s' => Seg (model prog w) A R Y n s₀ (.forLoop target it body [] env) (ends env x) fs s') s) :
    Seg (model prog w) A R Y n s₀ (.forLoop target it body [] env) ((model prog w).den (.forLoop target it body [] env)) fs s := by
  show Seg _ A R Y n s₀ _ ((forTurn target it body [] env).onRaise (fun x => do noteFrame x env; theTreesLotGoes x)) fs s
  have hh : (fun e => (do noteFrame e env; theTreesLotGoes e : Sem Unit) >>= fun _ => (Sem.raise e : Sem PySem.Fin)) = ends env := by
    funext e
    exact Sem.bind_eq_wrap' _ _
  unfold forTurn
  rw [Sem.onRaise_eq_wrap]
  refine seg_bind_wrap (wpAny_standAt ?_)
  refine seg_bind_wrap (wpAny_onRaise (wpAny_mono h (fun r s1 h1 => ?_) fun x s' hx => wpAny_standAt ?_))
  · cases r with
    | none => exact seg_again rfl h1
    | some v =>
      refine seg_bind_wrap (wpAny_mono h1 (fun _ s2 h2 => ?_) fun x s' hx => ?_)
      · refine seg_bind_wrap (wpAny_mono h2 (fun _ s3 h3 => ?_) fun x s' hx => ?_)
        · rw [Sem.bind_eq_wrap', Sem.wrap_wrap]
          rw [Sem.wrap_congr (execs body env) _ _ (K' := turnK (.forLoop target it body [] env)) (H' := ends env) (fun f => by cases f <;> rfl) (fun e => by first | exact congrFun hh e | (show (do noteFrame e env; theTreesLotGoes e : Sem Unit).bind (fun _ => .raise e) = _; rw [Sem.bind_eq_wrap]))]
          exact h3
        · exact cast (congrArg (fun t => Seg (model prog w) A R Y n s₀ (.forLoop target it body [] env) t fs s') (congrFun hh x).symm) hx
      · exact cast (congrArg (fun t => Seg (model prog w) A R Y n s₀ (.forLoop target it body [] env) t fs s') (congrFun hh x).symm) hx
  · exact cast (congrArg (fun t => Seg (model prog w) A R Y n s₀ (.forLoop target it body [] env) t fs s') (congrFun hh x).symm) hx
end
/-- for tg in iter: body, in a generator def -/
def tGFor (wi : TI) (g : TG) (tb : TGn) : TGn := fun D ys σ H => wi σ H fun J H1 => ∃ W : Nat → Nat → List V → L2.St → Hp → Prop, (∃ m, W 0 m ys σ H1) ∧ ∀ i m ys σ H, W i m ys σ H →
  (J.stop i H ∧ D.nx ys σ H) ∨ (J.go i H ∧ ∃ N : List V → L2.St → Hp → Prop, (∀ ys' σ' H', N ys' σ' H' → ∃ m', m' < m ∧ W (i + 1) m' ys' σ' H') ∧ ∀ x H', J.yld i H x H' → g x σ H' fun σ2 H2 => tb { D with nx := N, ct := N, bk := D.nx } ys σ2 H2)
theorem gs_for {X : Cx} {tg iter : Expr} {body : List Stmt} {wi : TI} {g : TG} {tb : TGn} {pos : Pos} (hp : PassesOwn (model X.prog X.w) X.A X.env X.xe) (hc : X.calm = true) (hi : PI X tg iter wi) (hg : PG X tg g) (hb : GSs X body tb)
    (hs : ∀ x, foldedSetIterable iter X.env x = pure x := by intro _; rfl) : GS X (.For tg iter body [] pos) (tGFor wi g tb) := by
  refine ⟨fun A S ip R n ys s₀ c fs K J gd lv s σ H D g0 hn k hI ht => ?_⟩
  obtain ⟨acc, cc, r, I⟩ := hI
  rw [exec_For]
  refine seg_bind_wrap (wpAny_standAt ?_)
  refine seg_bind_wrap ?_
  rw [g0.over]
  refine wpAny_mono (hi.run _ s σ H _ I ht) (fun v s1 h1 => ?_) (fun x s' hx => k.exc n s₀ x s' hx)
  refine seg_bind_wrap (wpAny_of_eq (hs v) ?_)
  refine seg_bind_wrap (wpAny_standAt ?_)
  refine seg_bind_wrap (wpAny_holding ?_)
  rw [g0.over]
  refine wpAny_mono h1 (fun itv s2 h2 => ?_) (fun x s' hx => k.exc n s₀ x s' hx)
  obtain ⟨it, fp, tn, Jt, H2, e, I2, T, st2, f2, W, ⟨m0, w0⟩, turn⟩ := h2
  subst e
  have hS : ∀ b ∈ fp, S ≠ b := fun b hb => (f2 b hb).2.2.2.2.2 (S, lstObj acc cc) (List.mem_append_right _ List.mem_cons_self)
  have stat : ∀ {acc' : Array Value} {cc' : Nat} {H' : Hp}, (∀ b ∈ fp, H' b = none) → ∀ b ∈ fp, FpOk X ((S, lstObj acc' cc') :: ip) H' b := fun hn b hb => by
    obtain ⟨_, a1, a2, a3, a4, a5⟩ := f2 b hb
    refine ⟨hn b hb, a1, a2, a3, a4, fun p hp => ?_⟩
    rcases List.mem_append.mp hp with hp | hp
    · exact a5 p (List.mem_append_left _ hp)
    · rcases List.mem_cons.mp hp with hp | hp
      · rw [hp]; exact hS b hb
      · exact a5 p (List.mem_append_right _ (List.mem_cons_of_mem _ hp))
  refine seg_call fun p => ?_
  have gl := fun (kk : Result → Sem PySem.Fin) => gc_loop (k := kk) (c' := .forLoop tg (.ref it) body [] X.env) (l := lv []) (kp := []) (p := p) g0 rfl rfl
  have loop : ∀ (m i n : Nat) (ys : List V) (s₀ s : Shared) (σ : L2.St) (H : Hp), n + ys.length = sizeLine → W i m ys σ H → GI X S ip ys σ H s → tn i s.heap → (∀ b ∈ fp, H b = none) →
      Seg (model X.prog X.w) A R (GY X S) n s₀ (.forLoop tg (.ref it) body [] X.env) ((model X.prog X.w).den (.forLoop tg (.ref it) body [] X.env))
        (.ret (fun r => ((match r with | .ok f => (.pure f : Sem Flow) | .error e => .raise e).onRaise (cameBack X.env)).wrap K J gd lv) none (gd false) (lv []) c p [] :: fs) s := by
    intro m
    induction m using Nat.strongRecOn with
    | ind m ih =>
      intro i n ys s₀ s σ H hn w hI st fr
      have ee : ∀ (n : Nat) (s₀ : Shared) (x : Value) (s' : Shared), X.xe x s' → Seg (model X.prog X.w) A R (GY X S) n s₀ (.forLoop tg (.ref it) body [] X.env) (ends X.env x)
          (.ret (fun r => ((match r with | .ok f => (.pure f : Sem Flow) | .error e => .raise e).onRaise (cameBack X.env)).wrap K J gd lv) none (gd false) (lv []) c p [] :: fs) s' := fun n s₀ x s' hx => by
        refine seg_wrap ?_
        rw [(gl _).over]
        refine wpAny_bind (wpAny_mono (hp x s' hx) (fun _ s'' hcb => wpAny_theTreesLotGoes ?_) fun y s'' hcb => ?_)
        · exact seg_leaf (.error x) (seg_cameBack g0 k hcb)
        · exact seg_leaf (.error y) (seg_cameBack g0 k hcb)
      refine seg_forLoop ?_
      rw [(gl _).over]
      obtain ⟨acc, cc, r, I⟩ := hI
      rcases turn i m ys σ H w with ⟨stop, qn⟩ | ⟨go, N, hN, step⟩
      · refine wpAny_mono (T.done X rfl rfl rfl hc i _ s σ H X.xe I (stat fr) st stop) (fun r4 s4 h4 => ?_) fun x s' hx => ee n s₀ x s' hx
        obtain ⟨rfl, I4⟩ := h4
        exact seg_leaf (.ok .next) (k.ok n ys s₀ s4 .next hn ⟨σ, H, ⟨acc, cc, r, I4⟩, qn⟩)
      · refine wpAny_mono (T.item X rfl rfl rfl hc i _ s σ H X.xe I (stat fr) st go) (fun r4 s4 h4 => ?_) fun x s' hx => ee n s₀ x s' hx
        obtain ⟨u, rfl, h4⟩ := h4
        refine wpAny_mono h4 (fun _ s5 h5 => ?_) fun x s' hx => ee n s₀ x s' hx
        obtain ⟨x, H5, I5, r5, y5, st5, fr5⟩ := h5
        have I5' := I5.pinned (stat fr5) (T.obj _ _ st5)
        refine wpAny_mono (hg.run _ s5 σ H5 x u _ I5' r5 (step x H5 y5)) (fun _ s6 h6 => ?_) fun x s' hx => ee n s₀ x s' hx
        obtain ⟨σ6, H6, I6, q6⟩ := h6
        have g6 := gl (fun r => ((match r with | .ok f => (.pure f : Sem Flow) | .error e => .raise e).onRaise (cameBack X.env)).wrap K J gd lv)
        have g6' : GC X S (ip ++ pinsAt fp s5.heap) A (.forLoop tg (.ref it) body [] X.env) (.ret (fun r => ((match r with | .ok f => (.pure f : Sem Flow) | .error e => .raise e).onRaise (cameBack X.env)).wrap K J gd lv) none (gd false) (lv []) c p [] :: fs) id :=
          { g6 with ip := fun q hq => (List.mem_append.mp hq).elim (g6.ip q) fun hq => (hS q.1 (of_pinsAt hq).1).symm }
        refine hb.run A S (ip ++ pinsAt fp s5.heap) R n ys s₀ _ _ _ _ id id s6 σ6 H6 { D with nx := N, ct := N, bk := D.nx } g6' hn ⟨fun n' ys' s₀' s7 f hn' hs => ?_, fun n' s₀' x s7 hx => ee n' s₀' x s7 hx⟩ ⟨acc, cc, r, I6⟩ q6
        have un : ∀ {ys7 : List V} {σ7 : L2.St} {H7 : Hp}, GI X S (ip ++ pinsAt fp s5.heap) ys7 σ7 H7 s7 → GI X S ip ys7 σ7 H7 s7 := fun {ys7 σ7 H7} ⟨a7, c7, r7, I7⟩ =>
          ⟨a7, c7, r7, Inv.unpinned (pins := (S, lstObj a7 c7) :: ip) (pl := pinsAt fp s5.heap) I7⟩
        have again : ∀ {σ7 : L2.St} {H7 : Hp}, GI X S (ip ++ pinsAt fp s5.heap) ys' σ7 H7 s7 → N ys' σ7 H7 → ∃ m', m' < m ∧ W (i + 1) m' ys' σ7 H7 ∧ tn (i + 1) s7.heap ∧ ∀ b ∈ fp, H7 b = none := fun {σ7 H7} gi n7 => by
          obtain ⟨m', hm, w7⟩ := hN ys' σ7 H7 n7
          obtain ⟨a7, c7, r7, I7⟩ := gi
          refine ⟨m', hm, w7, T.keep _ _ _ st5 fun b hb o e => (I7.pin (b, o) (List.mem_append_right _ (List.mem_cons_of_mem _ (List.mem_append_right _ (mem_pinsAt hb e))))).1, fun b hb => ?_⟩
          obtain ⟨o, e, d⟩ := T.obj _ _ st5 b hb
          exact (I7.pin (b, o) (List.mem_append_right _ (List.mem_cons_of_mem _ (List.mem_append_right _ (mem_pinsAt hb e))))).2.1
        cases f with
        | next =>
          obtain ⟨σ3, H3, I3, n3⟩ := hs
          obtain ⟨m', hm, w3, t3, f3⟩ := again I3 n3
          exact seg_again rfl (ih m' hm (i + 1) n' ys' s₀' s7 σ3 H3 hn' w3 (un I3) t3 f3)
        | cont =>
          obtain ⟨σ3, H3, I3, n3⟩ := hs
          obtain ⟨m', hm, w3, t3, f3⟩ := again I3 n3
          exact seg_again rfl (ih m' hm (i + 1) n' ys' s₀' s7 σ3 H3 hn' w3 (un I3) t3 f3)
        | brk =>
          obtain ⟨σ3, H3, I3, n3⟩ := hs
          exact seg_leaf (.ok .next) (k.ok n' ys' s₀' s7 .next hn' ⟨σ3, H3, un I3, n3⟩)
        | ret v =>
          obtain ⟨v3, σ3, H3, I3, rv, q3⟩ := hs
          exact seg_leaf (.ok (.ret v)) (k.ok n' ys' s₀' s7 (.ret v) hn' ⟨v3, σ3, H3, un I3, rv, q3⟩)
  exact loop m0 0 n ys s₀ s2 σ H2 hn w0 ⟨acc, cc, r, I2⟩ st2 (fun b hb => (f2 b hb).1)
end Cm
namespace Cm
open PySem PySem.Spec PyProof.Rows
open L2 hiding Same
/-- a walk over a list, whatever is done of its items -/
theorem lcG {K : PySem.W.Frag} {a : Addr} {xs : List V} {H0 : Hp} {Qd : Hp → Prop} {F : V → Hp → (Hp → Prop) → Prop} (Pv : Nat → Hp → Prop) (h0 : Pv 0 H0) (hl : ∀ i H, i ≤ xs.length → Pv i H → SqL K H a xs)
    (hs : ∀ i x H, xs[i]? = some x → Pv i H → F x H (Pv (i + 1))) (hd : ∀ H, Pv xs.length H → Qd H) :
    ∃ W : Nat → Nat → Hp → Prop, (∃ m, W 0 m H0) ∧ ∀ i m H, W i m H →
      ((Itl K a).stop i H ∧ Qd H) ∨ ((Itl K a).go i H ∧ ∃ Nx : Hp → Prop, (∀ H', Nx H' → ∃ m', m' < m ∧ W (i + 1) m' H') ∧ ∀ x H', (Itl K a).yld i H x H' → F x H' Nx) := by
  refine ⟨fun i m H => m = xs.length - i ∧ i ≤ xs.length ∧ Pv i H, ⟨xs.length, by simp, Nat.zero_le _, h0⟩, ?_⟩
  rintro i m H ⟨rfl, hi, p⟩
  have q := hl i H hi p
  by_cases hlt : i < xs.length
  · refine .inr ⟨⟨xs, xs[i], q, by simp [hlt]⟩, Pv (i + 1), fun H' p' => ⟨xs.length - (i + 1), by omega, rfl, hlt, p'⟩, fun x H' y => ?_⟩
    obtain ⟨e, y⟩ := y
    subst e
    exact hs i x _ (y xs q) p
  · have e : i = xs.length := by omega
    subst e
    exact .inl ⟨⟨xs, q, Nat.le_refl _⟩, hd H p⟩
theorem gforL {K : PySem.W.Frag} {a : Addr} {xs ys0 : List V} {σ0 : L2.St} {H0 : Hp} {Qd : List V → L2.St → Hp → Prop} {F : V → List V → L2.St → Hp → (List V → L2.St → Hp → Prop) → Prop} (Pv : Nat → List V → L2.St → Hp → Prop) (h0 : Pv 0 ys0 σ0 H0) (hl : ∀ i ys σ H, i ≤ xs.length → Pv i ys σ H → SqL K H a xs)
    (hs : ∀ i x ys σ H, xs[i]? = some x → Pv i ys σ H → F x ys σ H (Pv (i + 1))) (hd : ∀ ys σ H, Pv xs.length ys σ H → Qd ys σ H) :
    ∃ W : Nat → Nat → List V → L2.St → Hp → Prop, (∃ m, W 0 m ys0 σ0 H0) ∧ ∀ i m ys σ H, W i m ys σ H →
      ((Itl K a).stop i H ∧ Qd ys σ H) ∨ ((Itl K a).go i H ∧ ∃ Nx : List V → L2.St → Hp → Prop, (∀ ys' σ' H', Nx ys' σ' H' → ∃ m', m' < m ∧ W (i + 1) m' ys' σ' H') ∧ ∀ x H', (Itl K a).yld i H x H' → F x ys σ H' Nx) := by
  refine ⟨fun i m ys σ H => m = xs.length - i ∧ i ≤ xs.length ∧ Pv i ys σ H, ⟨xs.length, by simp, Nat.zero_le _, h0⟩, ?_⟩
  rintro i m ys σ H ⟨rfl, hi, p⟩
  have q := hl i ys σ H hi p
  by_cases hlt : i < xs.length
  · refine .inr ⟨⟨xs, xs[i], q, by simp [hlt]⟩, Pv (i + 1), fun ys' σ' H' p' => ⟨xs.length - (i + 1), by omega, rfl, hlt, p'⟩, fun x H' y => ?_⟩
    obtain ⟨e, y⟩ := y
    subst e
    exact hs i x ys σ _ (y xs q) p
  · have e : i = xs.length := by omega
    subst e
    exact .inl ⟨⟨xs, q, Nat.le_refl _⟩, hd ys σ H p⟩
theorem levC_small : ∀ k ≤ 3, ∀ m ≤ 4, (levC k m).length ≤ 1000 := by decide +kernel
theorem lev_small {ks : List Int} {m : Nat} (h : ks.length ≤ 3) (hm : m ≤ 4) : (lev ks m).length ≤ 1000 := by rw [lev_num]; exact levC_small _ h _ hm
def ext (ks : List Int) (es : List En) : List (List En) := (nxt ks es).map fun e => es ++ [e]
theorem lev_pre {ks : List Int} {m i j : Nat} (hi : i < (lev ks m).length) : (((lev ks m).take i).flatMap (ext ks) ++ (ext ks (lev ks m)[i]).take j).length ≤ (lev ks (m + 1)).length := by
  have e : lev ks (m + 1) = ((lev ks m).take i).flatMap (ext ks) ++ (ext ks (lev ks m)[i] ++ ((lev ks m).drop (i + 1)).flatMap (ext ks)) := by
    show (lev ks m).flatMap (ext ks) = _
    conv => lhs; rw [← List.take_append_drop i (lev ks m), List.drop_eq_getElem_cons hi]
    rw [List.flatMap_append, List.flatMap_cons]
  rw [e]
  simp only [List.length_append, List.length_take]
  omega
end Cm
namespace K28
open PySem PySem.Spec PyProof.Rows L2 Cm
def top (i : Nat) : Stmt := PySem.Challenge.pw_quietedition_k28_whole_all_patterns.main.body.getD i (.Pass ⟨0, 0, 0, 0⟩)
abbrev s_fresh : Stmt := top 1
theorem sc_fresh : FnScope ["count", "taken", "n"] ["count", "taken"] (defScope s_fresh) := ⟨rfl, rfl, rfl, by decide +kernel, rfl, by decide +kernel, by decide +kernel⟩
abbrev s_pattern : Stmt := top 2
theorem sc_pattern : FnScope ["values", "kept", "classes", "entries", "value"] ["values", "kept"] (defScope s_pattern) := ⟨rfl, rfl, rfl, by decide +kernel, rfl, by decide +kernel, by decide +kernel⟩
abbrev s_count_classes : Stmt := top 3
theorem sc_count_classes : FnScope ["entries", "entry"] ["entries"] (defScope s_count_classes) := ⟨rfl, rfl, rfl, by decide +kernel, rfl, by decide +kernel, by decide +kernel⟩
abbrev s_realise : Stmt := top 4
theorem sc_realise : FnScope ["entries", "kept", "others", "entry"] ["entries", "kept"] (defScope s_realise) := ⟨rfl, rfl, rfl, by decide +kernel, rfl, by decide +kernel, by decide +kernel⟩
abbrev s_entries_behind : Stmt := top 5
theorem sc_entries_behind : FnScope ["entries", "kept", "n", "i"] ["entries", "kept"] (defScope s_entries_behind) := ⟨rfl, rfl, rfl, by decide +kernel, rfl, by decide +kernel, by decide +kernel⟩
abbrev s_all_patterns : Stmt := top 6
abbrev s_is_entry : Stmt := top 7
theorem sc_is_entry : FnScope ["thing", "before", "kept"] ["thing", "before", "kept"] (defScope s_is_entry) := ⟨rfl, rfl, rfl, by decide +kernel, rfl, by decide +kernel, by decide +kernel⟩
abbrev s_is_pattern : Stmt := top 8
theorem sc_is_pattern : FnScope ["thing", "length", "kept", "at"] ["thing", "length", "kept"] (defScope s_is_pattern) := ⟨rfl, rfl, rfl, by decide +kernel, rfl, by decide +kernel, by decide +kernel⟩
abbrev s_l_draw : Stmt := top 10
theorem sc_l_draw : FnScope ["_law_pool", "_law_many", "_law_cell", "_law_number_here"] ["_law_pool", "_law_many"] (defScope s_l_draw) := ⟨rfl, rfl, rfl, by decide +kernel, rfl, by decide +kernel, by decide +kernel⟩
abbrev s_l_pick : Stmt := top 11
theorem sc_l_pick : FnScope ["_law_pool", "_law_things"] ["_law_pool", "_law_things"] (defScope s_l_pick) := ⟨rfl, rfl, rfl, by decide +kernel, rfl, by decide +kernel, by decide +kernel⟩
abbrev s_l_number : Stmt := top 12
theorem sc_l_number : FnScope ["_law_pool", "_law_kind"] ["_law_pool"] (defScope s_l_number) := ⟨rfl, rfl, rfl, by decide +kernel, rfl, by decide +kernel, by decide +kernel⟩
abbrev s_l_integer : Stmt := top 13
theorem sc_l_integer : FnScope ["_law_thing"] ["_law_thing"] (defScope s_l_integer) := ⟨rfl, rfl, rfl, by decide +kernel, rfl, by decide +kernel, by decide +kernel⟩
abbrev s_l_kept : Stmt := top 14
theorem sc_l_kept : FnScope ["_law_pool", "_law_kept_here", "_law_k", "_law_number_here"] ["_law_pool"] (defScope s_l_kept) := ⟨rfl, rfl, rfl, by decide +kernel, rfl, by decide +kernel, by decide +kernel⟩
abbrev s_l_count : Stmt := top 15
theorem sc_l_count : FnScope ["_law_length", "_law_many", "_law_rows", "_law_classes", "_law_total", "_law_m", "_law_power", "_law_k"] ["_law_length", "_law_many"] (defScope s_l_count) := ⟨rfl, rfl, rfl, by decide +kernel, rfl, by decide +kernel, by decide +kernel⟩
abbrev s_l_values : Stmt := top 16
theorem sc_l_values : FnScope ["_law_pool", "_law_size", "_law_kept_here", "_law_values_here", "_law_k"] ["_law_pool", "_law_size", "_law_kept_here"] (defScope s_l_values) := ⟨rfl, rfl, rfl, by decide +kernel, rfl, by decide +kernel, by decide +kernel⟩
abbrev s_l_odd_entry : Stmt := top 17
theorem sc_l_odd_entry : FnScope ["_law_pool", "_law_kept_here", "_law_number_here", "_law_odd_here"] ["_law_pool", "_law_kept_here"] (defScope s_l_odd_entry) := ⟨rfl, rfl, rfl, by decide +kernel, rfl, by decide +kernel, by decide +kernel⟩
abbrev s_l_odd : Stmt := top 18
theorem sc_l_odd : FnScope ["_law_pool", "_law_entries", "_law_kept_here", "_law_kind", "_law_at"] ["_law_pool", "_law_entries", "_law_kept_here"] (defScope s_l_odd) := ⟨rfl, rfl, rfl, by decide +kernel, rfl, by decide +kernel, by decide +kernel⟩
abbrev s_l_is_listed : Stmt := top 19
theorem sc_l_is_listed : FnScope ["_law_thing", "_law_told", "_law_entry"] ["_law_thing", "_law_told"] (defScope s_l_is_listed) := ⟨rfl, rfl, rfl, by decide +kernel, rfl, by decide +kernel, by decide +kernel⟩
abbrev s_law : Stmt := top 20
theorem sc_law : FnScope ["_law_script", "_law_pool", "_law_kept_here", "_law_length", "_law_told", "_law_k", "_law_entries", "_law_thing"] ["_law_script"] (defScope s_law) := ⟨rfl, rfl, rfl, by decide +kernel, rfl, by decide +kernel, by decide +kernel⟩
def d_fresh : He.DefD := ⟨("fresh", none), "fresh", "fresh", defArgs s_fresh, defBody s_fresh, defScope s_fresh, [], []⟩
def d_pattern : He.DefD := ⟨("pattern", none), "pattern", "pattern", defArgs s_pattern, defBody s_pattern, defScope s_pattern, [], []⟩
def d_count_classes : He.DefD := ⟨("count_classes", none), "count_classes", "count_classes", defArgs s_count_classes, defBody s_count_classes, defScope s_count_classes, [], []⟩
def d_realise : He.DefD := ⟨("realise", none), "realise", "realise", defArgs s_realise, defBody s_realise, defScope s_realise, [], []⟩
def d_entries_behind : He.DefD := ⟨("entries_behind", none), "entries_behind", "entries_behind", defArgs s_entries_behind, defBody s_entries_behind, defScope s_entries_behind, [], []⟩
def d_all_patterns : He.DefD := ⟨("all_patterns", none), "all_patterns", "all_patterns", defArgs s_all_patterns, defBody s_all_patterns, defScope s_all_patterns, [], []⟩
def d_is_entry : He.DefD := ⟨("is_entry", none), "is_entry", "is_entry", defArgs s_is_entry, defBody s_is_entry, defScope s_is_entry, [], []⟩
def d_is_pattern : He.DefD := ⟨("is_pattern", none), "is_pattern", "is_pattern", defArgs s_is_pattern, defBody s_is_pattern, defScope s_is_pattern, [], []⟩
def d_l_draw : He.DefD := ⟨("_law_draw", none), "_law_draw", "_law_draw", defArgs s_l_draw, defBody s_l_draw, defScope s_l_draw, [], []⟩
def d_l_pick : He.DefD := ⟨("_law_pick", none), "_law_pick", "_law_pick", defArgs s_l_pick, defBody s_l_pick, defScope s_l_pick, [], []⟩
def d_l_number : He.DefD := ⟨("_law_number", none), "_law_number", "_law_number", defArgs s_l_number, defBody s_l_number, defScope s_l_number, [], []⟩
def d_l_integer : He.DefD := ⟨("_law_integer", none), "_law_integer", "_law_integer", defArgs s_l_integer, defBody s_l_integer, defScope s_l_integer, [], []⟩
def d_l_kept : He.DefD := ⟨("_law_kept", none), "_law_kept", "_law_kept", defArgs s_l_kept, defBody s_l_kept, defScope s_l_kept, [], []⟩
def d_l_count : He.DefD := ⟨("_law_count", none), "_law_count", "_law_count", defArgs s_l_count, defBody s_l_count, defScope s_l_count, [], []⟩
def d_l_values : He.DefD := ⟨("_law_values", none), "_law_values", "_law_values", defArgs s_l_values, defBody s_l_values, defScope s_l_values, [], []⟩
def d_l_odd_entry : He.DefD := ⟨("_law_odd_entry", none), "_law_odd_entry", "_law_odd_entry", defArgs s_l_odd_entry, defBody s_l_odd_entry, defScope s_l_odd_entry, [], []⟩
def d_l_odd : He.DefD := ⟨("_law_odd", none), "_law_odd", "_law_odd", defArgs s_l_odd, defBody s_l_odd, defScope s_l_odd, [], []⟩
def d_l_is_listed : He.DefD := ⟨("_law_is_listed", none), "_law_is_listed", "_law_is_listed", defArgs s_l_is_listed, defBody s_l_is_listed, defScope s_l_is_listed, [], []⟩
def d_law : He.DefD := ⟨("law", none), "law", "law", defArgs s_law, defBody s_law, defScope s_law, [], []⟩
def fn : List He.DefD := [d_fresh, d_pattern, d_count_classes, d_realise, d_entries_behind, d_all_patterns, d_is_entry, d_is_pattern, d_l_draw, d_l_pick, d_l_number, d_l_integer, d_l_kept, d_l_count, d_l_values, d_l_odd_entry, d_l_odd, d_l_is_listed, d_law]
def fa : List He.Fa := [.glo "fresh",
  .glo "pattern",
  .glo "count_classes",
  .glo "realise",
  .glo "entries_behind",
  .glo "all_patterns",
  .glo "is_entry",
  .glo "is_pattern",
  .glo "_law_draw",
  .glo "_law_pick",
  .glo "_law_number",
  .glo "_law_integer",
  .glo "_law_kept",
  .glo "_law_count",
  .glo "_law_values",
  .glo "_law_odd_entry",
  .glo "_law_odd",
  .glo "_law_is_listed",
  .glo "law",
  .free "len",
  .free "range",
  .free "int",
  .free "bool",
  .free "tuple",
  .free "list",
  .free "isinstance",
  .free "max",
  .free "sorted"]
def exs (K : PySem.W.Frag) : List Bool := []
structure Tx (K : PySem.W.Frag) (mg : Str → Option Value) (sa : Addr) (sx : List Int) : Prop where
  c : He.SaysD fa fn K
  k : (exs K).all id = true
  g0 : mg "fresh" = some (.ref (He.ga K "fresh"))
  g1 : mg "pattern" = some (.ref (He.ga K "pattern"))
  g2 : mg "count_classes" = some (.ref (He.ga K "count_classes"))
  g3 : mg "realise" = some (.ref (He.ga K "realise"))
  g4 : mg "entries_behind" = some (.ref (He.ga K "entries_behind"))
  g5 : mg "all_patterns" = some (.ref (He.ga K "all_patterns"))
  g6 : mg "is_entry" = some (.ref (He.ga K "is_entry"))
  g7 : mg "is_pattern" = some (.ref (He.ga K "is_pattern"))
  g8 : mg "_law_draw" = some (.ref (He.ga K "_law_draw"))
  g9 : mg "_law_pick" = some (.ref (He.ga K "_law_pick"))
  g10 : mg "_law_number" = some (.ref (He.ga K "_law_number"))
  g11 : mg "_law_integer" = some (.ref (He.ga K "_law_integer"))
  g12 : mg "_law_kept" = some (.ref (He.ga K "_law_kept"))
  g13 : mg "_law_count" = some (.ref (He.ga K "_law_count"))
  g14 : mg "_law_values" = some (.ref (He.ga K "_law_values"))
  g15 : mg "_law_odd_entry" = some (.ref (He.ga K "_law_odd_entry"))
  g16 : mg "_law_odd" = some (.ref (He.ga K "_law_odd"))
  g17 : mg "_law_is_listed" = some (.ref (He.ga K "_law_is_listed"))
  g18 : mg "law" = some (.ref (He.ga K "law"))
  n0 : mg "len" = none
  n1 : mg "range" = none
  n2 : mg "int" = none
  n3 : mg "bool" = none
  n4 : mg "tuple" = none
  n5 : mg "list" = none
  n6 : mg "isinstance" = none
  n7 : mg "max" = none
  n8 : mg "sorted" = none
section
variable {K : PySem.W.Frag} {mg : Str → Option Value} {sa : Addr} {sx : List Int}
theorem tx_of {h : Heap} (X : K.In h) (G : h.Ns mainGlobals mg) (c : He.SaysD fa fn K) (k : (exs K).all id = true) : Tx K mg sa sx :=
  ⟨c, k,
    He.glo_ok X G (c.fact 0 (f := .glo "fresh") rfl),
    He.glo_ok X G (c.fact 1 (f := .glo "pattern") rfl),
    He.glo_ok X G (c.fact 2 (f := .glo "count_classes") rfl),
    He.glo_ok X G (c.fact 3 (f := .glo "realise") rfl),
    He.glo_ok X G (c.fact 4 (f := .glo "entries_behind") rfl),
    He.glo_ok X G (c.fact 5 (f := .glo "all_patterns") rfl),
    He.glo_ok X G (c.fact 6 (f := .glo "is_entry") rfl),
    He.glo_ok X G (c.fact 7 (f := .glo "is_pattern") rfl),
    He.glo_ok X G (c.fact 8 (f := .glo "_law_draw") rfl),
    He.glo_ok X G (c.fact 9 (f := .glo "_law_pick") rfl),
    He.glo_ok X G (c.fact 10 (f := .glo "_law_number") rfl),
    He.glo_ok X G (c.fact 11 (f := .glo "_law_integer") rfl),
    He.glo_ok X G (c.fact 12 (f := .glo "_law_kept") rfl),
    He.glo_ok X G (c.fact 13 (f := .glo "_law_count") rfl),
    He.glo_ok X G (c.fact 14 (f := .glo "_law_values") rfl),
    He.glo_ok X G (c.fact 15 (f := .glo "_law_odd_entry") rfl),
    He.glo_ok X G (c.fact 16 (f := .glo "_law_odd") rfl),
    He.glo_ok X G (c.fact 17 (f := .glo "_law_is_listed") rfl),
    He.glo_ok X G (c.fact 18 (f := .glo "law") rfl),
    He.free_ok X G (c.fact 19 (f := .free "len") rfl),
    He.free_ok X G (c.fact 20 (f := .free "range") rfl),
    He.free_ok X G (c.fact 21 (f := .free "int") rfl),
    He.free_ok X G (c.fact 22 (f := .free "bool") rfl),
    He.free_ok X G (c.fact 23 (f := .free "tuple") rfl),
    He.free_ok X G (c.fact 24 (f := .free "list") rfl),
    He.free_ok X G (c.fact 25 (f := .free "isinstance") rfl),
    He.free_ok X G (c.fact 26 (f := .free "max") rfl),
    He.free_ok X G (c.fact 27 (f := .free "sorted") rfl)⟩
theorem g_fresh (T : Tx K mg sa sx) : mg "fresh" = some (.ref (He.ga K "fresh")) := T.g0
theorem g_pattern (T : Tx K mg sa sx) : mg "pattern" = some (.ref (He.ga K "pattern")) := T.g1
theorem g_count_classes (T : Tx K mg sa sx) : mg "count_classes" = some (.ref (He.ga K "count_classes")) := T.g2
theorem g_realise (T : Tx K mg sa sx) : mg "realise" = some (.ref (He.ga K "realise")) := T.g3
theorem g_entries_behind (T : Tx K mg sa sx) : mg "entries_behind" = some (.ref (He.ga K "entries_behind")) := T.g4
theorem g_all_patterns (T : Tx K mg sa sx) : mg "all_patterns" = some (.ref (He.ga K "all_patterns")) := T.g5
theorem g_is_entry (T : Tx K mg sa sx) : mg "is_entry" = some (.ref (He.ga K "is_entry")) := T.g6
theorem g_is_pattern (T : Tx K mg sa sx) : mg "is_pattern" = some (.ref (He.ga K "is_pattern")) := T.g7
theorem g__law_draw (T : Tx K mg sa sx) : mg "_law_draw" = some (.ref (He.ga K "_law_draw")) := T.g8
theorem g__law_pick (T : Tx K mg sa sx) : mg "_law_pick" = some (.ref (He.ga K "_law_pick")) := T.g9
theorem g__law_number (T : Tx K mg sa sx) : mg "_law_number" = some (.ref (He.ga K "_law_number")) := T.g10
theorem g__law_integer (T : Tx K mg sa sx) : mg "_law_integer" = some (.ref (He.ga K "_law_integer")) := T.g11
theorem g__law_kept (T : Tx K mg sa sx) : mg "_law_kept" = some (.ref (He.ga K "_law_kept")) := T.g12
theorem g__law_count (T : Tx K mg sa sx) : mg "_law_count" = some (.ref (He.ga K "_law_count")) := T.g13
theorem g__law_values (T : Tx K mg sa sx) : mg "_law_values" = some (.ref (He.ga K "_law_values")) := T.g14
theorem g__law_odd_entry (T : Tx K mg sa sx) : mg "_law_odd_entry" = some (.ref (He.ga K "_law_odd_entry")) := T.g15
theorem g__law_odd (T : Tx K mg sa sx) : mg "_law_odd" = some (.ref (He.ga K "_law_odd")) := T.g16
theorem g__law_is_listed (T : Tx K mg sa sx) : mg "_law_is_listed" = some (.ref (He.ga K "_law_is_listed")) := T.g17
theorem g_law (T : Tx K mg sa sx) : mg "law" = some (.ref (He.ga K "law")) := T.g18
theorem n_len (T : Tx K mg sa sx) : mg "len" = none := T.n0
theorem n_range (T : Tx K mg sa sx) : mg "range" = none := T.n1
theorem n_int (T : Tx K mg sa sx) : mg "int" = none := T.n2
theorem n_bool (T : Tx K mg sa sx) : mg "bool" = none := T.n3
theorem n_tuple (T : Tx K mg sa sx) : mg "tuple" = none := T.n4
theorem n_list (T : Tx K mg sa sx) : mg "list" = none := T.n5
theorem n_isinstance (T : Tx K mg sa sx) : mg "isinstance" = none := T.n6
theorem n_max (T : Tx K mg sa sx) : mg "max" = none := T.n7
theorem n_sorted (T : Tx K mg sa sx) : mg "sorted" = none := T.n8
theorem exs_at (T : Tx K mg sa sx) (i : Nat) {b : Bool} (h : (exs K)[i]? = some b := by rfl) : b = true := List.all_eq_true.mp T.k b (List.mem_of_getElem? h)
theorem f_fresh (T : Tx K mg sa sx) : ∃ fd, FunD K "fresh" "fresh" (defArgs s_fresh) (defBody s_fresh) (defScope s_fresh) [] [] (He.ga K "fresh") fd := T.c.def_ 0 (d := d_fresh) rfl
theorem f_pattern (T : Tx K mg sa sx) : ∃ fd, FunD K "pattern" "pattern" (defArgs s_pattern) (defBody s_pattern) (defScope s_pattern) [] [] (He.ga K "pattern") fd := T.c.def_ 1 (d := d_pattern) rfl
theorem f_count_classes (T : Tx K mg sa sx) : ∃ fd, FunD K "count_classes" "count_classes" (defArgs s_count_classes) (defBody s_count_classes) (defScope s_count_classes) [] [] (He.ga K "count_classes") fd := T.c.def_ 2 (d := d_count_classes) rfl
theorem f_realise (T : Tx K mg sa sx) : ∃ fd, FunD K "realise" "realise" (defArgs s_realise) (defBody s_realise) (defScope s_realise) [] [] (He.ga K "realise") fd := T.c.def_ 3 (d := d_realise) rfl
theorem f_entries_behind (T : Tx K mg sa sx) : ∃ fd, FunD K "entries_behind" "entries_behind" (defArgs s_entries_behind) (defBody s_entries_behind) (defScope s_entries_behind) [] [] (He.ga K "entries_behind") fd := T.c.def_ 4 (d := d_entries_behind) rfl
theorem f_all_patterns (T : Tx K mg sa sx) : ∃ fd, FunD K "all_patterns" "all_patterns" (defArgs s_all_patterns) (defBody s_all_patterns) (defScope s_all_patterns) [] [] (He.ga K "all_patterns") fd := T.c.def_ 5 (d := d_all_patterns) rfl
theorem f_is_entry (T : Tx K mg sa sx) : ∃ fd, FunD K "is_entry" "is_entry" (defArgs s_is_entry) (defBody s_is_entry) (defScope s_is_entry) [] [] (He.ga K "is_entry") fd := T.c.def_ 6 (d := d_is_entry) rfl
theorem f_is_pattern (T : Tx K mg sa sx) : ∃ fd, FunD K "is_pattern" "is_pattern" (defArgs s_is_pattern) (defBody s_is_pattern) (defScope s_is_pattern) [] [] (He.ga K "is_pattern") fd := T.c.def_ 7 (d := d_is_pattern) rfl
theorem f_l_draw (T : Tx K mg sa sx) : ∃ fd, FunD K "_law_draw" "_law_draw" (defArgs s_l_draw) (defBody s_l_draw) (defScope s_l_draw) [] [] (He.ga K "_law_draw") fd := T.c.def_ 8 (d := d_l_draw) rfl
theorem f_l_pick (T : Tx K mg sa sx) : ∃ fd, FunD K "_law_pick" "_law_pick" (defArgs s_l_pick) (defBody s_l_pick) (defScope s_l_pick) [] [] (He.ga K "_law_pick") fd := T.c.def_ 9 (d := d_l_pick) rfl
theorem f_l_number (T : Tx K mg sa sx) : ∃ fd, FunD K "_law_number" "_law_number" (defArgs s_l_number) (defBody s_l_number) (defScope s_l_number) [] [] (He.ga K "_law_number") fd := T.c.def_ 10 (d := d_l_number) rfl
theorem f_l_integer (T : Tx K mg sa sx) : ∃ fd, FunD K "_law_integer" "_law_integer" (defArgs s_l_integer) (defBody s_l_integer) (defScope s_l_integer) [] [] (He.ga K "_law_integer") fd := T.c.def_ 11 (d := d_l_integer) rfl
theorem f_l_kept (T : Tx K mg sa sx) : ∃ fd, FunD K "_law_kept" "_law_kept" (defArgs s_l_kept) (defBody s_l_kept) (defScope s_l_kept) [] [] (He.ga K "_law_kept") fd := T.c.def_ 12 (d := d_l_kept) rfl
theorem f_l_count (T : Tx K mg sa sx) : ∃ fd, FunD K "_law_count" "_law_count" (defArgs s_l_count) (defBody s_l_count) (defScope s_l_count) [] [] (He.ga K "_law_count") fd := T.c.def_ 13 (d := d_l_count) rfl
theorem f_l_values (T : Tx K mg sa sx) : ∃ fd, FunD K "_law_values" "_law_values" (defArgs s_l_values) (defBody s_l_values) (defScope s_l_values) [] [] (He.ga K "_law_values") fd := T.c.def_ 14 (d := d_l_values) rfl
theorem f_l_odd_entry (T : Tx K mg sa sx) : ∃ fd, FunD K "_law_odd_entry" "_law_odd_entry" (defArgs s_l_odd_entry) (defBody s_l_odd_entry) (defScope s_l_odd_entry) [] [] (He.ga K "_law_odd_entry") fd := T.c.def_ 15 (d := d_l_odd_entry) rfl
theorem f_l_odd (T : Tx K mg sa sx) : ∃ fd, FunD K "_law_odd" "_law_odd" (defArgs s_l_odd) (defBody s_l_odd) (defScope s_l_odd) [] [] (He.ga K "_law_odd") fd := T.c.def_ 16 (d := d_l_odd) rfl
theorem f_l_is_listed (T : Tx K mg sa sx) : ∃ fd, FunD K "_law_is_listed" "_law_is_listed" (defArgs s_l_is_listed) (defBody s_l_is_listed) (defScope s_l_is_listed) [] [] (He.ga K "_law_is_listed") fd := T.c.def_ 17 (d := d_l_is_listed) rfl
theorem f_law (T : Tx K mg sa sx) : ∃ fd, FunD K "law" "law" (defArgs s_law) (defBody s_law) (defScope s_law) [] [] (He.ga K "law") fd := T.c.def_ 18 (d := d_law) rfl
end
end K28
namespace K28
open PySem PySem.Spec PyProof.Rows L2 Cm
abbrev R : PySem.W.OpenRow := PySem.W.OpenLaw.row PySem.Challenge.rw_quietedition_k28_whole_all_patterns
def part (n : Nat) (g : Addr → Option Obj) : PySem.W.Frag := He.frG g (He.asD g n)
def seen (n : Nat) (g : Addr → Option Obj) : He.AlD × Bool := (He.obsD fa fn (part n g), (exs (part n g)).all id)
def hkz (n : Nat) : PySem.W.Hook where
  α := He.AlD × Bool
  obs s := seen n s.heap.get?
  val _ := (He.valD fn, true)
  says _ h := ∃ K : PySem.W.Frag, K.In h ∧ He.SaysD fa fn K ∧ (exs K).all id = true
  of _ _ e := ⟨_, He.frG_in, congrArg Prod.fst e, congrArg Prod.snd e⟩
  keeps _ _ _ := fun ⟨K, i, c⟩ k => ⟨K, PySem.W.Frag.In.keeps i k, c⟩
def ob (s : PySem.W.SharedT) : He.AlD × Bool := seen 2 (HandSHeadRun.getT s)
theorem ob_eq (s : PySem.W.SharedT) : ob s = (hkz 2).obs s.abs := by
  have e : HandSHeadRun.getT s = s.abs.heap.get? := funext (HandSHeadRun.getT_eq s)
  show seen 2 _ = seen 2 _
  rw [e]
def loose0 : List Str := ["fresh", "pattern", "count_classes", "realise", "entries_behind", "all_patterns", "is_entry", "is_pattern", "_law_draw", "_law_pick", "_law_number", "_law_integer", "_law_kept", "_law_count", "_law_values", "_law_odd_entry", "_law_odd", "_law_is_listed"]
def loose : List Str := loose0
theorem run (w : World) : HandSHeadRun.RunEq R (PySem.W.view R.prog [20]) (hkz 2) ob 1500 loose w := by
  intro os
  kernel_rfl
end K28
namespace K28
open PySem PySem.Spec PyProof.Rows Cm
open L2 hiding Same
def spDraw (K : PySem.W.Frag) (sa : Addr) (sx : List Int) : Sp := fun vs H Q _ => ∃ p m, vs = [.ref p, .int m] ∧ 0 < m ∧ IntOk m ∧ PoolAt K sa sx H p ∧ ∀ k H', 0 ≤ k → k < m → Kp p H H' → PoolAt K sa sx H' p → Q (.int k) H'
def spPick (K : PySem.W.Frag) (sa : Addr) (sx : List Int) : Sp := fun vs H Q _ => ∃ p a xs, vs = [.ref p, .ref a] ∧ H a = some (.lst xs) ∧ a ≠ p ∧ xs ≠ [] ∧ xs.length ≤ 1000 ∧ PoolAt K sa sx H p ∧ ∀ v H', v ∈ xs → Kp p H H' → PoolAt K sa sx H' p → Q v H'
def spNum (K : PySem.W.Frag) (sa : Addr) (sx : List Int) : Sp := fun vs H Q _ => ∃ p, vs = [.ref p] ∧ PoolAt K sa sx H p ∧ ∀ n H', n.natAbs ≤ 1000000000 → Kp p H H' → PoolAt K sa sx H' p → Q (.int n) H'
section
variable {P : Program} {w : World} {K : PySem.W.Frag} {mg : Str → Option Value} {base : Heap} {sa : Addr} {sx : List Int}
theorem ok_l_draw (T : Tx K mg sa sx) : Cal P w K mg base 1 "_law_draw" (spDraw K sa sx) := by
  obtain ⟨fd, F⟩ := f_l_draw T
  refine ⟨_, fd, ["_law_pool", "_law_many"], fnok F sc_l_draw (fun vs H Q E h => ?_) (fun cdv A outer s H vs Q E hr h => ?_), F.bindsN fun _ _ _ _ _ _ us hl => match us, hl with | [_, _], _ => rfl, g__law_draw T, F.kp⟩
  · obtain ⟨p, m, rfl, _⟩ := h; rfl
  · obtain ⟨p, m, rfl, m0, mo, ⟨i, b, s, hp, na, hS, i0, b0, s0, s1⟩, k⟩ := h
    refine ⟨_, (pss_cons (ps_if (pt_cmpR op_lt (pe_ix ix_list (pv 0) pe_int (fun _ _ => rfl)) pe_int (nomark _)) (pss_cons (ps_set (i := 2) sc_l_draw.nd rfl (by first | exact Or.inl rfl | exact Or.inr rfl) pe_int)
      (pss_cons (ps_if (pt_cmpR op_lt (pe_ix ix_list (pv 0) pe_int (fun _ _ => rfl)) (pe_callB (id := "len") call_len_seq rfl (n_len T) (by decide +kernel) (pa_cons (pe_ix ix_list (pv 0) pe_int (fun _ _ => rfl)) pa_nil)) (nomark _)) (pss_one (ps_set (i := 2) sc_l_draw.nd rfl (by first | exact Or.inl rfl | exact Or.inr rfl) (pe_ix ix_list (pe_ix ix_list (pv 0) pe_int (fun _ _ => rfl)) (pe_ix ix_list (pv 0) pe_int (fun _ _ => rfl)) (fun _ _ => rfl)))) pss_nil)
      (pss_cons (ps_asg (pe_op op_add (pe_ix ix_list (pv 0) pe_int (fun _ _ => rfl)) pe_int) (pg_sub (pv 0) pe_int set_list))
      (pss_cons (ps_if (pt_cmpR op_lt (pv 2) (pe_op op_pow pe_int pe_int) (nomark _)) (pss_cons (ps_asg (pe_op op_mod (pe_callTy (T := "int") call_int1 rfl (n_int T) (by decide +kernel) (pa_cons (pe_op op_add (pe_op op_add (pe_op op_add (pe_op op_mul (pe_ix ix_list (pv 0) pe_int (fun _ _ => rfl)) pe_int) (pe_op op_mul (pv 2) pe_int)) (pe_op op_mul (pe_ix ix_list (pv 0) pe_int (fun _ _ => rfl)) pe_int)) pe_int) pa_nil)) pe_int) (pg_sub (pv 0) pe_int set_list))
        (pss_one (ps_ret (pe_op op_mod (pe_callTy (T := "int") call_int1 rfl (n_int T) (by decide +kernel) (pa_cons (pe_op op_fdivW (pe_ix ix_list (pv 0) pe_int (fun _ _ => rfl)) pe_int) pa_nil)) (pv 1))))) pss_nil)
      (pss_one (ps_asg (pe_callTy (T := "int") call_int1 rfl (n_int T) (by decide +kernel) (pa_cons (pv 2) pa_nil)) (pg_sub (pv 0) pe_int set_list))))))) pss_nil)
    (pss_cons (ps_set (i := 3) sc_l_draw.nd rfl (by first | exact Or.inl rfl | exact Or.inr rfl) (pe_op op_mod (pe_callTy (T := "int") call_int1 rfl (n_int T) (by decide +kernel) (pa_cons (pe_ix ix_list (pv 0) pe_int (fun _ _ => rfl)) pa_nil)) (pv 1)))
    (pss_cons (ps_asg (pe_op op_fdivW (pe_callTy (T := "int") call_int1 rfl (n_int T) (by decide +kernel) (pa_cons (pe_ix ix_list (pv 0) pe_int (fun _ _ => rfl)) pa_nil)) (pv 1)) (pg_sub (pv 0) pe_int set_list))
    (pss_one (ps_ret (pv 3)))))), ?_⟩
    have ix : ∀ {H' : Hp} {xs : List V}, H' p = some (.lst xs) → SqL K H' p xs := fun h => SqL.of h
    have sl : ∀ {H' : Hp}, Kp p H H' → SqL K H' sa (sx.map V.int) := fun k => na.elim (fun n => k.sl n hS) (fun z => z _)
    refine ⟨_, rfl, p, _, 2, _, rfl, rfl, ix hp, rfl, _, _, rfl, rfl, _, rfl, dC (fun hb => ?_) (fun hb => ?_)⟩
    · -- cell = 0; the script's next number
      refine ⟨_, rfl, p, _, 1, _, rfl, rfl, ix hp, rfl, _, rfl, p, _, 0, _, rfl, rfl, ix hp, rfl, sa, _, rfl, .inl hS, _, _, rfl, rfl, _, rfl, dC (fun hi => ?_) (fun hi => ?_)⟩
      · have hi2 : i.toNat < sx.length := by rw [List.length_map] at hi; omega
        refine ⟨_, rfl, p, _, 0, _, rfl, rfl, ix hp, rfl, _, rfl, p, _, 1, _, rfl, rfl, ix hp, rfl, sa, _, i, V.int sx[i.toNat], rfl, rfl, hS, at_of (j := i.toNat) (by omega) (by simp [hi2]), ?_⟩
        refine ⟨_, rfl, p, _, 1, _, rfl, rfl, ix hp, rfl, _, _, rfl, rfl, _, rfl, p, _, 1, 1, rfl, rfl, hp, rfl, ?_⟩
        refine ⟨_, rfl, _, _, rfl, rfl, ⟨by decide, by decide, by decide⟩, _, _, rfl, rfl, _, rfl, dC (fun hc => ?_) (fun hc => ?_)⟩
        · refine ⟨_, rfl, p, _, 3, _, rfl, rfl, ix upd_same, rfl, _, _, rfl, rfl, .inr ⟨by decide, by decide⟩, _, rfl, _, _, rfl, rfl, .inr ⟨by decide, by decide⟩, _, _, rfl, rfl,
            _, rfl, p, _, 1, _, rfl, rfl, ix upd_same, rfl, _, _, rfl, rfl, .inr ⟨by decide, by decide⟩, _, _, rfl, rfl, _, _, rfl, rfl, .inl ⟨_, rfl, _, _, rfl, rfl, (by show (0 : Int) < 2147483647; decide), _, rfl, p, _, 3, 3, rfl, rfl, upd_same, rfl, ?_⟩⟩
          refine ⟨_, rfl, p, _, 3, _, rfl, rfl, ix upd_same, rfl, _, _, rfl, rfl, ⟨by decide, by decide +kernel⟩, .inl ⟨_, rfl, _, rfl, _, _, rfl, rfl, m0, ?_⟩⟩
          refine k _ _ (Int.emod_nonneg _ (by omega)) (Int.emod_lt_of_pos _ m0) (Kp.refl.at.at) ⟨_, b, _, upd_same, na, sl Kp.refl.at.at, (by omega : (0 : Int) ≤ i + 1), b0, Int.emod_nonneg _ (by decide), Int.emod_lt_of_pos _ (by decide)⟩
        · refine ⟨_, rfl, .inl ⟨_, rfl, _, rfl, p, _, 2, 2, rfl, rfl, upd_same, rfl, ?_⟩⟩
          have hc0 : (0 : Int) ≤ sx[i.toNat] := by
            have : ((10 : Int) ^ (18 : Int).toNat) = 1000000000000000000 := by decide
            omega
          refine ⟨_, rfl, p, _, 2, _, rfl, rfl, ix upd_same, rfl, .inl ⟨_, rfl, _, rfl, _, _, rfl, rfl, m0, ?_⟩⟩
          refine ⟨_, rfl, p, _, 2, _, rfl, rfl, ix upd_same, rfl, .inl ⟨_, rfl, _, rfl, _, _, rfl, rfl, wd m0 mo, _, rfl, p, _, 2, 2, rfl, rfl, upd_same, rfl, ?_⟩⟩
          refine ⟨_, rfl, ?_⟩
          exact k _ _ (Int.emod_nonneg _ (by omega)) (Int.emod_lt_of_pos _ m0) (Kp.refl.at.at.at) ⟨_, _, s, upd_same, na, sl Kp.refl.at.at.at, (by omega : (0 : Int) ≤ i + 1), Int.ediv_nonneg hc0 (by omega), s0, s1⟩
      · refine ⟨_, rfl, p, _, 1, _, rfl, rfl, ix hp, rfl, _, _, rfl, rfl, _, rfl, p, _, 1, 1, rfl, rfl, hp, rfl, ?_⟩
        refine ⟨_, rfl, _, _, rfl, rfl, ⟨by decide, by decide, by decide⟩, _, _, rfl, rfl, _, rfl, dC (fun hc => ?_) (fun hc => ?_)⟩
        · refine ⟨_, rfl, p, _, 3, _, rfl, rfl, ix upd_same, rfl, _, _, rfl, rfl, .inr ⟨by decide, by decide⟩, _, rfl, _, _, rfl, rfl, .inr ⟨by decide, by decide⟩, _, _, rfl, rfl,
            _, rfl, p, _, 1, _, rfl, rfl, ix upd_same, rfl, _, _, rfl, rfl, .inr ⟨by decide, by decide⟩, _, _, rfl, rfl, _, _, rfl, rfl, .inl ⟨_, rfl, _, _, rfl, rfl, (by show (0 : Int) < 2147483647; decide), _, rfl, p, _, 3, 3, rfl, rfl, upd_same, rfl, ?_⟩⟩
          refine ⟨_, rfl, p, _, 3, _, rfl, rfl, ix upd_same, rfl, _, _, rfl, rfl, ⟨by decide, by decide +kernel⟩, .inl ⟨_, rfl, _, rfl, _, _, rfl, rfl, m0, ?_⟩⟩
          exact k _ _ (Int.emod_nonneg _ (by omega)) (Int.emod_lt_of_pos _ m0) (Kp.refl.at.at) ⟨_, b, _, upd_same, na, sl Kp.refl.at.at, (by omega : (0 : Int) ≤ i + 1), b0, Int.emod_nonneg _ (by decide), Int.emod_lt_of_pos _ (by decide)⟩
        · exact absurd (by decide) hc
    · refine ⟨_, rfl, p, _, 2, _, rfl, rfl, ix hp, rfl, .inl ⟨_, rfl, _, rfl, _, _, rfl, rfl, m0, ?_⟩⟩
      refine ⟨_, rfl, p, _, 2, _, rfl, rfl, ix hp, rfl, .inl ⟨_, rfl, _, rfl, _, _, rfl, rfl, wd m0 mo, _, rfl, p, _, 2, 2, rfl, rfl, hp, rfl, ?_⟩⟩
      refine ⟨_, rfl, ?_⟩
      exact k _ _ (Int.emod_nonneg _ (by omega)) (Int.emod_lt_of_pos _ m0) Kp.refl.at ⟨_, _, s, upd_same, na, sl Kp.refl.at, i0, Int.ediv_nonneg b0 (by omega), s0, s1⟩
theorem ok_l_pick (T : Tx K mg sa sx) : Cal P w K mg base 2 "_law_pick" (spPick K sa sx) := by
  obtain ⟨fd, F⟩ := f_l_pick T
  refine ⟨_, fd, ["_law_pool", "_law_things"], fnok F sc_l_pick (fun vs H Q E h => ?_) (fun cdv A outer s H vs Q E hr h => ?_), F.bindsN fun _ _ _ _ _ _ us hl => match us, hl with | [_, _], _ => rfl, g__law_pick T, F.kp⟩
  · obtain ⟨p, a, xs, rfl, _⟩ := h; rfl
  · obtain ⟨p, a, xs, rfl, ha, np, n0, n1, hP, k⟩ := h
    refine ⟨_, (pss_one (ps_ret (pe_ix ix_list (pv 1) (pe_cal (ok_l_draw T) hr (by decide) (pa_cons (pv 0) (pa_cons (pe_callB (id := "len") call_len_seq rfl (n_len T) (by decide +kernel) (pa_cons (pv 1) pa_nil)) pa_nil))) (fun _ _ => rfl)))), ?_⟩
    have l0 : 0 < xs.length := List.length_pos_iff.mpr n0
    refine ⟨_, rfl, _, rfl, _, rfl, a, _, rfl, .inl (SqL.of ha), p, (xs.length : Int), rfl, by omega, io (by omega), hP, fun r H1 r0 r1 k1 b1 => ?_⟩
    have hr2 : r.toNat < xs.length := by omega
    exact ⟨a, _, r, xs[r.toNat], rfl, rfl, SqL.of (k1 _ _ np ha), at_of (j := r.toNat) (by omega) (List.getElem?_eq_getElem hr2), k _ _ (List.getElem_mem hr2) k1 b1⟩
theorem ok_l_number (T : Tx K mg sa sx) : Cal P w K mg base 2 "_law_number" (spNum K sa sx) := by
  obtain ⟨fd, F⟩ := f_l_number T
  refine ⟨_, fd, ["_law_pool"], fnok F sc_l_number (fun vs H Q E h => ?_) (fun cdv A outer s H vs Q E hr h => ?_), F.bindsN fun _ _ _ _ _ _ us hl => match us, hl with | [_], _ => rfl, g__law_number T, F.kp⟩
  · obtain ⟨p, rfl, _⟩ := h; rfl
  · obtain ⟨p, rfl, hP, k⟩ := h
    refine ⟨_, (pss_cons (ps_set (i := 1) sc_l_number.nd rfl (by first | exact Or.inl rfl | exact Or.inr rfl) (pe_cal (ok_l_draw T) hr (by decide) (pa_cons (pv 0) (pa_cons pe_int pa_nil))))
    (pss_cons (ps_if (pt_cmpR op_eq (pv 1) pe_int (nomark _)) (pss_one (ps_ret (pe_op op_sub (pe_cal (ok_l_draw T) hr (by decide) (pa_cons (pv 0) (pa_cons pe_int pa_nil))) pe_int))) pss_nil)
    (pss_cons (ps_if (pt_cmpR op_eq (pv 1) pe_int (nomark _)) (pss_one (ps_ret (pe_op op_sub pe_int (pe_cal (ok_l_draw T) hr (by decide) (pa_cons (pv 0) (pa_cons pe_int pa_nil)))))) pss_nil)
    (pss_cons (ps_if (pt_cmpR op_eq (pv 1) pe_int (nomark _)) (pss_one (ps_ret (pe_op op_sub (pe_cal (ok_l_draw T) hr (by decide) (pa_cons (pv 0) (pa_cons pe_int pa_nil))) pe_int))) pss_nil)
    (pss_one (ps_ret (pe_cal (ok_l_draw T) hr (by decide) (pa_cons (pv 0) (pa_cons pe_int pa_nil))))))))), ?_⟩
    refine ⟨_, rfl, p, 6, rfl, by decide, io (by decide), hP, fun j H1 j0 j6 k1 p1 => ?_⟩
    refine ⟨_, rfl, rfl, _, rfl, dC (fun _ => ?_) (fun _ => ?_)⟩
    · exact ⟨_, rfl, p, 1000, rfl, by decide, io (by decide), p1, fun i H2 i0 i1 k2 p2 => ⟨_, _, rfl, rfl, k _ _ (by omega) (k1.trans k2) p2⟩⟩
    refine ⟨_, rfl, rfl, _, rfl, dC (fun _ => ?_) (fun _ => ?_)⟩
    · exact ⟨_, rfl, p, 1000000000, rfl, by decide, io (by decide), p1, fun i H2 i0 i1 k2 p2 => ⟨_, _, rfl, rfl, k _ _ (by omega) (k1.trans k2) p2⟩⟩
    refine ⟨_, rfl, rfl, _, rfl, dC (fun _ => ?_) (fun _ => ?_)⟩
    · exact ⟨_, rfl, p, 1999999999, rfl, by decide, io (by decide), p1, fun i H2 i0 i1 k2 p2 => ⟨_, _, rfl, rfl, k _ _ (by omega) (k1.trans k2) p2⟩⟩
    · exact ⟨_, rfl, p, 3, rfl, by decide, io (by decide), p1, fun i H2 i0 i1 k2 p2 => k _ _ (by omega) (k1.trans k2) p2⟩
end
end K28
namespace K28
open PySem PySem.Spec PyProof.Rows Cm
open L2 hiding Same
def spKept (K : PySem.W.Frag) (sa : Addr) (sx : List Int) : Sp := fun vs H Q _ => ∃ p, vs = [.ref p] ∧ PoolAt K sa sx H p ∧ ∀ (a : Addr) (ns : List Int) (H' : Hp), H a = none → H' a = some (.lst (ns.map V.int)) → ns.length ≤ 3 → ns.Nodup → Kp p H H' → PoolAt K sa sx H' p → Q (.ref a) H'
section
variable {P : Program} {w : World} {K : PySem.W.Frag} {mg : Str → Option Value} {base : Heap} {sa : Addr} {sx : List Int}
theorem ok_l_kept (T : Tx K mg sa sx) : Cal P w K mg base 3 "_law_kept" (spKept K sa sx) := by
  obtain ⟨fd, F⟩ := f_l_kept T
  refine ⟨_, fd, ["_law_pool"], fnok F sc_l_kept (fun vs H Q E h => ?_) (fun cdv A outer s H vs Q E hr h => ?_), F.bindsN fun _ _ _ _ _ _ us hl => match us, hl with | [_], _ => rfl, g__law_kept T, F.kp⟩
  · obtain ⟨p, rfl, _⟩ := h; rfl
  · obtain ⟨p, rfl, hP, k⟩ := h
    refine ⟨_, (pss_cons (ps_set (i := 1) sc_l_kept.nd rfl (by first | exact Or.inl rfl | exact Or.inr rfl) (pe_lst pa_nil))
    (pss_cons (ps_for PassesOwn.never rfl (pi_range1 rfl (n_range T) (pa_cons (pe_cal (ok_l_draw T) hr (by decide) (pa_cons (pv 0) (pa_cons pe_int pa_nil))) pa_nil)) (pg_name (i := 2) sc_l_kept.nd rfl (by first | exact Or.inl rfl | exact Or.inr rfl))
      (pss_cons (ps_set (i := 3) sc_l_kept.nd rfl (by first | exact Or.inl rfl | exact Or.inr rfl) (pe_cal (ok_l_number T) hr (by decide) (pa_cons (pv 0) pa_nil)))
      (pss_one (ps_if (pt_cmpR op_notIn_seq (pv 3) (pv 1) (by rfl)) (pss_one (ps_expr (pe_bm PySem.F.plainAttrs_list PySem.F.slot_list_append PySem.F.type_list_append mt_append (pv 1) (pa_cons (pv 3) pa_nil)))) pss_nil))))
    (pss_one (ps_ret (pv 1))))), ?_⟩
    refine ⟨sz1 (by simp), fun a ha => ?_⟩
    have nap := pool_ne hP ha
    have fr := pool_fresh hP ha
    refine ⟨_, rfl, p, 4, rfl, by decide, io (by decide), pool_new hP ha, fun m H2 m0 m1 k2 p2 => ⟨m, rfl, by omega, by omega, ?_⟩⟩
    refine for_range (lo := 0) (n := m.toNat) (fun t σ H' => ∃ (ns : List Int) (v w : Option V), σ = [some (.ref p), some (.ref a), v, w] ∧ H' a = some (.lst (ns.map V.int)) ∧ ns.length ≤ t ∧ ns.Nodup ∧ Kp p H H' ∧ PoolAt K sa sx H' p)
      ⟨[], none, none, rfl, k2 _ _ nap upd_same, Nat.le_refl _, List.nodup_nil, (Kp.refl.new ha).trans k2, p2⟩ ?_ ?_
    · rintro t σ H' ht ⟨ns, v, w, rfl, hA, lt, nd, kk, pp⟩
      refine ⟨_, rfl, p, rfl, pp, fun n H3 hn k3 p3 => ?_⟩
      have hA3 := k3 _ _ nap hA
      refine ⟨_, rfl, _, rfl, a, _, rfl, .inl (SqL.of hA3), rfl, flat_ints _, _, rfl, ?_⟩
      rw [inV_ints]
      refine uC (fun c => ?_) (fun c => ?_)
      · refine ⟨_, rfl, .inl ⟨rfl, _, SqL.of hA3⟩, _, rfl, a, _, _, rfl, rfl, hA3, sz2 (by rw [List.length_map]; omega), ?_⟩
        exact ⟨ns ++ [n], _, _, rfl, by rw [List.map_append]; exact upd_same, by rw [List.length_append]; exact Nat.succ_le_succ lt, nodup_app nd c, kmut (kk.trans k3) ha, pool_upd p3 nap fr⟩
      · exact ⟨ns, _, _, rfl, hA3, Nat.le_succ_of_le lt, nd, kk.trans k3, p3⟩
    · rintro σ H' ⟨ns, v, w, rfl, hA, lt, nd, kk, pp⟩
      exact ⟨_, rfl, k a ns _ ha hA (by omega) nd kk pp⟩
end
end K28
namespace K28
open PySem PySem.Spec PyProof.Rows Cm
open L2 hiding Same
def spFresh (K : PySem.W.Frag) : Sp := fun vs H Q _ => ∃ (c : Nat) (t : Addr) (ts : List Int), vs = [.int (c : Int), .ref t] ∧ c ≤ 100 ∧ H t = some (.lst (ts.map V.int)) ∧ ts.length ≤ 100 ∧
  ∀ (r : Addr) (H' : Hp), H r = none → Same H H' → H' r = some (.lst ((frs c ts).map V.int)) → Q (.ref r) H'
def spPatT (K : PySem.W.Frag) : Sp := fun vs H Q _ => ∃ (a b : Addr) (xs ks : List Int), vs = [.ref a, .ref b] ∧ H a = some (.tup (xs.map V.int)) ∧ xs.length ≤ 100 ∧ H b = some (.lst (ks.map V.int)) ∧
  ∀ (t : Addr) (H' : Hp), H t = none → Same H H' → PatAt H' t (pat ks [] xs) → Q (.ref t) H'
def spCount (K : PySem.W.Frag) : Sp := fun vs H Q _ => ∃ (a : Addr) (es : List En), vs = [.ref a] ∧ PatAt H a es ∧ es.length ≤ 100 ∧ ∀ (c : Nat) (H' : Hp), CntOk c es → Same H H' → Q (.int (c : Int)) H'
def spReal (K : PySem.W.Frag) : Sp := fun vs H Q _ => ∃ (a b : Addr) (es : List En) (ks : List Int), vs = [.ref a, .ref b] ∧ PatAt H a es ∧ es.length ≤ 100 ∧ (∀ i, En.n i ∈ es → i < 100) ∧ H b = some (.lst (ks.map V.int)) ∧ ks.length ≤ 100 ∧
  ∀ (c : Nat) (t : Addr) (H' : Hp), CntOk c es → H t = none → Same H H' → H' t = some (.tup ((es.map (rz (frs c ks))).map V.int)) → Q (.ref t) H'
section
variable {P : Program} {w : World} {K : PySem.W.Frag} {mg : Str → Option Value} {base : Heap} {sa : Addr} {sx : List Int}
theorem ok_fresh (T : Tx K mg sa sx) : Cal P w K mg base 1 "fresh" (spFresh K) := by
  obtain ⟨fd, F⟩ := f_fresh T
  refine ⟨_, fd, ["count", "taken"], fnok F sc_fresh (fun vs H Q E h => ?_) (fun cdv A outer s H vs Q E hr h => ?_), F.bindsN fun _ _ _ _ _ _ us hl => match us, hl with | [_, _], _ => rfl, g_fresh T, F.kp⟩
  · obtain ⟨c, t, ts, rfl, _⟩ := h; rfl
  · obtain ⟨c, t, ts, rfl, hc, ht, lt, k⟩ := h
    refine ⟨_, (pss_one (ps_ret (pe_slice sl_list (pe_lc (own := [("n", 2)]) (g := gName 2) rfl sc_fresh.nd (pi_range1 rfl (n_range T) (pa_cons (pe_op op_add (pv 0) (pe_callB (id := "len") call_len_seq rfl (n_len T) (by decide +kernel) (pa_cons (pv 1) pa_nil))) pa_nil)) (blkOk_by (own := [("n", 2)]) (N := ["count", "taken", "n"]) (sc := defScope s_fresh) (by decide +kernel)) (fun _ _ _ _ _ => pg_name (i := 2) sc_fresh.nd rfl (Or.inl rfl)) (fun _ _ _ _ _ => (pts_one (pt_cmpR (show OpR _ _ (rIn K true) from op_notIn_seq) (pv 2) (pv 1) (by rfl)))) (fun _ _ _ _ _ => (pv 2))) po_none (po_some (pv 0))))), ?_⟩
    refine ⟨_, rfl, _, rfl, t, _, rfl, .inl (SqL.of ht), _, _, rfl, rfl, _, rfl, by rw [List.length_map]; omega, by rw [List.length_map]; omega, fun D hD => ?_⟩
    rw [List.length_map]
    refine lc_range (lo := 0) (n := ((c : Int) + (ts.length : Int)).toNat) (fun i H' => H' = upd H D (.lst ((fre ts i).map V.int))) rfl ?_ ?_
    · rintro i H' hi rfl
      refine ⟨rfl, _, rfl, _, rfl, t, _, rfl, .inl (SqL.of ((upd_ne (ne_of_none ht hD)).trans ht)), rfl, flat_ints _, _, rfl, ?_⟩
      rw [inV_ints, Int.zero_add]
      refine uC (fun c => ?_) (fun c => ?_)
      · refine ⟨_, rfl, _, upd_same, sz2 ?_, ?_⟩
        · have : (fre ts i).length ≤ i := by unfold fre; exact Nat.le_trans (List.length_filter_le _ _) (by simp)
          rw [List.length_map]; omega
        · rw [upd_upd, fre_succ, if_pos c, List.map_append]; rfl
      · show upd H D _ = upd H D _
        rw [fre_succ, if_neg (by simpa using c), List.append_nil]
    · rintro H' rfl
      refine ⟨_, rfl, _, rfl, D, _, rfl, SqL.of upd_same, fun p hp => ?_⟩
      have e : cutV ((fre ts ((c : Int) + (ts.length : Int)).toNat).map V.int) none (some (c : Int)) = (frs c ts).map V.int := by
        rw [cut_take, ← List.map_take]
        rw [show ((c : Int) + (ts.length : Int)).toNat = c + ts.length from by omega]; rfl
      have s1 : Same H (upd H D (.lst ((fre ts ((c : Int) + (ts.length : Int)).toNat).map V.int))) := Same.new hD
      exact k p _ (s1.free hp) (s1.mut (s1.free hp)) (by rw [e]; exact upd_same)
theorem ok_patternT (T : Tx K mg sa sx) : Cal P w K mg base 1 "pattern" (spPatT K) := by
  obtain ⟨fd, F⟩ := f_pattern T
  refine ⟨_, fd, ["values", "kept"], fnok F sc_pattern (fun vs H Q E h => ?_) (fun cdv A outer s H vs Q E hr h => ?_), F.bindsN fun _ _ _ _ _ _ us hl => match us, hl with | [_, _], _ => rfl, g_pattern T, F.kp⟩
  · obtain ⟨a, b, xs, ks, rfl, _⟩ := h; rfl
  · obtain ⟨a, b, xs, ks, rfl, ha, lx, hb, k⟩ := h
    refine ⟨_, (pss_cons (ps_set (i := 2) sc_pattern.nd rfl (by first | exact Or.inl rfl | exact Or.inr rfl) pe_dnewK)
    (pss_cons (ps_set (i := 3) sc_pattern.nd rfl (by first | exact Or.inl rfl | exact Or.inr rfl) (pe_lst pa_nil))
    (pss_cons (ps_for PassesOwn.never rfl (pi_tup (pv 0)) (pg_name (i := 4) sc_pattern.nd rfl (by first | exact Or.inl rfl | exact Or.inr rfl))
      (pss_one (ps_if (pt_cmpR op_in_seq (pv 4) (pv 1) (by rfl)) (pss_one (ps_expr (pe_bm PySem.F.plainAttrs_list PySem.F.slot_list_append PySem.F.type_list_append mt_append (pv 3) (pa_cons (pe_tup (pa_cons pe_str (pa_cons (pv 4) pa_nil))) pa_nil)))) (pss_one (ps_expr (pe_bm PySem.F.plainAttrs_list PySem.F.slot_list_append PySem.F.type_list_append mt_append (pv 3) (pa_cons (pe_tup (pa_cons pe_str (pa_cons (pe_dsetd (pv 2) (pv 4) (pe_callB (id := "len") call_lenD rfl (n_len T) (by decide +kernel) (pa_cons (pv 2) pa_nil)) ⟨by rfl, by rfl, by rfl, by rfl⟩) pa_nil))) pa_nil)))))))
    (pss_one (ps_ret (pe_callTy (T := "tuple") call_tuple_of rfl (n_tuple T) (by decide +kernel) (pa_cons (pv 3) pa_nil))))))), ?_⟩
    refine fun d hd => ⟨sz1 (by simp), fun e he => ?_⟩
    have s0 : Same H (upd (upd H d (.dK [])) e (.lst [])) := (Same.new hd).trans (Same.new he)
    have nde : d ≠ e := ne_of_none upd_same he
    have he0 : H e = none := (Same.new hd).free he
    refine ⟨_, rfl, a, rfl, ⟨_, SqT.of (s0 _ _ ha)⟩, ?_⟩
    refine for_tup (K := K) (a := a) (xs := xs.map V.int) (fun i σ H' => ∃ (l : List AE) (s : List Int) (v : Option V), σ = [some (.ref a), some (.ref b), some (.ref d), some (.ref e), v] ∧ Same H H' ∧ H' d = some (.dK (kvs s)) ∧ H' e = some (.lst (rf l)) ∧ (∀ q ∈ l, H' q.1 = some (.tup q.2.vs)) ∧ l.map (·.2) ++ pat ks s (xs.drop i) = pat ks [] xs ∧ l.length = i ∧ s.length ≤ i)
      ⟨[], [], none, rfl, s0, (upd_ne nde).trans upd_same, upd_same, (by simp), rfl, rfl, Nat.le_refl _⟩ (fun i σ H' _ ⟨_, _, _, _, sm, _⟩ => SqT.of (sm _ _ ha)) ?_ ?_
    · rintro i x σ H' hi ⟨l, s, v, rfl, sm, hD, hE, hq, eq, ll, ls⟩
      obtain ⟨hi2, rfl⟩ := map_at hi
      have dr : xs.drop i = xs[i] :: xs.drop (i + 1) := List.drop_eq_getElem_cons hi2
      have neE : ∀ {q : Addr} {ys : List V}, H' q = some (.tup ys) → q ≠ e := fun h => ne_of h hE (by intro z; cases z)
      have neD : ∀ {q : Addr} {ys : List V}, H' q = some (.tup ys) → q ≠ d := fun h => ne_of h hD (by intro z; cases z)
      refine ⟨_, rfl, _, rfl, b, _, rfl, .inl (SqL.of (sm _ _ hb)), rfl, flat_ints _, _, rfl, ?_⟩
      rw [inV_ints]
      refine dC (fun c => ?_) (fun c => ?_)
      · refine ⟨_, rfl, .inl ⟨rfl, _, SqL.of hE⟩, _, rfl, sz1 (by simp), fun t ht => ?_⟩
        have hE2 := (upd_ne (ne_of_none hE ht) (o := .tup [V.str "kept", V.int xs[i]])).trans hE
        refine ⟨e, _, _, rfl, rfl, hE2, sz2 (by unfold rf; rw [List.length_map]; omega), ?_⟩
        have nte : t ≠ e := (ne_of_none hE ht).symm
        refine ⟨l ++ [(t, .k xs[i])], s, _, rfl, (sm.mut (sm.free ht)).mut he0, (upd_ne nde).trans ((upd_ne (ne_of_none hD ht)).trans hD), by unfold rf; rw [List.map_append]; exact upd_same, fun q hq' => ?_, ?_, by simp [ll], by omega⟩
        · rcases List.mem_append.mp hq' with h | h
          · exact (upd_ne (neE (hq q h))).trans ((upd_ne (ne_of_none (hq q h) ht)).trans (hq q h))
          · simp at h; subst h; exact (upd_ne nte).trans upd_same
        · rw [← eq, dr, pat_k c, List.map_append, List.append_assoc]; rfl
      · refine ⟨_, rfl, .inl ⟨rfl, _, SqL.of hE⟩, _, rfl, d, rfl, .inl ⟨_, .inl hD⟩, _, rfl, _, rfl, d, _, rfl, hD, kvs s, .inl xs[i], hD, rfl, sz2 (by rw [kvs_len]; omega), fun v hv => ?_, fun hv => ?_⟩
        · rw [val_kvs] at hv
          by_cases cs : xs[i] ∈ s
          · rw [if_pos cs] at hv
            obtain rfl := Option.some.inj hv
            refine ⟨sz1 (by simp), fun t ht => ?_⟩
            have hE2 := (upd_ne (ne_of_none hE ht) (o := .tup [V.str "new", V.int ((s.idxOf xs[i] : Nat) : Int)])).trans hE
            refine ⟨e, _, _, rfl, rfl, hE2, sz2 (by unfold rf; rw [List.length_map]; omega), ?_⟩
            have nte : t ≠ e := (ne_of_none hE ht).symm
            refine ⟨l ++ [(t, .n (s.idxOf xs[i]))], s, _, rfl, (sm.mut (sm.free ht)).mut he0, (upd_ne nde).trans ((upd_ne (ne_of_none hD ht)).trans hD), by unfold rf; rw [List.map_append]; exact upd_same, fun q hq' => ?_, ?_, by simp [ll], by omega⟩
            · rcases List.mem_append.mp hq' with h | h
              · exact (upd_ne (neE (hq q h))).trans ((upd_ne (ne_of_none (hq q h) ht)).trans (hq q h))
              · simp at h; subst h; exact (upd_ne nte).trans upd_same
            · rw [← eq, dr, pat_o c cs, List.map_append, List.append_assoc]; rfl
          · rw [if_neg cs] at hv; cases hv
        · rw [val_kvs] at hv
          by_cases cs : xs[i] ∈ s
          · rw [if_pos cs] at hv; cases hv
          · rw [put_kvs cs]
            have hE1 : (upd H' d (.dK (kvs (s ++ [xs[i]])))) e = some (.lst (rf l)) := (upd_ne nde.symm).trans hE
            refine ⟨sz1 (by simp), fun t ht => ?_⟩
            have htH : H' t = none := by
              by_cases z : t = d
              · subst z; rw [upd_same] at ht; cases ht
              · rw [upd_ne z] at ht; exact ht
            have ntd : d ≠ t := fun z => by subst z; rw [hD] at htH; cases htH
            have hE2 := (upd_ne (ne_of_none hE1 ht) (o := .tup [V.str "new", V.int ((kvs s).length : Int)])).trans hE1
            refine ⟨e, _, _, rfl, rfl, hE2, sz2 (by unfold rf; rw [List.length_map]; omega), ?_⟩
            have nte : t ≠ e := (ne_of_none hE1 ht).symm
            have smd : Same H (upd H' d (.dK (kvs (s ++ [xs[i]])))) := sm.mut hd
            refine ⟨l ++ [(t, .n s.length)], s ++ [xs[i]], _, rfl, (smd.mut (smd.free ht)).mut he0, (upd_ne nde).trans ((upd_ne ntd).trans upd_same), by unfold rf; rw [List.map_append]; exact upd_same, fun q hq' => ?_, ?_, by simp [ll], by rw [List.length_append]; exact Nat.succ_le_succ ls⟩
            · rcases List.mem_append.mp hq' with h | h
              · exact (upd_ne (neE (hq q h))).trans ((upd_ne (ne_of_none (hq q h) htH)).trans ((upd_ne (neD (hq q h))).trans (hq q h)))
              · simp at h; subst h; rw [upd_ne nte, upd_same, kvs_len]; rfl
            · rw [← eq, dr, pat_n c cs, List.map_append, List.append_assoc]; rfl
    · rintro σ H' ⟨l, s, v, rfl, sm, hD, hE, hq, eq, ll, ls⟩
      refine ⟨_, rfl, e, _, rfl, .inl ⟨SqL.of hE, fun t ht => ?_⟩⟩
      refine k t _ (sm.free ht) (sm.mut (sm.free ht)) ⟨l, upd_same, ?_, fun q h => (upd_ne (ne_of_none (hq q h) ht)).trans (hq q h)⟩
      rw [List.length_map, List.drop_length] at eq
      simpa [pat] using eq
theorem ok_count_classes (T : Tx K mg sa sx) : Cal P w K mg base 1 "count_classes" (spCount K) := by
  obtain ⟨fd, F⟩ := f_count_classes T
  refine ⟨_, fd, ["entries"], fnok F sc_count_classes (fun vs H Q E h => ?_) (fun cdv A outer s H vs Q E hr h => ?_), F.bindsN fun _ _ _ _ _ _ us hl => match us, hl with | [_], _ => rfl, g_count_classes T, F.kp⟩
  · obtain ⟨a, es, rfl, _⟩ := h; rfl
  · obtain ⟨a, es, rfl, ⟨l, ha, rfl, hq⟩, le, k⟩ := h
    rw [List.length_map] at le
    refine ⟨_, (pss_one (ps_ret (pe_callBK (call_maxD rfl hr.units) rfl (n_max T) (by decide +kernel) (pa_cons (pe_lc (own := [("entry", 1)]) (g := gName 1) rfl sc_count_classes.nd (pi_tup (pv 0)) (blkOk_by (own := [("entry", 1)]) (N := ["entries", "entry"]) (sc := defScope s_count_classes) (by decide +kernel)) (fun _ _ _ _ _ => pg_name (i := 1) sc_count_classes.nd rfl (Or.inl rfl)) (fun _ _ _ _ _ => (pts_one (pt_cmpR op_eq (pe_ix (show IxR _ (rIxT K) from ix_tup) (pv 1) pe_int (fun _ _ => rfl)) pe_str (nomark _)))) (fun _ _ _ _ _ => (pe_op op_add (pe_ix (show IxR _ (rIxT K) from ix_tup) (pv 1) pe_int (fun _ _ => rfl)) pe_int))) pa_nil) (pk_cons pe_int pk_nil)))), ?_⟩
    refine ⟨_, rfl, a, rfl, ⟨_, SqT.of ha⟩, fun D hD => ?_⟩
    refine lc_tup (K := K) (a := a) (xs := rf l) (fun i H' => H' = upd H D (.lst ((cls (l.take i)).map V.int))) rfl (fun i H' _ e => by subst e; exact SqT.of ((upd_ne (ne_of_none ha hD)).trans ha)) ?_ ?_
    · rintro i x H' hi rfl
      obtain ⟨q, hl, rfl⟩ := rf_at hi
      have hq1 := hq q (List.mem_of_getElem? hl)
      have hq2 := (upd_ne (ne_of_none hq1 hD) (o := .lst ((cls (l.take i)).map V.int))).trans hq1
      have tk := cls_take hl
      cases e : q.2 with
      | k v =>
        rw [e] at hq2
        refine ⟨rfl, _, rfl, q.1, _, 0, _, rfl, rfl, SqT.of hq2, rfl, rfl, _, rfl, tF (by intro z; have z2 := kn1; injection z with z; rw [z] at z2; simp at z2) ?_⟩
        show upd H D _ = upd H D _
        rw [tk]; unfold clsF; rw [e]; simp
      | n j =>
        rw [e] at hq2
        refine ⟨rfl, _, rfl, q.1, _, 0, _, rfl, rfl, SqT.of hq2, rfl, rfl, _, rfl, tT rfl ?_⟩
        refine ⟨_, rfl, q.1, _, 1, _, rfl, rfl, SqT.of hq2, rfl, _, _, rfl, rfl, _, upd_same, sz2 ?_, ?_⟩
        · rw [List.length_map]; have := cls_len (l.take i); have := List.length_take_le' i l; omega
        · rw [upd_upd, tk]; unfold clsF; rw [e]; simp
    · rintro H' rfl
      rw [rf_len, List.take_length]
      refine ⟨D, _, _, rfl, rfl, SqL.of upd_same, fun e => ?_, fun m hm hx => ?_⟩
      · exact k 0 _ (cnt_nil e) (Same.new hD)
      · obtain ⟨c, rfl, hc⟩ := cnt_max hm hx
        exact k c _ hc (Same.new hD)
theorem ok_realise (T : Tx K mg sa sx) : Cal P w K mg base 2 "realise" (spReal K) := by
  obtain ⟨fd, F⟩ := f_realise T
  refine ⟨_, fd, ["entries", "kept"], fnok F sc_realise (fun vs H Q E h => ?_) (fun cdv A outer s H vs Q E hr h => ?_), F.bindsN fun _ _ _ _ _ _ us hl => match us, hl with | [_, _], _ => rfl, g_realise T, F.kp⟩
  · obtain ⟨a, b, es, ks, rfl, _⟩ := h; rfl
  · obtain ⟨a, b, es, ks, rfl, hP, le, lb, hb, lk, k⟩ := h
    refine ⟨_, (pss_cons (ps_set (i := 2) sc_realise.nd rfl (by first | exact Or.inl rfl | exact Or.inr rfl) (pe_cal (ok_fresh T) hr (by decide) (pa_cons (pe_cal (ok_count_classes T) hr (by decide) (pa_cons (pv 0) pa_nil)) (pa_cons (pv 1) pa_nil))))
    (pss_one (ps_ret (pe_callTy (T := "tuple") call_tuple_of rfl (n_tuple T) (by decide +kernel) (pa_cons (pe_lc (own := [("entry", 3)]) (g := gName 3) rfl sc_realise.nd (pi_tup (pv 0)) (blkOk_by (own := [("entry", 3)]) (N := ["entries", "kept", "others", "entry"]) (sc := defScope s_realise) (by decide +kernel)) (fun _ _ _ _ _ => pg_name (i := 3) sc_realise.nd rfl (Or.inl rfl)) (fun _ _ _ _ _ => pts_nil) (fun _ _ _ _ _ => (pe_ifExp (pt_cmpR op_eq (pe_ix (show IxR _ (rIxT K) from ix_tup) (pv 3) pe_int (fun _ _ => rfl)) pe_str (nomark _)) (pe_ix (show IxR _ (rIxT K) from ix_tup) (pv 3) pe_int (fun _ _ => rfl)) (pe_ix (show IxR _ (rIxL K) from ix_list) (pv 2) (pe_ix (show IxR _ (rIxT K) from ix_tup) (pv 3) pe_int (fun _ _ => rfl)) (fun _ _ => rfl))))) pa_nil))))), ?_⟩
    refine ⟨_, rfl, a, es, rfl, hP, le, fun c H1 hc s1 => ⟨_, rfl, c, b, ks, rfl, hc.le lb, s1 _ _ hb, lk, fun o H2 ho s2 h2 => ?_⟩⟩
    have s12 := s1.trans s2
    obtain ⟨l, ha, rfl, hq⟩ := hP.same s12
    have lo : (frs c ks).length = c := frs_len c ks
    rw [List.length_map] at le
    refine ⟨_, rfl, a, rfl, ⟨_, SqT.of ha⟩, fun D hD => ?_⟩
    refine lc_tup (K := K) (a := a) (xs := rf l) (fun i H' => H' = upd H2 D (.lst ((((l.take i).map (·.2)).map (rz (frs c ks))).map V.int))) rfl (fun i H' _ e => by subst e; exact SqT.of ((upd_ne (ne_of_none ha hD)).trans ha)) ?_ ?_
    · rintro i x H' hi rfl
      obtain ⟨q, hl, rfl⟩ := rf_at hi
      have hq1 := hq q (List.mem_of_getElem? hl)
      have hqe : q.2 ∈ l.map (·.2) := List.mem_map.mpr ⟨q, List.mem_of_getElem? hl, rfl⟩
      have hq2 := (upd_ne (ne_of_none hq1 hD) (o := .lst ((((l.take i).map (·.2)).map (rz (frs c ks))).map V.int))).trans hq1
      have tk : l.take (i + 1) = l.take i ++ [q] := by rw [List.take_add_one, hl]; rfl
      have szz : ((((l.take i).map (·.2)).map (rz (frs c ks))).map V.int).length ≤ 100 := by
        simp only [List.length_map]; have := List.length_take_le' i l; omega
      cases e : q.2 with
      | k v =>
        rw [e] at hq2
        refine ⟨rfl, _, rfl, q.1, _, 0, _, rfl, rfl, SqT.of hq2, rfl, rfl, _, rfl, tT rfl ?_⟩
        refine ⟨_, rfl, q.1, _, 1, _, rfl, rfl, SqT.of hq2, rfl, _, upd_same, sz2 (by omega), ?_⟩
        rw [upd_upd, tk]; simp [e, rz]
      | n j =>
        rw [e] at hq2
        have hj : j < c := hc.1 j (e ▸ hqe)
        refine ⟨rfl, _, rfl, q.1, _, 0, _, rfl, rfl, SqT.of hq2, rfl, rfl, _, rfl, tF (by intro z; have z2 := kn2; injection z with z; rw [z] at z2; simp at z2) ?_⟩
        refine ⟨_, rfl, _, rfl, q.1, _, 1, _, rfl, rfl, SqT.of hq2, rfl, o, _, (j : Int), V.int ((frs c ks)[j]'(by omega)), rfl, rfl, SqL.of ((upd_ne (ne_of_none h2 hD)).trans h2), at_int (by omega), _, upd_same, sz2 (by omega), ?_⟩
        rw [upd_upd, tk]
        simp only [List.map_append, List.map_cons, List.map_nil, e, rz]
        rw [g_at (by omega)]
    · rintro H' rfl
      rw [rf_len, List.take_length]
      refine ⟨D, _, rfl, .inl ⟨SqL.of upd_same, fun t ht => ?_⟩⟩
      have sD : Same H (upd H2 D (.lst (((l.map (·.2)).map (rz (frs c ks))).map V.int))) := s12.trans (Same.new hD)
      exact k c t _ hc (sD.free ht) (sD.trans (Same.new ht)) upd_same
end
end K28
namespace K28
open PySem PySem.Spec PyProof.Rows Cm
open L2 hiding Same
/-! ### how many patterns there are -/
def rowM : Nat → List Int
  | 0 => [1]
  | 1 => [1, 1]
  | 2 => [1, 2, 1]
  | 3 => [1, 3, 3, 1]
  | _ => [1, 4, 6, 4, 1]
def clsM : List Int := [1, 1, 2, 5, 15]
def powM (b : Int) : Nat → Int
  | 0 => 1
  | n + 1 => powM b n * b
def totM (L : Nat) (b : Int) : Nat → Int
  | 0 => 0
  | t + 1 => totM L b t + g (rowM L) t * powM b (L - t) * g clsM t
theorem tot_lev : ∀ L ≤ 4, ∀ b ≤ 3, totM L ((b : Nat) : Int) (L + 1) = ((levC b L).length : Int) := by decide +kernel
theorem g_int {l : List Int} {k : Nat} (h : k < l.length) : (l.map V.int)[k]? = some (.int (g l k)) := by rw [List.getElem?_map, List.getElem?_eq_getElem h, g_at h]; rfl
theorem cm {i j : Int} (h1 : i.natAbs ≤ 1000000) (h2 : j.natAbs ≤ 1000000) : CMul i j := .inl ⟨by omega, by omega⟩
theorem pow_bound {b : Nat} (hb : b ≤ 3) : ∀ n ≤ 4, (powM (b : Int) n).natAbs ≤ 81 := by
  have : ∀ b ≤ 3, ∀ n ≤ 4, (powM ((b : Nat) : Int) n).natAbs ≤ 81 := by decide +kernel
  exact this b hb
theorem tot_bound : ∀ L ≤ 4, ∀ b ≤ 3, ∀ t ≤ 5, (totM L ((b : Nat) : Int) t).natAbs ≤ 100000 := by decide +kernel
theorem g_bound : ∀ L ≤ 4, ∀ t ≤ 4, (g (rowM L) t).natAbs ≤ 6 ∧ (g clsM t).natAbs ≤ 15 := by decide +kernel
theorem row_len {L : Nat} (h : L ≤ 4) : (rowM L).length = L + 1 := by
  have : ∀ L ≤ 4, (rowM L).length = L + 1 := by decide +kernel
  exact this L h
def spInt : Sp := fun vs H Q _ => ∃ n, vs = [.int n] ∧ Q (.bl true) H
def spCnt : Sp := fun vs H Q _ => ∃ L b : Nat, vs = [.int (L : Int), .int (b : Int)] ∧ L ≤ 4 ∧ b ≤ 3 ∧ ∀ H', Same H H' → Q (.int ((levC b L).length : Int)) H'
section
variable {P : Program} {w : World} {K : PySem.W.Frag} {mg : Str → Option Value} {base : Heap} {sa : Addr} {sx : List Int}
theorem ok_l_count (T : Tx K mg sa sx) : Cal P w K mg base 1 "_law_count" spCnt := by
  obtain ⟨fd, F⟩ := f_l_count T
  refine ⟨_, fd, ["_law_length", "_law_many"], fnok F sc_l_count (fun vs H Q E h => ?_) (fun cdv A outer s H vs Q E hr h => ?_), F.bindsN fun _ _ _ _ _ _ us hl => match us, hl with | [_, _], _ => rfl, g__law_count T, F.kp⟩
  · obtain ⟨L, b, rfl, _⟩ := h; rfl
  · obtain ⟨L, b, rfl, hL, hb, k⟩ := h
    refine ⟨_, (pss_cons (ps_set (i := 2) sc_l_count.nd rfl (by first | exact Or.inl rfl | exact Or.inr rfl) (pe_lst (pa_cons (pe_lst (pa_cons pe_int pa_nil)) (pa_cons (pe_lst (pa_cons pe_int (pa_cons pe_int pa_nil))) (pa_cons (pe_lst (pa_cons pe_int (pa_cons pe_int (pa_cons pe_int pa_nil)))) (pa_cons (pe_lst (pa_cons pe_int (pa_cons pe_int (pa_cons pe_int (pa_cons pe_int pa_nil))))) (pa_cons (pe_lst (pa_cons pe_int (pa_cons pe_int (pa_cons pe_int (pa_cons pe_int (pa_cons pe_int pa_nil)))))) pa_nil)))))))
    (pss_cons (ps_set (i := 3) sc_l_count.nd rfl (by first | exact Or.inl rfl | exact Or.inr rfl) (pe_lst (pa_cons pe_int (pa_cons pe_int (pa_cons pe_int (pa_cons pe_int (pa_cons pe_int pa_nil)))))))
    (pss_cons (ps_set (i := 4) sc_l_count.nd rfl (by first | exact Or.inl rfl | exact Or.inr rfl) pe_int)
    (pss_cons (ps_for PassesOwn.never rfl (pi_range1 rfl (n_range T) (pa_cons (pe_op op_add (pv 0) pe_int) pa_nil)) (pg_name (i := 5) sc_l_count.nd rfl (by first | exact Or.inl rfl | exact Or.inr rfl))
      (pss_cons (ps_set (i := 6) sc_l_count.nd rfl (by first | exact Or.inl rfl | exact Or.inr rfl) pe_int)
      (pss_cons (ps_for PassesOwn.never rfl (pi_range1 rfl (n_range T) (pa_cons (pe_op op_sub (pv 0) (pv 5)) pa_nil)) (pg_name (i := 7) sc_l_count.nd rfl (by first | exact Or.inl rfl | exact Or.inr rfl))
        (pss_one (ps_set (i := 6) sc_l_count.nd rfl (by first | exact Or.inl rfl | exact Or.inr rfl) (pe_op op_mul (pv 6) (pv 1)))))
      (pss_one (ps_set (i := 4) sc_l_count.nd rfl (by first | exact Or.inl rfl | exact Or.inr rfl) (pe_op op_add (pv 4) (pe_op op_mul (pe_op op_mul (pe_ix ix_list (pe_ix ix_list (pv 2) (pv 0) (fun _ _ => rfl)) (pv 5) (fun _ _ => rfl)) (pv 6)) (pe_ix ix_list (pv 3) (pv 5) (fun _ _ => rfl)))))))))
    (pss_one (ps_ret (pv 4))))))), ?_⟩
    refine ⟨sz1 (by simp), fun r0 h0 => ⟨sz1 (by simp), fun r1 h1 => ⟨sz1 (by simp), fun r2 h2 => ⟨sz1 (by simp), fun r3 h3 => ⟨sz1 (by simp), fun r4 h4 => ⟨sz1 (by simp), fun R hR => ?_⟩⟩⟩⟩⟩⟩
    have s1 := Same.new h0 (o := .lst ((rowM 0).map V.int))
    have s2 := s1.trans (Same.new h1 (o := .lst ((rowM 1).map V.int)))
    have s3 := s2.trans (Same.new h2 (o := .lst ((rowM 2).map V.int)))
    have s4 := s3.trans (Same.new h3 (o := .lst ((rowM 3).map V.int)))
    have s5 := s4.trans (Same.new h4 (o := .lst ((rowM 4).map V.int)))
    have s6 := s5.trans (Same.new hR (o := .lst [V.ref r0, V.ref r1, V.ref r2, V.ref r3, V.ref r4]))
    refine ⟨sz1 (by simp), fun C hC => ?_⟩
    have s7 := s6.trans (Same.new hC (o := .lst (clsM.map V.int)))
    generalize hG : upd (upd (upd (upd (upd (upd (upd H r0 (.lst [V.int 1])) r1 (.lst [V.int 1, V.int 1])) r2 (.lst [V.int 1, V.int 2, V.int 1])) r3 (.lst [V.int 1, V.int 3, V.int 3, V.int 1])) r4 (.lst [V.int 1, V.int 4, V.int 6, V.int 4, V.int 1])) R (.lst [V.ref r0, V.ref r1, V.ref r2, V.ref r3, V.ref r4])) C (.lst [V.int 1, V.int 1, V.int 2, V.int 5, V.int 15]) = G
    have s7 : Same H G := by rw [← hG]; exact s7
    have gC : G C = some (.lst (clsM.map V.int)) := by rw [← hG]; exact upd_same
    have gR : G R = some (.lst [V.ref r0, V.ref r1, V.ref r2, V.ref r3, V.ref r4]) := by rw [← hG]; exact (Same.new hC) _ _ upd_same
    obtain ⟨rL, hrL, gL⟩ : ∃ rL, ([V.ref r0, V.ref r1, V.ref r2, V.ref r3, V.ref r4] : List V)[L]? = some (.ref rL) ∧ G rL = some (.lst ((rowM L).map V.int)) := by
      rw [← hG]
      have e5 := (Same.new hC (o := .lst (clsM.map V.int)))
      have e4 := (Same.new hR (o := .lst [V.ref r0, V.ref r1, V.ref r2, V.ref r3, V.ref r4])).trans e5
      have e3 := (Same.new h4 (o := .lst ((rowM 4).map V.int))).trans e4
      have e2 := (Same.new h3 (o := .lst ((rowM 3).map V.int))).trans e3
      have e1 := (Same.new h2 (o := .lst ((rowM 2).map V.int))).trans e2
      have e0 := (Same.new h1 (o := .lst ((rowM 1).map V.int))).trans e1
      match L, hL with
      | 0, _ => exact ⟨r0, rfl, e0 _ _ upd_same⟩
      | 1, _ => exact ⟨r1, rfl, e1 _ _ upd_same⟩
      | 2, _ => exact ⟨r2, rfl, e2 _ _ upd_same⟩
      | 3, _ => exact ⟨r3, rfl, e3 _ _ upd_same⟩
      | 4, _ => exact ⟨r4, rfl, e4 _ _ upd_same⟩
    refine ⟨_, rfl, _, _, rfl, rfl, (L : Int) + 1, rfl, by omega, by omega, ?_⟩
    refine for_range (lo := 0) (n := ((L : Int) + 1).toNat) (fun t σ H' => ∃ v5 v6 v7, t ≤ L + 1 ∧ σ = [some (.int (L : Int)), some (.int (b : Int)), some (.ref R), some (.ref C), some (.int (totM L (b : Int) t)), v5, v6, v7] ∧ H' = G) ⟨none, none, none, Nat.zero_le _, rfl, rfl⟩ ?_ ?_
    · rintro t σ H' ht ⟨v5, v6, v7, _, rfl, rfl⟩
      have ht2 : t ≤ L := by omega
      refine ⟨_, rfl, _, rfl, _, _, rfl, rfl, (L : Int) - (0 + (t : Int)), rfl, by omega, by omega, ?_⟩
      refine for_range (lo := 0) (n := ((L : Int) - (0 + (t : Int))).toNat) (fun i σ H2 => ∃ v7, i ≤ L - t ∧ σ = [some (.int (L : Int)), some (.int (b : Int)), some (.ref R), some (.ref C), some (.int (totM L (b : Int) t)), some (.int (0 + (t : Int))), some (.int (powM (b : Int) i)), v7] ∧ H2 = H') ⟨v7, Nat.zero_le _, rfl, rfl⟩ ?_ ?_
      · rintro i σ H2 hi ⟨v7, hle, rfl, rfl⟩
        have hi2 : i < L - t := by omega
        have pb := pow_bound hb i (by omega)
        exact ⟨_, rfl, _, rfl, _, _, rfl, rfl, cm (by omega) (by omega), _, hi2, rfl, rfl⟩
      · rintro σ H2 ⟨v7, hle, rfl, rfl⟩
        have e : ((L : Int) - (0 + (t : Int))).toNat = L - t := by omega
        rw [e]
        have pb := pow_bound hb (L - t) (by omega)
        have gb := g_bound L hL t (by omega)
        have tb := tot_bound L hL b hb t (by omega)
        have m1 : (g (rowM L) t * powM (b : Int) (L - t)).natAbs ≤ 1000 := by
          rw [Int.natAbs_mul]
          exact Nat.le_trans (Nat.mul_le_mul gb.1 pb) (by decide)
        refine ⟨_, rfl, _, rfl, _, rfl, R, _, (L : Int), .ref rL, rfl, rfl, SqL.of gR, at_of (j := L) rfl hrL, ?_⟩
        refine ⟨_, rfl, rL, _, 0 + (t : Int), .int (g (rowM L) t), rfl, rfl, SqL.of gL, at_of (j := t) (by omega) (g_int (by rw [row_len hL]; omega)), ?_⟩
        refine ⟨_, rfl, _, _, rfl, rfl, cm (by omega) (by omega), ?_⟩
        refine ⟨_, rfl, _, rfl, C, _, 0 + (t : Int), .int (g clsM t), rfl, rfl, SqL.of gC, at_of (j := t) (by omega) (g_int (by show t < 5; omega)), ?_⟩
        refine ⟨_, _, rfl, rfl, cm (by omega) (by omega), _, _, rfl, rfl, _, _, _, by omega, rfl, rfl⟩
    · rintro σ H' ⟨v5, v6, v7, hle, rfl, rfl⟩
      have e : ((L : Int) + 1).toNat = L + 1 := by omega
      rw [e]
      refine ⟨_, rfl, ?_⟩
      rw [tot_lev L hL b hb]
      exact k _ s7
end
end K28
namespace K28
open PySem PySem.Spec PyProof.Rows Cm
open L2 hiding Same
/-! ### entries behind others -/
def EntsAt (H : Hp) (a : Addr) (es : List En) : Prop := ∃ l : List AE, H a = some (.lst (rf l)) ∧ l.map (·.2) = es ∧ ∀ q ∈ l, H q.1 = some (.tup q.2.vs)
theorem EntsAt.same {H H' : Hp} {a : Addr} {es : List En} (s : Same H H') (h : EntsAt H a es) : EntsAt H' a es :=
  let ⟨l, h1, h2, h3⟩ := h; ⟨l, s _ _ h1, h2, fun q hq => s _ _ (h3 q hq)⟩
theorem dp_ents {K : PySem.W.Frag} {H : Hp} {a : Addr} {es : List En} (h : EntsAt H a es) : Dp K H (.ref a) (.list (pds es)) := by
  obtain ⟨l, h1, h2, h3⟩ := h
  subst h2
  exact .lst (SqL.of h1) (dp_ens l h3)
theorem shp_ents (es : List En) : SeqAt.shaped (.list (pds es)) = true := by
  obtain ⟨h1, h2⟩ := lay_pds es
  show ((PyData.list (pds es)).canLay0 && decide ((PyData.list (pds es)).depth ≤ 64)) = true
  rw [Bool.and_eq_true]
  exact ⟨by simp only [PyData.canLay0]; exact h1, decide_eq_true (by simp only [PyData.depth]; omega)⟩
theorem any_pds (d : PyData) : ∀ es : List En, ((pds es).any fun z => PyData.eqv z d) = es.any fun e => PyData.eqv (.tuple e.ds) d
  | [] => rfl
  | e :: es => by show (PyData.eqv (.tuple e.ds) d || ((pds es).any fun z => PyData.eqv z d)) = _; rw [any_pds d es]; rfl
theorem any_en (x : En) (es : List En) : (es.any fun e => PyData.eqv (.tuple e.ds) (.tuple x.ds)) = decide (x ∈ es) := by
  apply Bool.eq_iff_iff.mpr
  rw [List.any_eq_true, decide_eq_true_iff]
  exact ⟨fun ⟨e, he, h⟩ => by
    rw [eqv_en] at h
    have := of_decide_eq_true h
    subst this; exact he, fun h => ⟨x, h, by rw [eqv_en]; exact decide_eq_true rfl⟩⟩
def spBehind (K : PySem.W.Frag) : Sp := fun vs H Q _ => ∃ (a b : Addr) (es : List En) (ks : List Int), vs = [.ref a, .ref b] ∧ PatAt H a es ∧ es.length ≤ 100 ∧ H b = some (.lst (ks.map V.int)) ∧ ks.length ≤ 20 ∧ cntE es ≤ 100 ∧
  ∀ (r : Addr) (H' : Hp), H r = none → Same H H' → EntsAt H' r (nxt ks es) → Q (.ref r) H'
section
variable {P : Program} {w : World} {K : PySem.W.Frag} {mg : Str → Option Value} {base : Heap} {sa : Addr} {sx : List Int}
theorem ok_entries_behind (T : Tx K mg sa sx) : Cal P w K mg base 2 "entries_behind" (spBehind K) := by
  obtain ⟨fd, F⟩ := f_entries_behind T
  refine ⟨_, fd, ["entries", "kept"], fnok F sc_entries_behind (fun vs H Q E h => ?_) (fun cdv A outer s H vs Q E hr h => ?_), F.bindsN fun _ _ _ _ _ _ us hl => match us, hl with | [_, _], _ => rfl, g_entries_behind T, F.kp⟩
  · obtain ⟨a, b, es, ks, rfl, _⟩ := h; rfl
  · obtain ⟨a, b, es, ks, rfl, ha, hl, hb, kl, hc, k⟩ := h
    refine ⟨_, (pss_one (ps_ret (pe_op op_cat (pe_lc (own := [("n", 2)]) (g := gName 2) rfl sc_entries_behind.nd (pi_list (pe_callB (id := "sorted") cr_sorted rfl (n_sorted T) (by decide +kernel) (pa_cons (pv 1) pa_nil))) (blkOk_by (own := [("n", 2)]) (N := ["entries", "kept", "n", "i"]) (sc := defScope s_entries_behind) (by decide +kernel)) (fun _ _ _ _ _ => pg_name (i := 2) sc_entries_behind.nd rfl (Or.inl rfl)) (fun _ _ _ _ _ => pts_nil) (fun _ _ _ _ _ => (pe_tup (pa_cons pe_str (pa_cons (pv 2) pa_nil))))) (pe_lc (own := [("i", 3)]) (g := gName 3) rfl sc_entries_behind.nd (pi_range1 rfl (n_range T) (pa_cons (pe_op op_add (pe_cal (ok_count_classes T) hr (by decide) (pa_cons (pv 0) pa_nil)) pe_int) pa_nil)) (blkOk_by (own := [("i", 3)]) (N := ["entries", "kept", "n", "i"]) (sc := defScope s_entries_behind) (by decide +kernel)) (fun _ _ _ _ _ => pg_name (i := 3) sc_entries_behind.nd rfl (Or.inl rfl)) (fun _ _ _ _ _ => pts_nil) (fun _ _ _ _ _ => (pe_tup (pa_cons pe_str (pa_cons (pv 3) pa_nil)))))))), ?_⟩
    -- the kept ones
    refine ⟨_, rfl, b, ks, rfl, SqL.of hb, by omega, fun ns S hp hs hS => ?_⟩
    obtain rfl := srt_of hp hs
    have s0 := Same.new hS (o := .lst ((srt ks).map V.int))
    refine ⟨S, rfl, ⟨_, SqL.of upd_same⟩, fun D hD => ?_⟩
    have hD0 := s0.free hD
    have nSD : S ≠ D := ne_of_none upd_same hD
    refine lc_list (K := K) (a := S) (xs := (srt ks).map V.int) (fun i H' => ∃ l : List AE, l.map (·.2) = ((srt ks).take i).map En.k ∧ Same H H' ∧ H' S = some (.lst ((srt ks).map V.int)) ∧ H' D = some (.lst (rf l)) ∧ ∀ q ∈ l, H' q.1 = some (.tup q.2.vs))
      ⟨[], rfl, s0.trans (Same.new hD), (upd_ne nSD).trans upd_same, upd_same, by simp⟩ (fun i H' _ ⟨_, _, _, h, _⟩ => SqL.of h) ?_ ?_
    · rintro i x H' hi ⟨l, hl2, sm, hS', hD', hq⟩
      obtain ⟨hi2, rfl⟩ := map_at hi
      have ll : l.length ≤ 20 := by
        have := congrArg List.length hl2
        rw [List.length_map, List.length_map, List.length_take, srt_len] at this
        omega
      refine ⟨rfl, _, rfl, sz1 (by simp), fun e he => ⟨_, (Same.new he) _ _ hD', sz2 (by rw [rf_len]; omega), l ++ [(e, .k (srt ks)[i])], ?_, (sm.trans (Same.new he)).mut hD0, (upd_ne nSD).trans ((Same.new he) _ _ hS'), by rw [upd_same, rf, rf, List.map_append]; rfl, fun q hq' => ?_⟩⟩
      · rw [List.map_append, hl2, List.take_add_one, List.getElem?_eq_getElem hi2, List.map_append]; rfl
      · rcases List.mem_append.mp hq' with h | h
        · exact (upd_ne (ne_of (hq q h) hD' (fun z => nomatch z))).trans ((Same.new he) _ _ (hq q h))
        · rw [List.mem_singleton.mp h]
          exact (upd_ne (ne_of_none hD' he).symm).trans upd_same
    rintro H1 ⟨l, hl2, s1, _, hD1, hq1⟩
    rw [List.length_map, List.take_length] at hl2
    have ll : l.length ≤ 20 := by
      have := congrArg List.length hl2
      rw [List.length_map, List.length_map, srt_len] at this
      omega
    -- the new ones
    refine ⟨_, rfl, a, es, rfl, ha.same s1, hl, fun c H2 hc2 s2 => ?_⟩
    obtain rfl := cnt_uniq hc2
    refine ⟨_, _, rfl, rfl, (cntE es : Int) + 1, rfl, by omega, by omega, fun D2 hD2 => ?_⟩
    have hD20 := s2.free hD2
    refine lc_range (lo := 0) (n := ((cntE es : Int) + 1).toNat) (fun i H' => ∃ l2 : List AE, l2.map (·.2) = (List.range i).map En.n ∧ Same H2 H' ∧ H' D2 = some (.lst (rf l2)) ∧ ∀ q ∈ l2, H' q.1 = some (.tup q.2.vs)) ⟨[], rfl, Same.new hD2, upd_same, by simp⟩ ?_ ?_
    · rintro i H' hi ⟨l2, hl3, sm, hD', hq⟩
      have ll2 : l2.length ≤ 200 := by
        have := congrArg List.length hl3
        rw [List.length_map, List.length_map, List.length_range] at this
        omega
      refine ⟨rfl, _, rfl, sz1 (by simp), fun e he => ⟨_, (Same.new he) _ _ hD', sz2 (by rw [rf_len]; omega), l2 ++ [(e, .n i)], ?_, (sm.trans (Same.new he)).mut hD2, by rw [upd_same, rf, rf, List.map_append]; rfl, fun q hq' => ?_⟩⟩
      · rw [List.map_append, hl3, List.range_succ, List.map_append]; rfl
      · rcases List.mem_append.mp hq' with h | h
        · exact (upd_ne (ne_of (hq q h) hD' (fun z => nomatch z))).trans ((Same.new he) _ _ (hq q h))
        · rw [List.mem_singleton.mp h]
          refine (upd_ne (ne_of_none hD' he).symm).trans ?_
          rw [upd_same]
          show some (HO.tup [V.str "new", V.int (0 + (i : Int))]) = some (HO.tup [V.str "new", V.int (i : Int)])
          rw [Int.zero_add]
    · rintro H3 ⟨l2, hl3, s3, hD3, hq3⟩
      have e1 : ((cntE es : Int) + 1).toNat = cntE es + 1 := by omega
      rw [e1] at hl3
      have ll2 : l2.length ≤ 200 := by
        have := congrArg List.length hl3
        rw [List.length_map, List.length_map, List.length_range] at this
        omega
      refine ⟨D, D2, _, _, rfl, rfl, s3 _ _ (s2 _ _ hD1), hD3, sz1 (by rw [rf_len, rf_len]; omega), fun r hr0 => ?_⟩
      have s13 := (s1.trans s2).trans s3
      refine k r _ (s13.free hr0) (s13.trans (Same.new hr0)) ⟨l ++ l2, by rw [upd_same, rf, rf, rf, List.map_append], ?_, fun q hq' => ?_⟩
      · rw [List.map_append, hl2, hl3]; rfl
      · rcases List.mem_append.mp hq' with h | h
        · exact (Same.new hr0) _ _ (s3 _ _ (s2 _ _ (hq1 q h)))
        · exact (Same.new hr0) _ _ (hq3 q h)
end
end K28
namespace K28
open PySem PySem.Spec PyProof.Rows Cm
open L2 hiding Same
/-! ### things that may be entries -/
inductive Fl
  | st (z : Str)
  | nn
  | nu (k : Int)
  | bo (c : Bool)
def Fl.v : Fl → V
  | .st z => .str z
  | .nn => .non
  | .nu k => .int k
  | .bo c => .bl c
def Fl.d : Fl → PyData
  | .st z => .str z
  | .nn => .none
  | .nu k => .int k
  | .bo c => .bool c
def Fl.ok : Fl → Prop
  | .st z => PyData.strOk z = true
  | _ => True
inductive It
  | en (e : En)
  | fl (f : Fl)
  | li (fs : List Fl)
  | tn (fs : List Fl)
  | pr (t : Str) (f : Fl)
def BadPair (t : Str) : Fl → Prop
  | .bo _ => True
  | f => ∀ e : En, PyData.eqv (.tuple e.ds) (.tuple [.str t, f.d]) = false
def ItAt (H : Hp) (v : V) : It → Prop
  | .en e => ∃ a, v = .ref a ∧ H a = some (.tup e.vs)
  | .fl f => v = f.v ∧ f.ok
  | .li fs => ∃ a, v = .ref a ∧ H a = some (.lst (fs.map Fl.v)) ∧ ∀ f ∈ fs, f.ok
  | .tn fs => ∃ a, v = .ref a ∧ H a = some (.tup (fs.map Fl.v)) ∧ fs.length ≠ 2 ∧ fs.length ≤ 10 ∧ ∀ f ∈ fs, f.ok
  | .pr t f => ∃ a, v = .ref a ∧ H a = some (.tup [.str t, f.v]) ∧ PyData.strOk t = true ∧ f.ok ∧ BadPair t f
theorem ItAt.same {H H' : Hp} {v : V} {it : It} (s : Same H H') (h : ItAt H v it) : ItAt H' v it := by
  cases it with
  | en e => obtain ⟨a, e1, h⟩ := h; exact ⟨a, e1, s _ _ h⟩
  | fl f => exact h
  | li fs => obtain ⟨a, e1, h, r⟩ := h; exact ⟨a, e1, s _ _ h, r⟩
  | tn fs => obtain ⟨a, e1, h, r⟩ := h; exact ⟨a, e1, s _ _ h, r⟩
  | pr t f => obtain ⟨a, e1, h, r⟩ := h; exact ⟨a, e1, s _ _ h, r⟩
def isIn (ks : List Int) (es : List En) : It → Bool
  | .en e => decide (e ∈ nxt ks es)
  | _ => false
theorem fl_ty {K : PySem.W.Frag} {H : Hp} (f : Fl) : ∃ t, TyX K H f.v t ∧ PySem.W.kitOne K t (.type "tuple") = some false ∧ ((∀ c, f ≠ .bo c) → PySem.W.kitOne K t (.type "bool") = some false) := by
  cases f with
  | st z => exact ⟨_, .base (.str z), kit_ty (by decide +kernel), fun _ => kit_ty (by decide +kernel)⟩
  | nn => exact ⟨_, .base .non, kit_ty (by decide +kernel), fun _ => kit_ty (by decide +kernel)⟩
  | nu k => exact ⟨_, .base (.int k), kit_ty (by decide +kernel), fun _ => kit_ty (by decide +kernel)⟩
  | bo c => exact ⟨_, .base (.bl c), kit_ty (by decide +kernel), fun h => absurd rfl (h c)⟩
theorem fl_dp {K : PySem.W.Frag} {H : Hp} (f : Fl) : Dp K H f.v f.d := by
  cases f with
  | st z => exact .str z
  | nn => exact .non
  | nu k => exact .int k
  | bo c => exact .bl c
theorem fl_lay {f : Fl} (h : f.ok) : f.d.canLay0 = true ∧ f.d.depth = 0 := by
  cases f with
  | st z => exact ⟨by simp only [Fl.d, PyData.canLay0]; exact h, rfl⟩
  | nn => exact ⟨by simp [Fl.d, PyData.canLay0], by simp [Fl.d, PyData.depth]⟩
  | nu k => exact ⟨by simp [Fl.d, PyData.canLay0], by simp [Fl.d, PyData.depth]⟩
  | bo c => exact ⟨by simp [Fl.d, PyData.canLay0], by simp [Fl.d, PyData.depth]⟩
theorem shp_pr {t : Str} {f : Fl} (ht : PyData.strOk t = true) (hf : f.ok) : SeqAt.shaped (.tuple [.str t, f.d]) = true := by
  obtain ⟨h1, h2⟩ := fl_lay hf
  show ((PyData.tuple [.str t, f.d]).canLay0 && decide ((PyData.tuple [.str t, f.d]).depth ≤ 64)) = true
  simp [PyData.canLay0, PyData.canLayAll0, PyData.depth, PyData.depthAll, ht, h1, h2]
theorem shp_en (e : En) : SeqAt.shaped (.tuple e.ds) = true := by
  obtain ⟨h1, h2⟩ := lay_en e
  show ((PyData.tuple e.ds).canLay0 && decide ((PyData.tuple e.ds).depth ≤ 64)) = true
  rw [Bool.and_eq_true]
  exact ⟨h1, decide_eq_true (by omega)⟩
def spIsE (K : PySem.W.Frag) : Sp := fun vs H Q _ => ∃ (v : V) (it : It) (b kk : Addr) (es : List En) (ks : List Int), vs = [v, .ref b, .ref kk] ∧ ItAt H v it ∧ PatAt H b es ∧ es.length ≤ 100 ∧ cntE es ≤ 100 ∧ H kk = some (.lst (ks.map V.int)) ∧ ks.length ≤ 20 ∧
  ∀ H', Same H H' → Q (.bl (isIn ks es it)) H'
section
variable {P : Program} {w : World} {K : PySem.W.Frag} {mg : Str → Option Value} {base : Heap} {sa : Addr} {sx : List Int}
theorem ok_is_entry (T : Tx K mg sa sx) : Cal P w K mg base 3 "is_entry" (spIsE K) := by
  obtain ⟨fd, F⟩ := f_is_entry T
  refine ⟨_, fd, ["thing", "before", "kept"], fnok F sc_is_entry (fun vs H Q E h => ?_) (fun cdv A outer s H vs Q E hr h => ?_), F.bindsN fun _ _ _ _ _ _ us hl => match us, hl with | [_, _, _], _ => rfl, g_is_entry T, F.kp⟩
  · obtain ⟨v, it, b, kk, es, ks, rfl, _⟩ := h; rfl
  · obtain ⟨v, it, b, kk, es, ks, rfl, hv, hb, hl, hc, hk, kl, q⟩ := h
    refine ⟨_, (pss_cons (ps_if (PW.pt (pw_or (pt_not (pt_val (pe_callB (id := "isinstance") (r := rIsi K) call_isi rfl (n_isinstance T) (by decide +kernel) (pa_cons (pv 0) (pa_cons (pe_bltn (v := .ty "tuple") rfl (n_tuple T) (by decide +kernel) rfl) pa_nil))))) (pw_or1 (pt_cmpR op_ne (pe_callB (id := "len") call_len_seq rfl (n_len T) (by decide +kernel) (pa_cons (pv 0) pa_nil)) pe_int (nomark _))))) (pss_one (ps_ret pe_bl)) pss_nil)
    (pss_one (ps_ret (pe_and (pe_not (pe_callB (id := "isinstance") (r := rIsi K) call_isi rfl (n_isinstance T) (by decide +kernel) (pa_cons (pe_ix ix_tup (pv 0) pe_int (fun _ _ => rfl)) (pa_cons (pe_bltn (v := .ty "bool") rfl (n_bool T) (by decide +kernel) rfl) pa_nil)))) (pe_one (pe_cmpR (op_inD (u65 hr)) (pv 0) (pe_cal (ok_entries_behind T) hr (by decide) (pa_cons (pv 1) (pa_cons (pv 2) pa_nil))) (by rfl))))))), ?_⟩
    cases it with
    | en e =>
      obtain ⟨a, rfl, ha⟩ := hv
      have l2 : e.vs.length = 2 := by cases e <;> rfl
      refine ⟨_, rfl, .ref a, .ty "tuple", _, .type "tuple", true, rfl, .ty _, .base (.tup ha), kit_ty (by decide +kernel), true, rfl, iteF ?_⟩
      refine ⟨_, rfl, a, _, rfl, .inr (SqT.of ha), rfl, _, rfl, uF (by rw [l2]; rfl) ?_⟩
      obtain ⟨x, hx, tx⟩ : ∃ x : Int, atI e.vs 1 = some (.int x) ∧ True := by
        cases e with
        | k v => exact ⟨v, rfl, trivial⟩
        | n i => exact ⟨(i : Int), rfl, trivial⟩
      refine ⟨_, rfl, a, _, 1, .int x, rfl, rfl, SqT.of ha, hx, .int x, .ty "bool", _, .type "bool", false, rfl, .ty _, .base (.int x), kit_ty (by decide +kernel), false, rfl, true, rfl, iteT ?_⟩
      refine ⟨_, rfl, _, rfl, _, rfl, b, kk, es, ks, rfl, hb, hl, hk, kl, hc, fun r H' hr0 s' hE => ?_⟩
      refine ⟨_, _, dp_en (s' _ _ ha), dp_ents hE, shp_en e, shp_ents _, ?_⟩
      rw [any_pds, any_en]
      exact q _ s'
    | fl f =>
      obtain ⟨rfl, _⟩ := hv
      obtain ⟨t, ty, k1, _⟩ := fl_ty (K := K) (H := H) f
      exact ⟨_, rfl, f.v, .ty "tuple", t, .type "tuple", false, rfl, .ty _, ty, k1, false, rfl, iteT (q _ (Cm.Same.refl _))⟩
    | li fs =>
      obtain ⟨a, rfl, ha, _⟩ := hv
      exact ⟨_, rfl, .ref a, .ty "tuple", _, .type "tuple", false, rfl, .ty _, .base (.lst ha), kit_ty (by decide +kernel), false, rfl, iteT (q _ (Cm.Same.refl _))⟩
    | tn fs =>
      obtain ⟨a, rfl, ha, n2, _⟩ := hv
      refine ⟨_, rfl, .ref a, .ty "tuple", _, .type "tuple", true, rfl, .ty _, .base (.tup ha), kit_ty (by decide +kernel), true, rfl, iteF ?_⟩
      refine ⟨_, rfl, a, _, rfl, .inr (SqT.of ha), rfl, _, rfl, uT (fun z => n2 ?_) (q _ (Cm.Same.refl _))⟩
      have z2 : (((fs.map Fl.v).length : Nat) : Int) = 2 := by injection z
      rw [List.length_map] at z2
      omega
    | pr t f =>
      obtain ⟨a, rfl, ha, ht, hf, hbad⟩ := hv
      refine ⟨_, rfl, .ref a, .ty "tuple", _, .type "tuple", true, rfl, .ty _, .base (.tup ha), kit_ty (by decide +kernel), true, rfl, iteF ?_⟩
      refine ⟨_, rfl, a, _, rfl, .inr (SqT.of ha), rfl, _, rfl, uF rfl ?_⟩
      by_cases hB : ∃ bb, f = .bo bb
      · obtain ⟨bb, rfl⟩ := hB
        exact ⟨_, rfl, a, _, 1, .bl bb, rfl, rfl, SqT.of ha, rfl, .bl bb, .ty "bool", _, .type "bool", true, rfl, .ty _, .base (.bl bb), kit_ty (by decide +kernel), true, rfl, false, rfl, iteF (q _ (Cm.Same.refl _))⟩
      · have nb : ∀ bb, f ≠ .bo bb := fun bb z => hB ⟨bb, z⟩
        have bad : ∀ e : En, PyData.eqv (.tuple e.ds) (.tuple [.str t, f.d]) = false := by
          cases f with
          | bo bb => exact absurd rfl (nb bb)
          | st z => exact hbad
          | nn => exact hbad
          | nu k => exact hbad
        obtain ⟨ty, h1, _, h2⟩ := fl_ty (K := K) (H := H) f
        refine ⟨_, rfl, a, _, 1, f.v, rfl, rfl, SqT.of ha, rfl, f.v, .ty "bool", ty, .type "bool", false, rfl, .ty _, h1, h2 nb, false, rfl, true, rfl, iteT ?_⟩
        refine ⟨_, rfl, _, rfl, _, rfl, b, kk, es, ks, rfl, hb, hl, hk, kl, hc, fun r H' hr0 s' hE => ?_⟩
        refine ⟨_, _, .tup (SqT.of (s' _ _ ha)) (.cons (.str t) (.cons (fl_dp f) .nil)), dp_ents hE, shp_pr ht hf, shp_ents _, ?_⟩
        have e1 : ((nxt ks es).any fun e => PyData.eqv (.tuple e.ds) (.tuple [.str t, f.d])) = false := by
          rw [List.any_eq_false]
          intro e _
          rw [bad e]; decide
        rw [any_pds, e1]
        exact q _ s'
end
end K28
namespace K28
open PySem PySem.Spec PyProof.Rows Cm
open L2 hiding Same
/-! ### things that may be patterns -/
def isP (ks : List Int) : List En → List It → Bool
  | _, [] => true
  | es, .en e :: r => decide (e ∈ nxt ks es) && isP ks (es ++ [e]) r
  | _, _ :: _ => false
theorem isP_no {ks : List Int} {es : List En} {it : It} {r : List It} (h : isIn ks es it = false) : isP ks es (it :: r) = false := by
  cases it with
  | en e => show (decide (e ∈ nxt ks es) && _) = false; rw [show decide (e ∈ nxt ks es) = false from h]; rfl
  | _ => rfl
def ThAt (H : Hp) (a : Addr) (its : List It) : Prop := ∃ l : List (V × It), H a = some (.tup (l.map (·.1))) ∧ l.map (·.2) = its ∧ ∀ q ∈ l, ItAt H q.1 q.2
theorem ThAt.same {H H' : Hp} {a : Addr} {its : List It} (s : Same H H') (h : ThAt H a its) : ThAt H' a its :=
  let ⟨l, h1, h2, h3⟩ := h; ⟨l, s _ _ h1, h2, fun q hq => (h3 q hq).same s⟩
theorem ents_of {H : Hp} : ∀ (l : List (V × It)) (es : List En), l.map (·.2) = es.map It.en → (∀ q ∈ l, ItAt H q.1 q.2) → ∃ l' : List AE, rf l' = l.map (·.1) ∧ l'.map (·.2) = es ∧ ∀ q ∈ l', H q.1 = some (.tup q.2.vs)
  | [], [], _, _ => ⟨[], rfl, rfl, by simp⟩
  | [], _ :: _, h, _ => by cases h
  | _ :: _, [], h, _ => by cases h
  | q :: l, e :: es, h, hq => by
    obtain ⟨h1, h2⟩ := List.cons.inj (show q.2 :: l.map (·.2) = .en e :: es.map It.en from h)
    obtain ⟨l', r1, r2, r3⟩ := ents_of l es h2 fun z hz => hq z (List.mem_cons_of_mem _ hz)
    have i := hq q List.mem_cons_self
    rw [h1] at i
    obtain ⟨a, e1, ha⟩ := i
    refine ⟨(a, e) :: l', ?_, ?_, fun z hz => ?_⟩
    · show V.ref a :: rf l' = q.1 :: l.map (·.1)
      rw [r1, e1]
    · show e :: l'.map (·.2) = e :: es
      rw [r2]
    · rcases List.mem_cons.mp hz with z' | z'
      · rw [z']; exact ha
      · exact r3 z z'
theorem lev_cnt_le {ks : List Int} : ∀ {m : Nat} {es : List En}, es ∈ lev ks m → cntE es ≤ m
  | 0, es, h => by rw [List.mem_singleton.mp h]; exact Nat.le_refl _
  | m + 1, es, h => by
    obtain ⟨fs, e, h1, h2, rfl⟩ := mem_lev_succ.mp h
    have := lev_cnt_le h1
    rw [cntE_app]
    unfold nxt at h2
    rcases List.mem_append.mp h2 with h2 | h2
    · obtain ⟨v, _, rfl⟩ := List.mem_map.mp h2
      show cntE fs ≤ m + 1
      omega
    · obtain ⟨i, hi, rfl⟩ := List.mem_map.mp h2
      have := List.mem_range.mp hi
      show max (cntE fs) (i + 1) ≤ m + 1
      omega
def spIsP (K : PySem.W.Frag) : Sp := fun vs H Q _ => ∃ (v : V) (L : Nat) (kk : Addr) (ks : List Int), vs = [v, .int (L : Int), .ref kk] ∧ L ≤ 10 ∧ H kk = some (.lst (ks.map V.int)) ∧ ks.length ≤ 20 ∧
  ((∃ t, TyX K H v t ∧ PySem.W.kitOne K t (.type "tuple") = some false ∧ Q (.bl false) H) ∨ (∃ a its, v = .ref a ∧ ThAt H a its ∧ ∀ H', Same H H' → Q (.bl (decide (its.length = L) && isP ks [] its)) H'))
section
variable {P : Program} {w : World} {K : PySem.W.Frag} {mg : Str → Option Value} {base : Heap} {sa : Addr} {sx : List Int}
theorem ok_is_pattern (T : Tx K mg sa sx) : Cal P w K mg base 4 "is_pattern" (spIsP K) := by
  obtain ⟨fd, F⟩ := f_is_pattern T
  refine ⟨_, fd, ["thing", "length", "kept"], fnok F sc_is_pattern (fun vs H Q E h => ?_) (fun cdv A outer s H vs Q E hr h => ?_), F.bindsN fun _ _ _ _ _ _ us hl => match us, hl with | [_, _, _], _ => rfl, g_is_pattern T, F.kp⟩
  · obtain ⟨v, L, kk, ks, rfl, _⟩ := h; rfl
  · obtain ⟨v, L, kk, ks, rfl, hL, hk, kl, h⟩ := h
    refine ⟨_, (pss_cons (ps_if (PW.pt (pw_or (pt_not (pt_val (pe_callB (id := "isinstance") (r := rIsi K) call_isi rfl (n_isinstance T) (by decide +kernel) (pa_cons (pv 0) (pa_cons (pe_bltn (v := .ty "tuple") rfl (n_tuple T) (by decide +kernel) rfl) pa_nil))))) (pw_or1 (pt_cmpR op_ne (pe_callB (id := "len") call_len_seq rfl (n_len T) (by decide +kernel) (pa_cons (pv 0) pa_nil)) (pv 1) (nomark _))))) (pss_one (ps_ret pe_bl)) pss_nil)
    (pss_cons (ps_for PassesOwn.never rfl (pi_range1 rfl (n_range T) (pa_cons (pv 1) pa_nil)) (pg_name (i := 3) sc_is_pattern.nd rfl (by first | exact Or.inl rfl | exact Or.inr rfl))
      (pss_one (ps_if (pt_not (pt_val (pe_cal (ok_is_entry T) hr (by decide) (pa_cons (pe_ix ix_tup (pv 0) (pv 3) (fun _ _ => rfl)) (pa_cons (pe_slice sl_tup (pv 0) po_none (po_some (pv 3))) (pa_cons (pv 2) pa_nil)))))) (pss_one (ps_ret pe_bl)) pss_nil)))
    (pss_one (ps_ret pe_bl)))), ?_⟩
    rcases h with ⟨t, ty, k1, q⟩ | ⟨a, its, rfl, ⟨l, ha, hl, hq⟩, q⟩
    · exact ⟨_, rfl, v, .ty "tuple", t, .type "tuple", false, rfl, .ty _, ty, k1, false, rfl, iteT q⟩
    · subst hl
      refine ⟨_, rfl, .ref a, .ty "tuple", _, .type "tuple", true, rfl, .ty _, .base (.tup ha), kit_ty (by decide +kernel), true, rfl, iteF ?_⟩
      refine ⟨_, rfl, a, _, rfl, .inr (SqT.of ha), _, rfl, rfl, _, rfl, uC (fun ne => ?_) (fun e => ?_)⟩
      · have z := q H (Cm.Same.refl _)
        rw [decide_eq_false (fun z => ne (by rw [List.length_map] at z ⊢; rw [z]))] at z
        exact z
      · have hlen : l.length = L := by
          have e2 : (((l.map (·.1)).length : Nat) : Int) = (L : Int) := by injection e
          rw [List.length_map] at e2
          omega
        refine ⟨_, rfl, (L : Int), rfl, by omega, by omega, ?_⟩
        refine for_range (lo := 0) (n := ((L : Int)).toNat) (fun i σ H' => ∃ v3 es, σ = [some (.ref a), some (.int (L : Int)), some (.ref kk), v3] ∧ Same H H' ∧ (l.take i).map (·.2) = es.map It.en ∧ es ∈ lev ks i ∧ i ≤ L ∧ isP ks [] (l.map (·.2)) = isP ks es ((l.drop i).map (·.2)))
          ⟨none, [], rfl, Cm.Same.refl _, rfl, List.mem_singleton.mpr rfl, Nat.zero_le _, rfl⟩ ?_ ?_
        · rintro i σ H' hi ⟨v3, es, rfl, sm, hes, hlv, _, hP⟩
          have hi2 : i < l.length := by omega
          have el := lev_length hlv
          have ec := lev_cnt_le hlv
          have ed : l.drop i = l[i] :: l.drop (i + 1) := List.drop_eq_getElem_cons hi2
          refine ⟨_, rfl, _, rfl, a, _, 0 + (i : Int), (l[i]).1, rfl, rfl, SqT.of (sm _ _ ha), at_of (j := i) (by omega) (by rw [List.getElem?_map, List.getElem?_eq_getElem hi2]; rfl), ?_⟩
          refine ⟨_, rfl, _, rfl, _, rfl, a, _, rfl, SqT.of (sm _ _ ha), ?_, fun p hp => ?_⟩
          · rw [Int.zero_add, HT.sIx_nat, List.length_map]
            omega
          rw [Int.zero_add, Cm.cutT, ← List.map_take]
          have sp := Same.new hp (o := .tup ((l.take i).map (·.1)))
          obtain ⟨l', r1, r2, r3⟩ := ents_of (H := H') (l.take i) es hes fun z hz => (hq z (List.mem_of_mem_take hz)).same sm
          refine ⟨_, rfl, (l[i]).1, (l[i]).2, p, kk, es, ks, rfl, ((hq _ (List.getElem_mem hi2)).same sm).same sp, ⟨l', by rw [upd_same, r1], r2, fun z hz => sp _ _ (r3 z hz)⟩, by omega, by omega, sp _ _ (sm _ _ hk), kl, fun H2 s2 => ?_⟩
          have s3 := (sm.trans sp).trans s2
          cases hin : isIn ks es (l[i]).2 with
          | false =>
            refine ⟨_, rfl, iteT ?_⟩
            have z := q H2 s3
            rw [hP, ed, List.map_cons, isP_no hin, Bool.and_false] at z
            exact z
          | true =>
            refine ⟨_, rfl, iteF ?_⟩
            cases hit : (l[i]).2 with
            | en e =>
              rw [hit] at hin
              have he : e ∈ nxt ks es := of_decide_eq_true hin
              refine ⟨_, es ++ [e], rfl, s3, ?_, mem_lev_succ.mpr ⟨es, e, hlv, he, rfl⟩, by omega, ?_⟩
              · rw [List.take_add_one, List.getElem?_eq_getElem hi2, List.map_append, hes, List.map_append]
                show es.map It.en ++ [(l[i]).2] = _
                rw [hit]; rfl
              · rw [hP, ed, List.map_cons, hit]
                show (decide (e ∈ nxt ks es) && _) = _
                rw [decide_eq_true he, Bool.true_and]
            | fl f => rw [hit] at hin; cases hin
            | li f => rw [hit] at hin; cases hin
            | tn f => rw [hit] at hin; cases hin
            | pr t f => rw [hit] at hin; cases hin
        · rintro σ H' ⟨v3, es, rfl, sm, _, _, _, hP⟩
          have z := q H' sm
          rw [hP, Int.toNat_natCast, List.drop_of_length_le (by omega), decide_eq_true (by rw [List.length_map]; exact hlen)] at z
          exact z
end
end K28
namespace K28
open PySem PySem.Spec PyProof.Rows Cm
open L2 hiding Same
/-! ### the generator -/
theorem gsc : GScope ["length", "kept", "level", "_", "entries", "entry"] ["length", "kept"] (defScope s_all_patterns) := ⟨rfl, rfl, rfl, by decide +kernel, rfl, by decide +kernel, by decide +kernel⟩
abbrev AP : Type := Addr × List En
def rp (l : List AP) : List V := l.map fun q => V.ref q.1
def spGen (K : PySem.W.Frag) : SpG := fun vs H cont _ => ∃ (L : Nat) (kk : Addr) (ks : List Int), vs = [.int (L : Int), .ref kk] ∧ L ≤ 4 ∧ H kk = some (.lst (ks.map V.int)) ∧ ks.length ≤ 3 ∧
  ∀ (l : List AP) (H' : Hp), Same H H' → l.map (·.2) = lev ks L → (∀ q ∈ l, PatAt H' q.1 q.2) → cont (rp l) H'
theorem patAt_kp {H H' : Hp} {D a : Addr} {es : List En} {xs : List V} (hD : H D = some (.lst xs)) (k : Kp D H H') (h : PatAt H a es) : PatAt H' a es := by
  obtain ⟨l, h1, h2, h3⟩ := h
  exact ⟨l, k _ _ (ne_of h1 hD (fun z => nomatch z)) h1, h2, fun q hq => k _ _ (ne_of (h3 q hq) hD (fun z => nomatch z)) (h3 q hq)⟩
theorem rp_at {l : List AP} {i : Nat} {x : V} (h : (rp l)[i]? = some x) : ∃ q, l[i]? = some q ∧ x = .ref q.1 := by
  unfold rp at h
  rw [List.getElem?_map] at h
  cases e : l[i]? with
  | none => rw [e] at h; cases h
  | some q => rw [e] at h; exact ⟨q, rfl, (Option.some.inj h).symm⟩
theorem rp_len (l : List AP) : (rp l).length = l.length := List.length_map ..
section
variable {P : Program} {w : World} {K : PySem.W.Frag} {mg : Str → Option Value} {base : Heap} {sa : Addr} {sx : List Int}
theorem ok_all_patterns (T : Tx K mg sa sx) : ∃ fd, GFn P w K mg base 4 (He.ga K "all_patterns") fd ["length", "kept"] (spGen K) ∧ Binds K fd ["length", "kept"] [] ∧ PySem.W.keepIn K (.ref (He.ga K "all_patterns")) = true := by
  obtain ⟨fd, F⟩ := f_all_patterns T
  have b := F.bindsN (ps := ["length", "kept"]) fun _ _ _ _ _ _ us hl => match us, hl with | [_, _], _ => rfl
  have kp := F.kp
  obtain ⟨oc, od, dV, kV, doc, pm, an, cdv, ct, osl, rfl, lk, hcd, _, _⟩ := F.ex
  refine ⟨_, gfn_of lk hcd gsc (fun vs H Q E h => ?_) (fun A outer s H vs Q E pn hr h => ?_), b, kp⟩
  · obtain ⟨L, kk, ks, rfl, _⟩ := h; rfl
  · obtain ⟨L, kk, ks, rfl, hL, hk, kl, q⟩ := h
    refine ⟨_, (gss_cons (gs_ps (ps_set (i := 2) gsc.nd rfl (by first | exact Or.inl rfl | exact Or.inr rfl) (pe_lst (pa_cons (pe_tup pa_nil) pa_nil))))
      (gss_cons (gs_ps (ps_for (passes_of rfl) rfl (pi_range1 rfl (n_range T) (pa_cons (pv 0) pa_nil)) (pg_name (i := 3) gsc.nd rfl (by first | exact Or.inl rfl | exact Or.inr rfl))
        (pss_one (ps_setLc2 (i := 2) (own := [("entries", 4), ("entry", 5)]) (vs1 := [5]) (g := gName 4) (g1 := gName 5) rfl gsc.nd rfl rfl (sw_true rfl rfl rfl (by decide +kernel)) (pi_list (pv 2))
          (blkOk_by (own := [("entries", 4), ("entry", 5)]) (N := ["length", "kept", "level", "_", "entries", "entry"]) (sc := defScope s_all_patterns) (by decide +kernel)) (by decide)
          (fun _ _ _ _ _ => pg_name (i := 4) gsc.nd rfl (Or.inl rfl)) (fun _ _ _ _ _ => pts_nil)
          (fun _ _ _ _ _ => (show PI _ _ _ (iList K _) from pi_list (pe_cal (ok_entries_behind T) hr (by decide) (pa_cons (pv 4) (pa_cons (pv 1) pa_nil)))))
          (fun _ _ _ _ _ => pg_name (i := 5) gsc.nd rfl (Or.inl rfl)) (fun _ _ _ _ _ => pts_nil)
          (fun _ _ _ _ _ => (pe_op (show OpR _ _ (rCatA K) from op_catA) (pv 4) (pe_tup (pa_cons (pv 5) pa_nil))))))))
      (gss_cons (gs_for (passes_of rfl) rfl (pi_list (pv 2)) (pg_name (i := 4) gsc.nd rfl (by first | exact Or.inl rfl | exact Or.inr rfl)) (gss_cons (gs_yield (pv 4)) gss_nil)) gss_nil))), ?_⟩
    refine ⟨sz1 (by simp), fun t ht => ⟨sz1 (by simp), fun V0 hV0 => ?_⟩⟩
    have s0 := (Same.new ht (o := .tup [])).trans (Same.new hV0 (o := .lst [V.ref t]))
    refine ⟨_, rfl, (L : Int), rfl, by omega, by omega, ?_⟩
    refine for_range (lo := 0) (n := ((L : Int)).toNat) (fun i σ H' => ∃ (V' : Addr) (v3 v4 v5 : Option V) (l : List AP), σ = [some (.int (L : Int)), some (.ref kk), some (.ref V'), v3, v4, v5] ∧ Same H H' ∧ H' V' = some (.lst (rp l)) ∧ l.map (·.2) = lev ks i ∧ (∀ q ∈ l, PatAt H' q.1 q.2) ∧ i ≤ L)
      ⟨V0, none, none, none, [(t, [])], rfl, s0, upd_same, rfl, fun q hq => ?_, Nat.zero_le _⟩ ?_ ?_
    · rw [List.mem_singleton.mp hq]
      exact ⟨[], (Same.new hV0) _ _ upd_same, rfl, by simp⟩
    · rintro i σ H' hi ⟨V', v3, v4, v5, l, rfl, sm, hV, hlv, hpt, _⟩
      have hi4 : i < 4 := by omega
      have lL := lev_small (ks := ks) (m := i + 1) kl (by omega)
      have hlen : l.length = (lev ks i).length := by rw [← hlv, List.length_map]
      refine ⟨_, rfl, V', rfl, ⟨_, SqL.of hV⟩, fun D hD => ?_⟩
      have nVD : V' ≠ D := ne_of_none hV hD
      refine lcG (K := K) (a := V') (xs := rp l) (fun i2 H2 => ∃ dl : List AP, dl.map (·.2) = ((lev ks i).take i2).flatMap (ext ks) ∧ Same H' H2 ∧ H2 D = some (.lst (rp dl)) ∧ ∀ q ∈ dl, PatAt H2 q.1 q.2) ⟨[], rfl, Same.new hD, upd_same, by simp⟩ (fun i2 H2 _ ⟨_, _, s2, _⟩ => SqL.of (s2 _ _ hV)) ?_ ?_
      · rintro i2 x H2 hx ⟨dl, hdl, s2, hD2, hq2⟩
        obtain ⟨e, he, rfl⟩ := rp_at hx
        obtain ⟨hil, hie⟩ := List.getElem?_eq_some_iff.mp he
        have hi2 : i2 < (lev ks i).length := by omega
        have ee : e.2 = (lev ks i)[i2] := by
          have h1 : (l.map (·.2))[i2]? = some e.2 := by rw [List.getElem?_map, he]; rfl
          rw [hlv, List.getElem?_eq_getElem hi2] at h1
          exact (Option.some.inj h1).symm
        have el := lev_length (List.getElem_mem hi2)
        have ec := lev_cnt_le (List.getElem_mem hi2)
        rw [← ee] at el ec
        have hpe : PatAt H2 e.1 e.2 := (hpt e (List.mem_of_getElem? he)).same s2
        refine ⟨rfl, _, rfl, _, rfl, e.1, kk, e.2, ks, rfl, hpe, by omega, s2 _ _ (sm _ _ hk), by omega, by omega, fun r H3 hr0 s3 hE => ⟨r, rfl, ?_, ?_⟩⟩
        · obtain ⟨le, h1, _⟩ := hE
          exact ⟨_, SqL.of h1⟩
        obtain ⟨le, hle1, hle2, hle3⟩ := hE
        have nrD : r ≠ D := (ne_of_none hD2 hr0).symm
        have hpe3 := hpe.same s3
        refine lcG (K := K) (a := r) (xs := rf le) (fun j H4 => ∃ dl2 : List AP, dl2.map (·.2) = ((lev ks i).take i2).flatMap (ext ks) ++ (ext ks (lev ks i)[i2]).take j ∧ Same H' H4 ∧ Kp D H3 H4 ∧ H4 D = some (.lst (rp dl2)) ∧ ∀ q ∈ dl2, PatAt H4 q.1 q.2)
          ⟨dl, by rw [List.take_zero, List.append_nil]; exact hdl, s2.trans s3, Kp.refl, s3 _ _ hD2, fun q hq => (hq2 q hq).same s3⟩ (fun j H4 _ ⟨_, _, _, k4, _⟩ => SqL.of (k4 _ _ nrD hle1)) ?_ ?_
        · rintro j x H4 hx ⟨dl2, hdl2, s4, k4, hD4, hq4⟩
          obtain ⟨en, hen, rfl⟩ := rf_at hx
          have henv : H4 en.1 = some (.tup en.2.vs) := by
            have h3 := hle3 en (List.mem_of_getElem? hen)
            exact k4 _ _ (ne_of h3 (s3 _ _ hD2) (fun z => nomatch z)) h3
          have hjn : (nxt ks e.2)[j]? = some en.2 := by rw [← hle2, List.getElem?_map, hen]; rfl
          obtain ⟨hj, hje⟩ := List.getElem?_eq_some_iff.mp hjn
          obtain ⟨la, ha1, ha2, ha3⟩ := patAt_kp (s3 _ _ hD2) k4 hpe3
          have lla : la.length ≤ 4 := by
            have := congrArg List.length ha2
            rw [List.length_map] at this
            omega
          have hext : (ext ks (lev ks i)[i2])[j]? = some (e.2 ++ [en.2]) := by
            unfold ext
            rw [← ee, List.getElem?_map, hjn]; rfl
          have ldl : dl2.length ≤ 1000 := by
            have h1 := congrArg List.length hdl2
            rw [List.length_map] at h1
            have h2 := lev_pre (ks := ks) (m := i) (j := j) hi2
            omega
          -- what a new pattern at p gives
          have fin : ∀ (p : Addr) (H5 : Hp), Same H4 H5 → H5 p = some (.tup (rf la ++ [V.ref en.1])) →
              ∃ acc, H5 D = some (.lst acc) ∧ acc.length < sizeLine ∧ ∃ dl2 : List AP, dl2.map (·.2) = ((lev ks i).take i2).flatMap (ext ks) ++ (ext ks (lev ks i)[i2]).take (j + 1) ∧ Same H' (upd H5 D (.lst (acc ++ [V.ref p]))) ∧ Kp D H3 (upd H5 D (.lst (acc ++ [V.ref p]))) ∧
                (upd H5 D (.lst (acc ++ [V.ref p]))) D = some (.lst (rp dl2)) ∧ ∀ q ∈ dl2, PatAt (upd H5 D (.lst (acc ++ [V.ref p]))) q.1 q.2 := fun p H5 s5 hp5 => by
            have kD : Kp D H5 (upd H5 D (.lst (rp dl2 ++ [V.ref p]))) := Kp.refl.at
            have hD5 := s5 _ _ hD4
            refine ⟨_, hD5, sz2 (by rw [rp_len]; omega), dl2 ++ [(p, e.2 ++ [en.2])], ?_, (s4.trans s5).mut hD, (k4.trans s5.kp).trans kD, by rw [upd_same, rp, rp, List.map_append]; rfl, fun q hq => ?_⟩
            · rw [List.map_append, hdl2, List.take_add_one, hext, List.append_assoc]; rfl
            · rcases List.mem_append.mp hq with h | h
              · exact patAt_kp hD5 kD ((hq4 q h).same s5)
              · rw [List.mem_singleton.mp h]
                refine patAt_kp hD5 kD ⟨la ++ [en], by rw [hp5, rf, rf, List.map_append]; rfl, by rw [List.map_append, ha2]; rfl, fun z hz => ?_⟩
                rcases List.mem_append.mp hz with h | h
                · exact s5 _ _ (ha3 z h)
                · rw [List.mem_singleton.mp h]; exact s5 _ _ henv
          refine ⟨rfl, _, rfl, _, rfl, sz1 (by simp), fun p2 hp2 => ⟨e.1, p2, _, _, rfl, rfl, SqT.of ((Same.new hp2) _ _ ha1), SqT.of upd_same, sz1 (by rw [rf_len]; simp; omega), fun h0 => ?_, fun _ h1 => (by cases h1), fun _ _ p3 hp3 => ?_⟩⟩
          · exact fin p2 _ (Same.new hp2) (by rw [upd_same, h0]; rfl)
          · exact fin p3 _ ((Same.new hp2).trans (Same.new hp3)) upd_same
        · rintro H4 ⟨dl2, hdl2, s4, k4, hD4, hq4⟩
          refine ⟨dl2, ?_, s4, hD4, hq4⟩
          have e1 : (rf le).length = (ext ks (lev ks i)[i2]).length := by
            unfold ext
            rw [rf_len, List.length_map, ← ee, ← hle2, List.length_map]
          rw [hdl2, e1, List.take_length, List.take_add_one, List.getElem?_eq_getElem hi2, List.flatMap_append]
          show _ = _ ++ [(lev ks i)[i2]].flatMap (ext ks)
          rw [List.flatMap_singleton]
      · rintro H2 ⟨dl, hdl, s2, hD2, hq2⟩
        refine ⟨D, _, _, _, dl, rfl, sm.trans s2, hD2, ?_, hq2, by omega⟩
        rw [hdl, rp_len, hlen, List.take_length]
        rfl
    · rintro σ H' ⟨V', v3, v4, v5, l, rfl, sm, hV, hlv, hpt, _⟩
      rw [Int.toNat_natCast] at hlv
      have lL := lev_small (ks := ks) (m := L) kl hL
      have ll : l.length ≤ 1000 := by
        have := congrArg List.length hlv
        rw [List.length_map] at this
        omega
      refine ⟨_, rfl, V', rfl, ⟨_, SqL.of hV⟩, ?_⟩
      refine gforL (K := K) (a := V') (xs := rp l) (fun i ys σ H2 => ∃ v4, ys = (rp l).take i ∧ σ = [some (.int (L : Int)), some (.ref kk), some (.ref V'), v3, v4, v5] ∧ H2 = H') ⟨v4, rfl, rfl, rfl⟩ (fun i ys σ H2 _ ⟨_, _, _, e⟩ => by rw [e]; exact SqL.of hV) ?_ ?_
      · rintro i x ys σ H2 hx ⟨v4, rfl, rfl, rfl⟩
        refine ⟨sz2 (by rw [List.length_take, rp_len]; omega), _, rfl, _, ?_, rfl, rfl⟩
        rw [List.take_add_one, hx]; rfl
      · rintro ys σ H2 ⟨v4, rfl, rfl, rfl⟩
        rw [List.take_length]
        exact q l H2 sm hlv hpt
end
end K28
namespace K28
open PySem PySem.Spec PyProof.Rows Cm
open L2 hiding Same
/-! ### what is listed -/
def It.d : It → PyData
  | .en e => .tuple e.ds
  | .fl f => f.d
  | .li fs => .list (fs.map Fl.d)
  | .tn fs => .tuple (fs.map Fl.d)
  | .pr t f => .tuple [.str t, f.d]
theorem eqvA_len : ∀ {xs ys : List PyData}, PyData.eqvAll xs ys = true → xs.length = ys.length
  | [], [], _ => rfl
  | [], _ :: _, h => by simp [PyData.eqvAll] at h
  | _ :: _, [], h => by simp [PyData.eqvAll] at h
  | x :: xs, y :: ys, h => by
    have h2 : (PyData.eqv x y && PyData.eqvAll xs ys) = true := by simpa [PyData.eqvAll] using h
    rw [List.length_cons, List.length_cons, eqvA_len (Bool.and_eq_true_iff.mp h2).2]
theorem eqv_it {H : Hp} {v : V} {e : En} {it : It} (hi : ItAt H v it) (h : PyData.eqv (.tuple e.ds) it.d = true) : it = .en e ∨ ∃ t c, it = .pr t (.bo c) := by
  cases it with
  | en e' =>
    left
    have : decide (e = e') = true := (eqv_en e e').symm.trans h
    rw [of_decide_eq_true this]
  | fl f => cases f <;> simp [It.d, Fl.d, PyData.eqv] at h
  | li fs => simp [It.d, PyData.eqv] at h
  | tn fs =>
    obtain ⟨a, _, _, n2, _⟩ := hi
    have h2 : PyData.eqvAll e.ds (fs.map Fl.d) = true := by simpa [It.d, PyData.eqv] using h
    have h3 := eqvA_len h2
    have l2 : e.ds.length = 2 := by cases e <;> rfl
    rw [l2, List.length_map] at h3
    exact absurd h3.symm n2
  | pr t f =>
    obtain ⟨a, _, _, _, _, hb⟩ := hi
    cases f with
    | bo c => exact .inr ⟨t, c, rfl⟩
    | st z => exact absurd h (by rw [show PyData.eqv (.tuple e.ds) (It.pr t (.st z)).d = false from hb e]; decide)
    | nn => exact absurd h (by rw [show PyData.eqv (.tuple e.ds) (It.pr t .nn).d = false from hb e]; decide)
    | nu z => exact absurd h (by rw [show PyData.eqv (.tuple e.ds) (It.pr t (.nu z)).d = false from hb e]; decide)
theorem eqv_its {H : Hp} : ∀ {es : List En} {l : List (V × It)}, (∀ q ∈ l, ItAt H q.1 q.2) → PyData.eqvAll (pds es) ((l.map (·.2)).map It.d) = true → es.length = l.length ∧ ∀ (i : Nat) (q : V × It), l[i]? = some q → (∃ e, q.2 = .en e) ∨ ∃ t c, q.2 = .pr t (.bo c)
  | [], [], _, _ => ⟨rfl, fun i q h => by simp at h⟩
  | [], _ :: _, _, h => by simp [pds, PyData.eqvAll] at h
  | _ :: _, [], _, h => by simp [pds, PyData.eqvAll] at h
  | e :: es, q :: l, hq, h => by
    have h2 : (PyData.eqv (.tuple e.ds) q.2.d && PyData.eqvAll (pds es) ((l.map (·.2)).map It.d)) = true := by simpa [pds, PyData.eqvAll] using h
    obtain ⟨h3, h4⟩ := Bool.and_eq_true_iff.mp h2
    obtain ⟨h5, h6⟩ := eqv_its (fun z hz => hq z (List.mem_cons_of_mem _ hz)) h4
    refine ⟨by rw [List.length_cons, List.length_cons, h5], fun i z hz => ?_⟩
    cases i with
    | zero =>
      obtain rfl : q = z := by simpa using hz
      exact (eqv_it (hq q List.mem_cons_self) h3).imp (fun z => ⟨e, z⟩) id
    | succ i => exact h6 i z (by simpa using hz)
theorem isP_yes {ks : List Int} : ∀ {its : List It} {es0 : List En} {m : Nat}, isP ks es0 its = true → es0 ∈ lev ks m → ∃ es, its = es.map It.en ∧ es0 ++ es ∈ lev ks (m + es.length)
  | [], es0, m, _, h0 => ⟨[], rfl, by rw [List.append_nil]; exact h0⟩
  | .en e :: its, es0, m, h, h0 => by
    obtain ⟨h1, h2⟩ := Bool.and_eq_true_iff.mp (show (decide (e ∈ nxt ks es0) && isP ks (es0 ++ [e]) its) = true from h)
    obtain ⟨es, rfl, h3⟩ := isP_yes h2 (mem_lev_succ.mpr ⟨es0, e, h0, of_decide_eq_true h1, rfl⟩)
    refine ⟨e :: es, rfl, ?_⟩
    rw [List.append_assoc] at h3
    have e2 : m + (e :: es).length = m + 1 + es.length := by rw [List.length_cons]; omega
    rw [e2]
    exact h3
  | .fl _ :: _, _, _, h, _ => by cases h
  | .li _ :: _, _, _, h, _ => by cases h
  | .tn _ :: _, _, _, h, _ => by cases h
  | .pr _ _ :: _, _, _, h, _ => by cases h
theorem isP_of {ks : List Int} : ∀ {es es0 : List En} {m : Nat}, es0 ++ es ∈ lev ks m → isP ks es0 (es.map It.en) = true
  | [], _, _, _ => rfl
  | e :: es, es0, m, h => by
    have hl := lev_length h
    have h1 := lev_take h (es0.length + 1) (by rw [← hl, List.length_append, List.length_cons]; omega)
    have e1 : (es0 ++ e :: es).take (es0.length + 1) = es0 ++ [e] := by
      rw [List.take_append, List.take_of_length_le (by omega), show es0.length + 1 - es0.length = 1 by omega]; rfl
    rw [e1] at h1
    obtain ⟨fs, x, _, h2, h3⟩ := mem_lev_succ.mp h1
    obtain ⟨e2, e3⟩ := List.append_inj' h3 rfl
    obtain rfl : e = x := by simpa using e3
    subst e2
    show (decide (e ∈ nxt ks es0) && isP ks (es0 ++ [e]) (es.map It.en)) = true
    rw [decide_eq_true h2, Bool.true_and]
    exact isP_of (m := m) (by rw [List.append_assoc]; exact h)
/-- is it a pattern of that length -/
def patB (ks : List Int) (L : Nat) (its : List It) : Bool := decide (its.length = L) && isP ks [] its
theorem patB_iff {ks : List Int} {L : Nat} {its : List It} : patB ks L its = true ↔ ∃ es, its = es.map It.en ∧ es ∈ lev ks L := by
  unfold patB
  rw [Bool.and_eq_true, decide_eq_true_iff]
  refine ⟨fun ⟨h1, h2⟩ => ?_, fun ⟨es, e, h⟩ => ?_⟩
  · obtain ⟨es, e, h3⟩ := isP_yes (m := 0) h2 (List.mem_singleton.mpr rfl)
    refine ⟨es, e, ?_⟩
    rw [e, List.length_map] at h1
    rw [h1, Nat.zero_add, List.nil_append] at h3
    exact h3
  · subst e
    exact ⟨by rw [List.length_map]; exact lev_length h, isP_of (es0 := []) h⟩
theorem it_lay {H : Hp} {v : V} {it : It} (h : ItAt H v it) : it.d.canLay0 = true ∧ it.d.depth ≤ 1 := by
  have fls : ∀ fs : List Fl, (∀ f ∈ fs, f.ok) → PyData.canLayAll0 (fs.map Fl.d) = true ∧ PyData.depthAll (fs.map Fl.d) = 0 := by
    intro fs
    induction fs with
    | nil => intro _; exact ⟨by simp [PyData.canLayAll0], by simp [PyData.depthAll]⟩
    | cons f fs ih =>
      intro hf
      obtain ⟨h1, h2⟩ := fl_lay (hf f List.mem_cons_self)
      obtain ⟨h3, h4⟩ := ih fun g hg => hf g (List.mem_cons_of_mem _ hg)
      exact ⟨by simp [PyData.canLayAll0, h1, h3], by simp [PyData.depthAll, h2, h4]⟩
  cases it with
  | en e => obtain ⟨h1, h2⟩ := lay_en e; exact ⟨h1, by show (PyData.tuple e.ds).depth ≤ 1; omega⟩
  | fl f => obtain ⟨h1, h2⟩ := fl_lay h.2; exact ⟨h1, by show f.d.depth ≤ 1; omega⟩
  | li fs =>
    obtain ⟨a, _, _, hf⟩ := h
    obtain ⟨h1, h2⟩ := fls fs hf
    exact ⟨by simp [It.d, PyData.canLay0, h1], by simp [It.d, PyData.depth, h2]⟩
  | tn fs =>
    obtain ⟨a, _, _, _, _, hf⟩ := h
    obtain ⟨h1, h2⟩ := fls fs hf
    exact ⟨by simp [It.d, PyData.canLay0, h1], by simp [It.d, PyData.depth, h2]⟩
  | pr t f =>
    obtain ⟨a, _, _, ht, hf, _⟩ := h
    obtain ⟨h1, h2⟩ := fl_lay hf
    exact ⟨by simp [It.d, PyData.canLay0, PyData.canLayAll0, ht, h1], by simp [It.d, PyData.depth, PyData.depthAll, h2]⟩
theorem shp_its {H : Hp} {l : List (V × It)} (h : ∀ q ∈ l, ItAt H q.1 q.2) : SeqAt.shaped (.tuple ((l.map (·.2)).map It.d)) = true := by
  have : PyData.canLayAll0 ((l.map (·.2)).map It.d) = true ∧ PyData.depthAll ((l.map (·.2)).map It.d) ≤ 1 := by
    induction l with
    | nil => exact ⟨by simp [PyData.canLayAll0], by simp [PyData.depthAll]⟩
    | cons q l ih =>
      obtain ⟨h1, h2⟩ := it_lay (h q List.mem_cons_self)
      obtain ⟨h3, h4⟩ := ih fun z hz => h z (List.mem_cons_of_mem _ hz)
      refine ⟨?_, ?_⟩
      · show PyData.canLayAll0 (q.2.d :: (l.map (·.2)).map It.d) = true
        rw [PyData.canLayAll0, h1, h3]; rfl
      · show PyData.depthAll (q.2.d :: (l.map (·.2)).map It.d) ≤ 1
        rw [PyData.depthAll]; omega
  obtain ⟨h1, h2⟩ := this
  show ((PyData.tuple _).canLay0 && decide ((PyData.tuple _).depth ≤ 64)) = true
  rw [Bool.and_eq_true]
  exact ⟨by simp only [PyData.canLay0]; exact h1, decide_eq_true (by simp only [PyData.depth]; omega)⟩
theorem it_dp {K : PySem.W.Frag} {H : Hp} {v : V} {it : It} (h : ItAt H v it) : Dp K H v it.d := by
  have fls : ∀ fs : List Fl, DpAll K H (fs.map Fl.v) (fs.map Fl.d) := by
    intro fs
    induction fs with
    | nil => exact .nil
    | cons f fs ih => exact .cons (fl_dp f) ih
  cases it with
  | en e => obtain ⟨a, rfl, ha⟩ := h; exact dp_en ha
  | fl f => obtain ⟨rfl, _⟩ := h; exact fl_dp f
  | li fs => obtain ⟨a, rfl, ha, _⟩ := h; exact .lst (SqL.of ha) (fls fs)
  | tn fs => obtain ⟨a, rfl, ha, _⟩ := h; exact .tup (SqT.of ha) (fls fs)
  | pr t f => obtain ⟨a, rfl, ha, _⟩ := h; exact .tup (SqT.of ha) (.cons (.str t) (.cons (fl_dp f) .nil))
theorem its_dp {K : PySem.W.Frag} {H : Hp} : ∀ {l : List (V × It)}, (∀ q ∈ l, ItAt H q.1 q.2) → DpAll K H (l.map (·.1)) ((l.map (·.2)).map It.d)
  | [], _ => .nil
  | q :: l, h => .cons (it_dp (h q List.mem_cons_self)) (its_dp fun z hz => h z (List.mem_cons_of_mem _ hz))
/-- the list of all patterns -/
def ToldAt (H : Hp) (a : Addr) (ess : List (List En)) : Prop := ∃ l : List AP, H a = some (.lst (rp l)) ∧ l.map (·.2) = ess ∧ ∀ q ∈ l, PatAt H q.1 q.2
theorem ToldAt.same {H H' : Hp} {a : Addr} {ess : List (List En)} (s : Same H H') (h : ToldAt H a ess) : ToldAt H' a ess :=
  let ⟨l, h1, h2, h3⟩ := h; ⟨l, s _ _ h1, h2, fun q hq => (h3 q hq).same s⟩
def tds (ess : List (List En)) : List PyData := ess.map fun es => .tuple (pds es)
theorem told_dp {K : PySem.W.Frag} {H : Hp} {a : Addr} {ess : List (List En)} (h : ToldAt H a ess) : Dp K H (.ref a) (.list (tds ess)) := by
  obtain ⟨l, h1, h2, h3⟩ := h
  subst h2
  refine .lst (SqL.of h1) ?_
  clear h1
  induction l with
  | nil => exact .nil
  | cons q l ih => exact .cons (dp_pat (h3 q List.mem_cons_self)) (ih fun z hz => h3 z (List.mem_cons_of_mem _ hz))
theorem shp_tds (ess : List (List En)) : SeqAt.shaped (.list (tds ess)) = true := by
  have : PyData.canLayAll0 (tds ess) = true ∧ PyData.depthAll (tds ess) ≤ 2 := by
    induction ess with
    | nil => exact ⟨by simp [tds, PyData.canLayAll0], by simp [tds, PyData.depthAll]⟩
    | cons es ess ih =>
      obtain ⟨h1, h2⟩ := lay_pds es
      obtain ⟨h3, h4⟩ := ih
      refine ⟨?_, ?_⟩
      · show PyData.canLayAll0 (.tuple (pds es) :: tds ess) = true
        rw [PyData.canLayAll0, h3]; simp [PyData.canLay0, h1]
      · show PyData.depthAll (.tuple (pds es) :: tds ess) ≤ 2
        rw [PyData.depthAll]; simp only [PyData.depth]; omega
  obtain ⟨h1, h2⟩ := this
  show ((PyData.list _).canLay0 && decide ((PyData.list _).depth ≤ 64)) = true
  rw [Bool.and_eq_true]
  exact ⟨by simp only [PyData.canLay0]; exact h1, decide_eq_true (by simp only [PyData.depth]; omega)⟩
end K28
namespace K28
open PySem PySem.Spec PyProof.Rows Cm
open L2 hiding Same
def spIntg : Sp := fun vs H Q _ => (∃ n, vs = [.int n] ∧ Q (.bl true) H) ∨ (∃ c, vs = [.bl c] ∧ Q (.bl false) H)
def spListed (K : PySem.W.Frag) : Sp := fun vs H Q _ => ∃ (v : V) (T : Addr) (ks : List Int) (L : Nat), vs = [v, .ref T] ∧ ToldAt H T (lev ks L) ∧
  ((∃ t, TyX K H v t ∧ PySem.W.kitOne K t (.type "tuple") = some false ∧ Q (.bl false) H) ∨ (∃ a its, v = .ref a ∧ ThAt H a its ∧ Q (.bl (patB ks L its)) H))
def spVals (K : PySem.W.Frag) (sa : Addr) (sx : List Int) : Sp := fun vs H Q _ => ∃ (p : Addr) (m : Nat) (b : Addr) (ks : List Int), vs = [.ref p, .int (m : Int), .ref b] ∧ m ≤ 4 ∧ H b = some (.lst (ks.map V.int)) ∧ ks.length ≤ 4 ∧ PoolAt K sa sx H p ∧
  ∀ (t : Addr) (ns : List Int) (H' : Hp), H' t = some (.tup (ns.map V.int)) → ns.length = m → Kp p H H' → PoolAt K sa sx H' p → Q (.ref t) H'
section
variable {P : Program} {w : World} {K : PySem.W.Frag} {mg : Str → Option Value} {base : Heap} {sa : Addr} {sx : List Int}
theorem ok_l_integer (T : Tx K mg sa sx) : Cal P w K mg base 1 "_law_integer" spIntg := by
  obtain ⟨fd, F⟩ := f_l_integer T
  refine ⟨_, fd, ["_law_thing"], fnok F sc_l_integer (fun vs H Q E h => ?_) (fun cdv A outer s H vs Q E hr h => ?_), F.bindsN fun _ _ _ _ _ _ us hl => match us, hl with | [_], _ => rfl, g__law_integer T, F.kp⟩
  · rcases h with ⟨n, rfl, _⟩ | ⟨c, rfl, _⟩ <;> rfl
  · refine ⟨_, (pss_one (ps_ret (pe_and (pe_callB (id := "isinstance") (r := rIsi K) call_isi rfl (n_isinstance T) (by decide +kernel) (pa_cons (pv 0) (pa_cons (pe_bltn (v := .ty "int") rfl (n_int T) (by decide +kernel) rfl) pa_nil))) (pe_one (pe_not (pe_callB (id := "isinstance") (r := rIsi K) call_isi rfl (n_isinstance T) (by decide +kernel) (pa_cons (pv 0) (pa_cons (pe_bltn (v := .ty "bool") rfl (n_bool T) (by decide +kernel) rfl) pa_nil)))))))), ?_⟩
    rcases h with ⟨n, rfl, k⟩ | ⟨c, rfl, k⟩
    · refine ⟨_, rfl, _, .ty "int", _, .type "int", true, rfl, .ty _, .base (.int _), kit_ty (by decide +kernel), true, rfl, iteT ?_⟩
      exact ⟨_, rfl, _, .ty "bool", _, .type "bool", false, rfl, .ty _, .base (.int _), kit_ty (by decide +kernel), false, rfl, k⟩
    · refine ⟨_, rfl, _, .ty "int", _, .type "int", true, rfl, .ty _, .base (.bl _), kit_ty (by decide +kernel), true, rfl, iteT ?_⟩
      exact ⟨_, rfl, _, .ty "bool", _, .type "bool", true, rfl, .ty _, .base (.bl _), kit_ty (by decide +kernel), true, rfl, k⟩
theorem ok_l_is_listed (T : Tx K mg sa sx) : Cal P w K mg base 2 "_law_is_listed" (spListed K) := by
  obtain ⟨fd, F⟩ := f_l_is_listed T
  refine ⟨_, fd, ["_law_thing", "_law_told"], fnok F sc_l_is_listed (fun vs H Q E h => ?_) (fun cdv A outer s H vs Q E hr h => ?_), F.bindsN fun _ _ _ _ _ _ us hl => match us, hl with | [_, _], _ => rfl, g__law_is_listed T, F.kp⟩
  · obtain ⟨v, T, ks, L, rfl, _⟩ := h; rfl
  · obtain ⟨v, Td, ks, L, rfl, hT, h⟩ := h
    refine ⟨_, (pss_cons (ps_if (PW.pt (pw_or (pt_not (pt_val (pe_callB (id := "isinstance") (r := rIsi K) call_isi rfl (n_isinstance T) (by decide +kernel) (pa_cons (pv 0) (pa_cons (pe_bltn (v := .ty "tuple") rfl (n_tuple T) (by decide +kernel) rfl) pa_nil))))) (pw_or1 (pt_cmpR (op_notInD (u65 hr)) (pv 0) (pv 1) (by rfl))))) (pss_one (ps_ret pe_bl)) pss_nil)
    (pss_cons (ps_for PassesOwn.never rfl (pi_tup (pv 0)) (pg_name (i := 2) sc_l_is_listed.nd rfl (by first | exact Or.inl rfl | exact Or.inr rfl))
      (pss_one (ps_if (PW.pt (pw_or (pt_not (pt_val (pe_callB (id := "isinstance") (r := rIsi K) call_isi rfl (n_isinstance T) (by decide +kernel) (pa_cons (pv 2) (pa_cons (pe_bltn (v := .ty "tuple") rfl (n_tuple T) (by decide +kernel) rfl) pa_nil))))) (pw_or1 (pt_not (pt_val (pe_cal (ok_l_integer T) hr (by decide) (pa_cons (pe_ix ix_tup (pv 2) pe_int (fun _ _ => rfl)) pa_nil))))))) (pss_one (ps_ret pe_bl)) pss_nil)))
    (pss_one (ps_ret pe_bl)))), ?_⟩
    rcases h with ⟨t, ty, k1, q⟩ | ⟨a, its, rfl, ⟨l, ha, rfl, hq⟩, q⟩
    · exact ⟨_, rfl, v, .ty "tuple", t, .type "tuple", false, rfl, .ty _, ty, k1, false, rfl, iteT q⟩
    · refine ⟨_, rfl, .ref a, .ty "tuple", _, .type "tuple", true, rfl, .ty _, .base (.tup ha), kit_ty (by decide +kernel), true, rfl, iteF ?_⟩
      refine ⟨_, rfl, _, rfl, _, _, .tup (SqT.of ha) (its_dp hq), told_dp hT, shp_its hq, shp_tds _, _, rfl, ?_⟩
      cases hany : ((tds (lev ks L)).any fun z => PyData.eqv z (.tuple ((l.map (·.2)).map It.d))) with
      | false =>
        refine iteT ?_
        have e : patB ks L (l.map (·.2)) = false := by
          refine Bool.eq_false_iff.mpr fun hp => ?_
          obtain ⟨es, e1, e2⟩ := patB_iff.mp hp
          have : ((tds (lev ks L)).any fun z => PyData.eqv z (.tuple ((l.map (·.2)).map It.d))) = true := by
            rw [List.any_eq_true]
            refine ⟨_, List.mem_map.mpr ⟨es, e2, rfl⟩, ?_⟩
            have e3 : (es.map It.en).map It.d = pds es := by rw [List.map_map]; rfl
            rw [e1, e3, eqv_pat]
            exact decide_eq_true rfl
          rw [this] at hany
          cases hany
        rw [e] at q
        exact q
      | true =>
        refine iteF ?_
        obtain ⟨d, hd, he⟩ := List.any_eq_true.mp hany
        obtain ⟨es, he2, rfl⟩ := List.mem_map.mp hd
        have he3 : PyData.eqvAll (pds es) ((l.map (·.2)).map It.d) = true := by simpa [PyData.eqv] using he
        obtain ⟨hlen, hits⟩ := eqv_its hq he3
        refine ⟨_, rfl, a, rfl, ⟨_, SqT.of ha⟩, ?_⟩
        refine for_tup (K := K) (a := a) (xs := l.map (·.1)) (fun i σ H' => ∃ v2 fs, σ = [some (.ref a), some (.ref Td), v2] ∧ H' = H ∧ (l.take i).map (·.2) = List.map It.en fs) ⟨none, [], rfl, rfl, rfl⟩ (fun i σ H' _ ⟨_, _, _, e, _⟩ => by rw [e]; exact SqT.of ha) ?_ ?_
        · rintro i x σ H' hx ⟨v2, fs, rfl, rfl, hfs⟩
          rw [List.getElem?_map] at hx
          cases hz : l[i]? with
          | none => rw [hz] at hx; cases hx
          | some z =>
            rw [hz] at hx
            obtain rfl : z.1 = x := Option.some.inj hx
            have hzi := hq z (List.mem_of_getElem? hz)
            rcases hits i z hz with ⟨e, ee⟩ | ⟨t, c, ee⟩
            · rw [ee] at hzi
              obtain ⟨b, hb1, hb⟩ := hzi
              obtain ⟨n, hn, _⟩ : ∃ x : Int, atI e.vs 1 = some (.int x) ∧ True := by
                cases e with
                | k v => exact ⟨v, rfl, trivial⟩
                | n i => exact ⟨(i : Int), rfl, trivial⟩
              rw [hb1]
              refine ⟨_, rfl, .ref b, .ty "tuple", _, .type "tuple", true, rfl, .ty _, .base (.tup hb), kit_ty (by decide +kernel), true, rfl, iteF ?_⟩
              refine ⟨_, rfl, b, _, 1, .int n, rfl, rfl, SqT.of hb, hn, .inl ⟨n, rfl, true, rfl, iteF ⟨_, fs ++ [e], rfl, rfl, ?_⟩⟩⟩
              rw [List.take_add_one, hz, List.map_append, hfs, List.map_append]
              show _ ++ [z.2] = _
              rw [ee]; rfl
            · rw [ee] at hzi
              obtain ⟨b, hb1, hb, _⟩ := hzi
              rw [hb1]
              refine ⟨_, rfl, .ref b, .ty "tuple", _, .type "tuple", true, rfl, .ty _, .base (.tup hb), kit_ty (by decide +kernel), true, rfl, iteF ?_⟩
              refine ⟨_, rfl, b, _, 1, .bl c, rfl, rfl, SqT.of hb, rfl, .inr ⟨c, rfl, false, rfl, iteT ?_⟩⟩
              have e1 : patB ks L (l.map (·.2)) = false := by
                refine Bool.eq_false_iff.mpr fun hp => ?_
                obtain ⟨es', e1, _⟩ := patB_iff.mp hp
                have h1 : (l.map (·.2))[i]? = some z.2 := by rw [List.getElem?_map, hz]; rfl
                rw [e1, List.getElem?_map, ee] at h1
                cases hh : es'[i]? with
                | none => rw [hh] at h1; cases h1
                | some y => rw [hh] at h1; cases h1
              rw [e1] at q
              exact q
        · rintro σ H' ⟨v2, fs, rfl, rfl, hfs⟩
          rw [List.length_map, List.take_length] at hfs
          have e1 : patB ks L (l.map (·.2)) = true := by
            refine patB_iff.mpr ⟨es, ?_, he2⟩
            rw [hfs]
            have e3 : (fs.map It.en).map It.d = pds fs := by rw [List.map_map]; rfl
            rw [hfs, e3, eqv_pds] at he3
            rw [of_decide_eq_true he3]
          rw [e1] at q
          exact q
end
end K28
namespace K28
open PySem PySem.Spec PyProof.Rows Cm
open L2 hiding Same
def OddsAt (H : Hp) (a : Addr) (n : Nat) : Prop := ∃ l : List (V × It), H a = some (.lst (l.map (·.1))) ∧ l.length = n ∧ ∀ q ∈ l, ItAt H q.1 q.2
theorem eqv_new {n : Int} (h : n < 0) (e : En) : PyData.eqv (.tuple e.ds) (.tuple [.str "new", .int n]) = false := by
  cases e with
  | k v => simp [En.ds, PyData.eqv, PyData.eqvAll, kn1]
  | n i =>
    simp [En.ds, PyData.eqv, PyData.eqvAll]
    omega
def newIt (n : Int) : It := if 0 ≤ n then .en (.n n.toNat) else .pr "new" (.nu n)
theorem new_at {H : Hp} {a : Addr} {n : Int} (h : H a = some (.tup [.str "new", .int n])) : ItAt H (.ref a) (newIt n) := by
  unfold newIt
  by_cases c : 0 ≤ n
  · rw [if_pos c]
    refine ⟨a, rfl, ?_⟩
    show H a = some (.tup [.str "new", .int ((n.toNat : Nat) : Int)])
    rw [Int.toNat_of_nonneg c]; exact h
  · rw [if_neg c]
    exact ⟨a, rfl, h, by decide +kernel, trivial, fun e => eqv_new (by omega) e⟩
theorem bad1 (e : En) : PyData.eqv (.tuple e.ds) (.tuple [.str "old", .int 0]) = false := by
  cases e with
  | k v => simp [En.ds, PyData.eqv, PyData.eqvAll, show (("kept" : Str) == "old") = false by decide +kernel]
  | n i => simp [En.ds, PyData.eqv, PyData.eqvAll, show (("new" : Str) == "old") = false by decide +kernel]
theorem bad2 (t : Str) (z : Str) (e : En) : PyData.eqv (.tuple e.ds) (.tuple [.str t, .str z]) = false := by
  cases e <;> simp [En.ds, PyData.eqv, PyData.eqvAll]
theorem bad3 (t : Str) (e : En) : PyData.eqv (.tuple e.ds) (.tuple [.str t, .none]) = false := by
  cases e <;> simp [En.ds, PyData.eqv, PyData.eqvAll]
def spOddE (K : PySem.W.Frag) (sa : Addr) (sx : List Int) : Sp := fun vs H Q _ => ∃ (p b : Addr) (ks : List Int), vs = [.ref p, .ref b] ∧ H b = some (.lst (ks.map V.int)) ∧ ks.length ≤ 10 ∧ PoolAt K sa sx H p ∧ ∀ v it H', ItAt H' v it → Kp p H H' → PoolAt K sa sx H' p → Q v H'
section
variable {P : Program} {w : World} {K : PySem.W.Frag} {mg : Str → Option Value} {base : Heap} {sa : Addr} {sx : List Int}
theorem it_kp {H H' : Hp} {p : Addr} {v : V} {it : It} (hP : PoolAt K sa sx H p) (s : Kp p H H') (h : ItAt H v it) : ItAt H' v it := by
  obtain ⟨i, b, s', hp, _⟩ := hP
  have nt : ∀ {a : Addr} {xs : List V}, H a = some (.tup xs) → a ≠ p := fun h z => by rw [z, hp] at h; cases h
  cases it with
  | en e => obtain ⟨a, e1, h⟩ := h; exact ⟨a, e1, s _ _ (nt h) h⟩
  | fl f => exact h
  | li fs =>
    obtain ⟨a, e1, h, r⟩ := h
    refine ⟨a, e1, s _ _ (fun z => ?_) h, r⟩
    rw [z, hp] at h
    cases fs with
    | nil => cases h
    | cons f fs => cases f <;> cases h
  | tn fs => obtain ⟨a, e1, h, r⟩ := h; exact ⟨a, e1, s _ _ (nt h) h, r⟩
  | pr t f => obtain ⟨a, e1, h, r⟩ := h; exact ⟨a, e1, s _ _ (nt h) h, r⟩
theorem ok_l_odd_entry (T : Tx K mg sa sx) : Cal P w K mg base 3 "_law_odd_entry" (spOddE K sa sx) := by
  obtain ⟨fd, F⟩ := f_l_odd_entry T
  refine ⟨_, fd, ["_law_pool", "_law_kept_here"], fnok F sc_l_odd_entry (fun vs H Q E h => ?_) (fun cdv A outer s H vs Q E hr h => ?_), F.bindsN fun _ _ _ _ _ _ us hl => match us, hl with | [_, _], _ => rfl, g__law_odd_entry T, F.kp⟩
  · obtain ⟨p, b, ks, rfl, _⟩ := h; rfl
  · obtain ⟨p, b, ks, rfl, hb, kl, hP, k⟩ := h
    refine ⟨_, (pss_cons (ps_set (i := 2) sc_l_odd_entry.nd rfl (by first | exact Or.inl rfl | exact Or.inr rfl) (pe_cal (ok_l_number T) hr (by decide) (pa_cons (pv 0) pa_nil)))
    (pss_cons (ps_set (i := 3) sc_l_odd_entry.nd rfl (by first | exact Or.inl rfl | exact Or.inr rfl) (pe_lst (pa_cons (pe_tup (pa_cons pe_str (pa_cons (pv 2) pa_nil))) (pa_cons (pe_tup (pa_cons pe_str (pa_cons (pv 2) pa_nil))) (pa_cons (pe_tup (pa_cons pe_str (pa_cons pe_int pa_nil))) (pa_cons (pe_tup (pa_cons pe_str (pa_cons (pe_un un_neg pe_int) pa_nil))) (pa_cons (pe_tup (pa_cons pe_str (pa_cons pe_int pa_nil))) (pa_cons (pe_tup (pa_cons pe_str (pa_cons pe_int pa_nil))) (pa_cons (pe_tup (pa_cons pe_str (pa_cons pe_int pa_nil))) (pa_cons (pe_lst (pa_cons pe_str (pa_cons pe_int pa_nil))) pa_nil))))))))))
    (pss_cons (ps_set (i := 3) sc_l_odd_entry.nd rfl (by first | exact Or.inl rfl | exact Or.inr rfl) (pe_op op_cat (pv 3) (pe_lst (pa_cons (pe_tup (pa_cons pe_str (pa_cons pe_int (pa_cons pe_int pa_nil)))) (pa_cons (pe_tup (pa_cons pe_str pa_nil)) (pa_cons pe_str (pa_cons pe_non (pa_cons pe_int (pa_cons (pe_tup (pa_cons pe_str (pa_cons pe_int pa_nil))) (pa_cons (pe_tup (pa_cons pe_str (pa_cons pe_str pa_nil))) (pa_cons (pe_tup (pa_cons pe_str (pa_cons pe_non pa_nil))) (pa_cons (pe_tup (pa_cons pe_str (pa_cons pe_bl pa_nil))) (pa_cons (pe_tup pa_nil) pa_nil)))))))))))))
    (pss_cons (ps_if (pt_truth (pv 1) (by intro _; rfl)) (pss_one (ps_set (i := 3) sc_l_odd_entry.nd rfl (by first | exact Or.inl rfl | exact Or.inr rfl) (pe_op op_cat (pv 3) (pe_lst (pa_cons (pe_tup (pa_cons pe_str (pa_cons (pe_cal (ok_l_pick T) hr (by decide) (pa_cons (pv 0) (pa_cons (pv 1) pa_nil))) pa_nil))) pa_nil))))) pss_nil)
    (pss_cons (ps_set (i := 3) sc_l_odd_entry.nd rfl (by first | exact Or.inl rfl | exact Or.inr rfl) (pe_op op_cat (pv 3) (pe_lst (pa_cons (pe_tup (pa_cons pe_str (pa_cons pe_bl pa_nil))) (pa_cons (pe_tup (pa_cons pe_str (pa_cons pe_bl pa_nil))) (pa_cons (pe_tup (pa_cons pe_str (pa_cons pe_bl pa_nil))) pa_nil))))))
    (pss_one (ps_ret (pe_cal (ok_l_pick T) hr (by decide) (pa_cons (pv 0) (pa_cons (pv 3) pa_nil)))))))))), ?_⟩
    refine ⟨_, rfl, p, rfl, hP, fun n H0 _ k0 p0 => ?_⟩
    have hb := k0 _ _ (pool_int hP hb) hb
    refine ⟨_, rfl, sz1 (by simp), fun t1 h1 => ⟨_, rfl, sz1 (by simp), fun t2 h2 => ⟨sz1 (by simp), fun t3 h3 => ⟨_, rfl, sz1 (by simp), fun t4 h4 => ⟨sz1 (by simp), fun t5 h5 => ⟨sz1 (by simp), fun t6 h6 => ⟨sz1 (by simp), fun t7 h7 => ⟨sz1 (by simp), fun t8 h8 => ⟨sz1 (by simp), fun L1 hL1 => ?_⟩⟩⟩⟩⟩⟩⟩⟩⟩
    have z9 := Same.new hL1 (o := .lst [V.ref t1, V.ref t2, V.ref t3, V.ref t4, V.ref t5, V.ref t6, V.ref t7, V.ref t8])
    have z8 := (Same.new h8 (o := .lst [V.str "new", V.int 0])).trans z9
    have z7 := (Same.new h7 (o := .tup [V.str "new", V.int 2])).trans z8
    have z6 := (Same.new h6 (o := .tup [V.str "new", V.int 1])).trans z7
    have z5 := (Same.new h5 (o := .tup [V.str "new", V.int 0])).trans z6
    have z4 := (Same.new h4 (o := .tup [V.str "new", V.int (-1)])).trans z5
    have z3 := (Same.new h3 (o := .tup [V.str "new", V.int 4])).trans z4
    have z2 := (Same.new h2 (o := .tup [V.str "new", V.int n])).trans z3
    have z1 := (Same.new h1 (o := .tup [V.str "kept", V.int n])).trans z2
    have o1 : OddsAt (upd (upd (upd (upd (upd (upd (upd (upd (upd H0 t1 (.tup [V.str "kept", V.int n])) t2 (.tup [V.str "new", V.int n])) t3 (.tup [V.str "new", V.int 4])) t4 (.tup [V.str "new", V.int (-1)])) t5 (.tup [V.str "new", V.int 0])) t6 (.tup [V.str "new", V.int 1])) t7 (.tup [V.str "new", V.int 2])) t8 (.lst [V.str "new", V.int 0])) L1 (.lst [V.ref t1, V.ref t2, V.ref t3, V.ref t4, V.ref t5, V.ref t6, V.ref t7, V.ref t8])) L1 8 :=
      ⟨[(.ref t1, .en (.k n)), (.ref t2, newIt n), (.ref t3, .en (.n 4)), (.ref t4, .pr "new" (.nu (-1))), (.ref t5, .en (.n 0)), (.ref t6, .en (.n 1)), (.ref t7, .en (.n 2)), (.ref t8, .li [.st "new", .nu 0])], upd_same, rfl, fun q hq => by
        simp only [List.mem_cons, List.mem_nil_iff, or_false] at hq
        rcases hq with rfl | rfl | rfl | rfl | rfl | rfl | rfl | rfl
        · exact ⟨t1, rfl, z2 _ _ upd_same⟩
        · exact new_at (z3 _ _ upd_same)
        · exact ⟨t3, rfl, z4 _ _ upd_same⟩
        · exact ⟨t4, rfl, z5 _ _ upd_same, by decide +kernel, trivial, fun e => eqv_new (by decide) e⟩
        · exact ⟨t5, rfl, z6 _ _ upd_same⟩
        · exact ⟨t6, rfl, z7 _ _ upd_same⟩
        · exact ⟨t7, rfl, z8 _ _ upd_same⟩
        · refine ⟨t8, rfl, z9 _ _ upd_same, fun f hf => ?_⟩
          simp only [List.mem_cons, List.mem_nil_iff, or_false] at hf
          rcases hf with rfl | rfl
          · show PyData.strOk "new" = true
            decide +kernel
          · trivial⟩
    generalize upd (upd (upd (upd (upd (upd (upd (upd (upd H0 t1 (.tup [V.str "kept", V.int n])) t2 (.tup [V.str "new", V.int n])) t3 (.tup [V.str "new", V.int 4])) t4 (.tup [V.str "new", V.int (-1)])) t5 (.tup [V.str "new", V.int 0])) t6 (.tup [V.str "new", V.int 1])) t7 (.tup [V.str "new", V.int 2])) t8 (.lst [V.str "new", V.int 0])) L1 (.lst [V.ref t1, V.ref t2, V.ref t3, V.ref t4, V.ref t5, V.ref t6, V.ref t7, V.ref t8]) = G1 at z1 o1 ⊢
    clear z2 z3 z4 z5 z6 z7 z8 z9 h1 h2 h3 h4 h5 h6 h7 h8 hL1
    have hb := z1 _ _ hb
    have p1 := pool_same p0 z1
    have k1 := k0.trans z1.kp
    -- further ones
    refine ⟨_, rfl, sz1 (by simp), fun u1 h1 => ⟨sz1 (by simp), fun u2 h2 => ⟨sz1 (by simp), fun u3 h3 => ⟨sz1 (by simp), fun u4 h4 => ⟨sz1 (by simp), fun u5 h5 => ⟨sz1 (by simp), fun u6 h6 => ⟨sz1 (by simp), fun u7 h7 => ⟨sz1 (by simp), fun L2 hL2 => ?_⟩⟩⟩⟩⟩⟩⟩⟩
    have y8 := Same.new hL2 (o := .lst [V.ref u1, V.ref u2, V.str "new", V.non, V.int 0, V.ref u3, V.ref u4, V.ref u5, V.ref u6, V.ref u7])
    have y7 := (Same.new h7 (o := .tup [])).trans y8
    have y6 := (Same.new h6 (o := .tup [V.str "new", V.bl true])).trans y7
    have y5 := (Same.new h5 (o := .tup [V.str "kept", V.non])).trans y6
    have y4 := (Same.new h4 (o := .tup [V.str "new", V.str "0"])).trans y5
    have y3 := (Same.new h3 (o := .tup [V.str "old", V.int 0])).trans y4
    have y2 := (Same.new h2 (o := .tup [V.str "new"])).trans y3
    have y1 := (Same.new h1 (o := .tup [V.str "new", V.int 0, V.int 0])).trans y2
    obtain ⟨l1, hl1, n1, it1⟩ := o1
    refine ⟨L1, L2, _, _, rfl, rfl, y1 _ _ hl1, upd_same, sz1 (by rw [List.length_map]; simp; omega), fun L3 hL3 => ?_⟩
    have x1 := y1.trans (Same.new hL3 (o := .lst (l1.map (·.1) ++ [V.ref u1, V.ref u2, V.str "new", V.non, V.int 0, V.ref u3, V.ref u4, V.ref u5, V.ref u6, V.ref u7])))
    have okn : Fl.ok (.st "new") := (by decide +kernel : PyData.strOk "new" = true)
    have nw := Same.new hL3 (o := .lst (l1.map (·.1) ++ [V.ref u1, V.ref u2, V.str "new", V.non, V.int 0, V.ref u3, V.ref u4, V.ref u5, V.ref u6, V.ref u7]))
    have f1 := nw _ _ (y2 _ _ (upd_same (H := G1) (a := u1) (o := .tup [V.str "new", V.int 0, V.int 0])))
    have f2 := nw _ _ (y3 _ _ upd_same)
    have f3 := nw _ _ (y4 _ _ upd_same)
    have f4 := nw _ _ (y5 _ _ upd_same)
    have f5 := nw _ _ (y6 _ _ upd_same)
    have f6 := nw _ _ (y7 _ _ upd_same)
    have f7 := nw _ _ (y8 _ _ upd_same)
    have e3 := (upd_same (H := upd (upd (upd (upd (upd (upd (upd (upd G1 u1 (.tup [V.str "new", V.int 0, V.int 0])) u2 (.tup [V.str "new"])) u3 (.tup [V.str "old", V.int 0])) u4 (.tup [V.str "new", V.str "0"])) u5 (.tup [V.str "kept", V.non])) u6 (.tup [V.str "new", V.bl true])) u7 (.tup [])) L2 (.lst [V.ref u1, V.ref u2, V.str "new", V.non, V.int 0, V.ref u3, V.ref u4, V.ref u5, V.ref u6, V.ref u7])) (a := L3) (o := .lst (l1.map (·.1) ++ [V.ref u1, V.ref u2, V.str "new", V.non, V.int 0, V.ref u3, V.ref u4, V.ref u5, V.ref u6, V.ref u7])))
    generalize upd (upd (upd (upd (upd (upd (upd (upd (upd G1 u1 (.tup [V.str "new", V.int 0, V.int 0])) u2 (.tup [V.str "new"])) u3 (.tup [V.str "old", V.int 0])) u4 (.tup [V.str "new", V.str "0"])) u5 (.tup [V.str "kept", V.non])) u6 (.tup [V.str "new", V.bl true])) u7 (.tup [])) L2 (.lst [V.ref u1, V.ref u2, V.str "new", V.non, V.int 0, V.ref u3, V.ref u4, V.ref u5, V.ref u6, V.ref u7])) L3 (.lst (l1.map (·.1) ++ [V.ref u1, V.ref u2, V.str "new", V.non, V.int 0, V.ref u3, V.ref u4, V.ref u5, V.ref u6, V.ref u7])) = G2 at x1 f1 f2 f3 f4 f5 f6 f7 e3 ⊢
    clear nw y1 y2 y3 y4 y5 y6 y7 y8 h1 h2 h3 h4 h5 h6 h7 hL2 hL3
    have oks : PyData.strOk "new" = true := by decide +kernel
    have okk : PyData.strOk "kept" = true := by decide +kernel
    have o2 : OddsAt G2 L3 18 := ⟨l1 ++ [(.ref u1, .tn [.st "new", .nu 0, .nu 0]), (.ref u2, .tn [.st "new"]), (.str "new", .fl (.st "new")), (.non, .fl .nn), (.int 0, .fl (.nu 0)), (.ref u3, .pr "old" (.nu 0)), (.ref u4, .pr "new" (.st "0")), (.ref u5, .pr "kept" .nn), (.ref u6, .pr "new" (.bo true)), (.ref u7, .tn [])],
      by rw [e3, List.map_append]; rfl, by rw [List.length_append, n1]; rfl, fun q hq => by
        rcases List.mem_append.mp hq with hq | hq
        · exact (it1 q hq).same x1
        · simp only [List.mem_cons, List.mem_nil_iff, or_false] at hq
          rcases hq with rfl | rfl | rfl | rfl | rfl | rfl | rfl | rfl | rfl | rfl
          · refine ⟨u1, rfl, f1, by decide, by decide, fun f hf => ?_⟩
            simp only [List.mem_cons, List.mem_nil_iff, or_false] at hf
            rcases hf with rfl | rfl | rfl
            · exact oks
            · trivial
            · trivial
          · refine ⟨u2, rfl, f2, by decide, by decide, fun f hf => ?_⟩
            rw [List.mem_singleton.mp hf]; exact oks
          · exact ⟨rfl, oks⟩
          · exact ⟨rfl, trivial⟩
          · exact ⟨rfl, trivial⟩
          · exact ⟨u3, rfl, f3, by decide +kernel, trivial, bad1⟩
          · exact ⟨u4, rfl, f4, oks, (by decide +kernel : PyData.strOk "0" = true), bad2 "new" "0"⟩
          · exact ⟨u5, rfl, f5, okk, trivial, bad3 "kept"⟩
          · exact ⟨u6, rfl, f6, oks, trivial, trivial⟩
          · exact ⟨u7, rfl, f7, by decide, by decide, by simp⟩⟩
    have hb := x1 _ _ hb
    have p2 := pool_same p1 x1
    have k2 := k1.trans x1.kp
    -- a kept one, too
    have np3 : L3 ≠ p := by
      obtain ⟨l, e, hl, _⟩ := o2
      obtain ⟨i, b', s', hp, _⟩ := p2
      intro z
      rw [z, hp] at e
      have e4 := congrArg List.length (HO.lst.inj (Option.some.inj e))
      rw [List.length_map, hl] at e4
      cases e4
    refine ⟨_, rfl, _, tru_ints hb, lC (fun ne => ?g1) (fun em => ?g2)⟩
    case' g1 =>
      refine ⟨_, rfl, _, rfl, _, rfl, p, b, _, rfl, hb, pool_int p2 hb, by simpa using ne, by rw [List.length_map]; omega, p2, fun v G3 hv k3 p3 => ?_⟩
      obtain ⟨m, hm, rfl⟩ := List.mem_map.mp hv
      refine ⟨sz1 (by simp), fun w1 g1 => ⟨sz1 (by simp), fun L4 hL4 => ?_⟩⟩
      obtain ⟨l2, hl2, n2, it2⟩ := o2
      have e1 := k3 _ _ np3 hl2
      have e2 := (Same.new hL4 (o := .lst [V.ref w1])) _ _ ((Same.new g1 (o := .tup [V.str "kept", V.int m])) _ _ e1)
      refine ⟨L3, L4, _, _, rfl, rfl, e2, upd_same, sz1 (by rw [List.length_map]; simp; omega), fun Lx hLx => ?_⟩
      have sN := ((Same.new g1 (o := .tup [V.str "kept", V.int m])).trans (Same.new hL4 (o := .lst [V.ref w1]))).trans (Same.new hLx (o := .lst (l2.map (·.1) ++ [V.ref w1])))
      have oX : OddsAt (upd (upd (upd G3 w1 (.tup [V.str "kept", V.int m])) L4 (.lst [V.ref w1])) Lx (.lst (l2.map (·.1) ++ [V.ref w1]))) Lx 19 := ⟨l2 ++ [(.ref w1, .en (.k m))], by rw [upd_same, List.map_append]; rfl, by rw [List.length_append, n2]; rfl, fun q hq => by
        rcases List.mem_append.mp hq with hq | hq
        · exact (it_kp p2 k3 (it2 q hq)).same sN
        · rw [List.mem_singleton.mp hq]
          exact ⟨w1, rfl, (Same.new hLx) _ _ ((Same.new hL4) _ _ upd_same)⟩⟩
      have oX : ∃ c ≤ 19, OddsAt (upd (upd (upd G3 w1 (.tup [V.str "kept", V.int m])) L4 (.lst [V.ref w1])) Lx (.lst (l2.map (·.1) ++ [V.ref w1]))) Lx c ∧ 4 < c := ⟨19, by decide, oX, by decide⟩
      have kX := (k2.trans k3).trans sN.kp
      have pX := pool_same p3 sN
      generalize upd (upd (upd G3 w1 (.tup [V.str "kept", V.int m])) L4 (.lst [V.ref w1])) Lx (.lst (l2.map (·.1) ++ [V.ref w1])) = GX at oX kX pX ⊢
    case' g2 =>
      have oX : ∃ c ≤ 19, OddsAt G2 L3 c ∧ 4 < c := ⟨18, by decide, o2, by decide⟩
      have kX := k2
      have pX := p2
      generalize L3 = Lx at oX ⊢
      generalize G2 = GX at oX kX pX ⊢
    all_goals
      obtain ⟨c, hc, ⟨lx, hlx, nx, itx⟩, hc4⟩ := oX
      refine ⟨_, rfl, sz1 (by simp), fun w1 g1 => ⟨sz1 (by simp), fun w2 g2 => ⟨sz1 (by simp), fun w3 g3 => ⟨sz1 (by simp), fun L5 hL5 => ?_⟩⟩⟩⟩
      have v4 := Same.new hL5 (o := .lst [V.ref w1, V.ref w2, V.ref w3])
      have v3 := (Same.new g3 (o := .tup [V.str "new", V.bl false])).trans v4
      have v2 := (Same.new g2 (o := .tup [V.str "kept", V.bl false])).trans v3
      have v1 := (Same.new g1 (o := .tup [V.str "kept", V.bl true])).trans v2
      refine ⟨Lx, L5, _, _, rfl, rfl, v1 _ _ hlx, upd_same, sz1 (by rw [List.length_map]; simp; omega), fun L6 hL6 => ?_⟩
      have nN := Same.new hL6 (o := .lst (lx.map (·.1) ++ [V.ref w1, V.ref w2, V.ref w3]))
      have f1 := nN _ _ (v2 _ _ upd_same)
      have f2 := nN _ _ (v3 _ _ upd_same)
      have f3 := nN _ _ (v4 _ _ upd_same)
      have s6 := v1.trans nN
      have p6 := pool_same pX s6
      have n6 : L6 ≠ p := pool_ne (pool_same pX v1) hL6
      refine ⟨_, rfl, _, rfl, p, L6, _, rfl, upd_same, n6, by simp, by simp; omega, p6, fun v H' hv k7 p7 => ?_⟩
      have hq : ∃ it, ItAt (upd (upd (upd (upd (upd GX w1 (.tup [V.str "kept", V.bl true])) w2 (.tup [V.str "kept", V.bl false])) w3 (.tup [V.str "new", V.bl false])) L5 (.lst [V.ref w1, V.ref w2, V.ref w3])) L6 (.lst (lx.map (·.1) ++ [V.ref w1, V.ref w2, V.ref w3]))) v it := by
        rcases List.mem_append.mp hv with hv | hv
        · obtain ⟨q, hq, rfl⟩ := List.mem_map.mp hv
          exact ⟨q.2, (itx q hq).same s6⟩
        · simp only [List.mem_cons, List.mem_nil_iff, or_false] at hv
          rcases hv with rfl | rfl | rfl
          · exact ⟨.pr "kept" (.bo true), w1, rfl, f1, okk, trivial, trivial⟩
          · exact ⟨.pr "kept" (.bo false), w2, rfl, f2, okk, trivial, trivial⟩
          · exact ⟨.pr "new" (.bo false), w3, rfl, f3, oks, trivial, trivial⟩
      obtain ⟨it, hit⟩ := hq
      exact k v it H' (it_kp p6 k7 hit) ((kX.trans s6.kp).trans k7) p7
end
end K28
namespace K28
open PySem PySem.Spec PyProof.Rows Cm
open L2 hiding Same
def NtAt (H : Hp) (v : V) : Prop := (∃ f : Fl, v = f.v) ∨ (∃ a xs, v = .ref a ∧ H a = some (.lst xs))
def ThV (H : Hp) (v : V) : Prop := NtAt H v ∨ ∃ a its, v = .ref a ∧ ThAt H a its
theorem NtAt.same {H H' : Hp} {v : V} (s : Same H H') (h : NtAt H v) : NtAt H' v := h.imp id fun ⟨a, xs, e, h⟩ => ⟨a, xs, e, s _ _ h⟩
theorem ThV.same {H H' : Hp} {v : V} (s : Same H H') (h : ThV H v) : ThV H' v := h.imp (·.same s) fun ⟨a, its, e, h⟩ => ⟨a, its, e, h.same s⟩
theorem nt_ty {K : PySem.W.Frag} {H : Hp} {v : V} (h : NtAt H v) : ∃ t, TyX K H v t ∧ PySem.W.kitOne K t (.type "tuple") = some false := by
  rcases h with ⟨f, rfl⟩ | ⟨a, xs, rfl, h⟩
  · obtain ⟨t, h1, h2, _⟩ := fl_ty (K := K) (H := H) f
    exact ⟨t, h1, h2⟩
  · exact ⟨_, .base (.lst h), kit_ty (by decide +kernel)⟩
theorem th_pat {H : Hp} {a : Addr} {es : List En} (h : PatAt H a es) : ThAt H a (es.map It.en) := by
  obtain ⟨l, h1, h2, h3⟩ := h
  refine ⟨l.map fun q => (V.ref q.1, It.en q.2), ?_, ?_, fun q hq => ?_⟩
  · rw [h1, List.map_map]; rfl
  · rw [← h2, List.map_map, List.map_map]; rfl
  · obtain ⟨z, hz, rfl⟩ := List.mem_map.mp hq
    exact ⟨z.1, rfl, h3 z hz⟩
theorem cat_th {K : PySem.W.Frag} {H : Hp} {a b : Addr} {i1 i2 : List It} {Q : VK} (h1 : ThAt H a i1) (h2 : ThAt H b i2) (l1 : i1.length ≤ 100) (l2 : i2.length ≤ 100) (q : ∀ c H', Same H H' → ThAt H' c (i1 ++ i2) → Q (.ref c) H') : rCatA K (.ref a) (.ref b) H Q := by
  obtain ⟨x, hx, rfl, hx2⟩ := id h1
  obtain ⟨y, hy, rfl, hy2⟩ := id h2
  rw [List.length_map] at l1 l2
  refine ⟨a, b, _, _, rfl, rfl, SqT.of hx, SqT.of hy, sz1 (by rw [List.length_map, List.length_map]; omega), fun e => ?_, fun _ e => ?_, fun _ _ p hp => ?_⟩
  · have : x = [] := by simpa using e
    subst this
    exact q b H (Cm.Same.refl _) h2
  · have : y = [] := by simpa using e
    subst this
    refine q a H (Cm.Same.refl _) ?_
    rw [List.map_nil, List.append_nil]; exact h1
  · have s := Same.new hp (o := .tup (x.map (·.1) ++ y.map (·.1)))
    refine q p _ s ⟨x ++ y, by rw [upd_same, List.map_append], by rw [List.map_append], fun z hz => ?_⟩
    rcases List.mem_append.mp hz with h | h
    · exact (hx2 z h).same s
    · exact (hy2 z h).same s
def spOdd (K : PySem.W.Frag) (sa : Addr) (sx : List Int) : Sp := fun vs H Q _ => ∃ (p a b : Addr) (es : List En) (ks : List Int), vs = [.ref p, .ref a, .ref b] ∧ PatAt H a es ∧ es.length ≤ 10 ∧ H b = some (.lst (ks.map V.int)) ∧ ks.length ≤ 10 ∧ PoolAt K sa sx H p ∧ ∀ v H', ThV H' v → Kp p H H' → PoolAt K sa sx H' p → Q v H'
section
variable {P : Program} {w : World} {K : PySem.W.Frag} {mg : Str → Option Value} {base : Heap} {sa : Addr} {sx : List Int}
theorem th_kp {H H' : Hp} {p a : Addr} {its : List It} (hP : PoolAt K sa sx H p) (s : Kp p H H') (h : ThAt H a its) : ThAt H' a its := by
  obtain ⟨l, h1, h2, h3⟩ := h
  refine ⟨l, s _ _ (pool_tup hP h1) h1, h2, fun q hq => it_kp hP s (h3 q hq)⟩
theorem thv_kp {H H' : Hp} {p : Addr} {v : V} {xs : List V} (hP : PoolAt K sa sx H p) (s : Kp p H H') (h : ThV H v) (hn : v ≠ .ref p) : ThV H' v := by
  rcases h with (⟨f, e⟩ | ⟨a, xs, e, h⟩) | ⟨a, its, e, h⟩
  · exact .inl (.inl ⟨f, e⟩)
  · exact .inl (.inr ⟨a, xs, e, s _ _ (fun z => hn (by rw [e, z])) h⟩)
  · exact .inr ⟨a, its, e, th_kp hP s h⟩
theorem ok_l_values (T : Tx K mg sa sx) : Cal P w K mg base 3 "_law_values" (spVals K sa sx) := by
  obtain ⟨fd, F⟩ := f_l_values T
  refine ⟨_, fd, ["_law_pool", "_law_size", "_law_kept_here"], fnok F sc_l_values (fun vs H Q E h => ?_) (fun cdv A outer s H vs Q E hr h => ?_), F.bindsN fun _ _ _ _ _ _ us hl => match us, hl with | [_, _, _], _ => rfl, g__law_values T, F.kp⟩
  · obtain ⟨p, m, b, ks, rfl, _⟩ := h; rfl
  · obtain ⟨p, m, b, ks, rfl, hm, hb, kl, hP, k⟩ := h
    refine ⟨_, (pss_cons (ps_set (i := 3) sc_l_values.nd rfl (by first | exact Or.inl rfl | exact Or.inr rfl) (pe_lst pa_nil))
    (pss_cons (ps_for PassesOwn.never rfl (pi_range1 rfl (n_range T) (pa_cons (pv 1) pa_nil)) (pg_name (i := 4) sc_l_values.nd rfl (by first | exact Or.inl rfl | exact Or.inr rfl))
      (pss_one (ps_if (PW.pt (pw_and (pt_truth (pv 2) (by intro _; rfl)) (pw_and1 (pt_cmpR op_eq (pe_cal (ok_l_draw T) hr (by decide) (pa_cons (pv 0) (pa_cons pe_int pa_nil))) pe_int (nomark _))))) (pss_one (ps_expr (pe_bm PySem.F.plainAttrs_list PySem.F.slot_list_append PySem.F.type_list_append mt_append (pv 3) (pa_cons (pe_cal (ok_l_pick T) hr (by decide) (pa_cons (pv 0) (pa_cons (pv 2) pa_nil))) pa_nil)))) (pss_one (ps_expr (pe_bm PySem.F.plainAttrs_list PySem.F.slot_list_append PySem.F.type_list_append mt_append (pv 3) (pa_cons (pe_cal (ok_l_draw T) hr (by decide) (pa_cons (pv 0) (pa_cons pe_int pa_nil))) pa_nil)))))))
    (pss_one (ps_ret (pe_callTy (T := "tuple") call_tuple_of rfl (n_tuple T) (by decide +kernel) (pa_cons (pv 3) pa_nil)))))), ?_⟩
    refine ⟨sz1 (by simp), fun a ha => ?_⟩
    have nap := pool_ne hP ha
    have fr := pool_fresh hP ha
    have nbp := pool_int hP hb
    have nba : b ≠ a := ne_of_none hb ha
    refine ⟨_, rfl, (m : Int), rfl, by omega, by omega, ?_⟩
    refine for_range (lo := 0) (n := (m : Int).toNat) (fun t σ H' => ∃ (ns : List Int) (v : Option V), σ = [some (.ref p), some (.int (m : Int)), some (.ref b), some (.ref a), v] ∧ H' a = some (.lst (ns.map V.int)) ∧ ns.length = t ∧ Kp p H H' ∧ PoolAt K sa sx H' p)
      ⟨[], none, rfl, upd_same, rfl, Kp.refl.new ha, pool_new hP ha⟩ ?_ ?_
    · rintro t σ H' ht ⟨ns, v, rfl, hA, lt, kk, pp⟩
      have hb' : H' b = some (.lst (ks.map V.int)) := kk _ _ nbp hb
      have fin : ∀ (x : Int) (H4 : Hp), Kp p H' H4 → PoolAt K sa sx H4 p → ∃ l zs y, V.ref a = .ref l ∧ [V.int x] = [y] ∧ H4 l = some (.lst zs) ∧ zs.length < sizeLine ∧
          ∃ (ns : List Int) (v : Option V), [some (V.ref p), some (.int (m : Int)), some (.ref b), some (.ref a), some (.int (0 + (t : Int)))] = [some (.ref p), some (.int (m : Int)), some (.ref b), some (.ref a), v] ∧ (upd H4 l (.lst (zs ++ [y]))) a = some (.lst (ns.map V.int)) ∧ ns.length = t + 1 ∧ Kp p H (upd H4 l (.lst (zs ++ [y]))) ∧ PoolAt K sa sx (upd H4 l (.lst (zs ++ [y]))) p := by
        intro x H4 k4 p4
        have hA4 := k4 _ _ nap hA
        refine ⟨a, _, _, rfl, rfl, hA4, sz2 (by rw [List.length_map]; omega), ns ++ [x], _, rfl, by rw [List.map_append]; exact upd_same, by rw [List.length_append, lt]; rfl, kmut (kk.trans k4) ha, pool_upd p4 nap fr⟩
      refine ⟨_, rfl, _, tru_ints hb', lC (fun ne => ?_) (fun em => ?_)⟩
      · refine ⟨_, rfl, p, 2, rfl, by decide, io (by decide), pp, fun c H3 c0 c1 k3 p3 => ⟨rfl, _, rfl, dC (fun e => ?_) (fun e => ?_)⟩⟩
        · refine ⟨_, rfl, .inl ⟨rfl, _, SqL.of (k3 _ _ nap hA)⟩, _, rfl, _, rfl, p, b, _, rfl, k3 _ _ nbp hb', nbp, by simpa using ne, by rw [List.length_map]; omega, p3, fun v H4 hv k4 p4 => ?_⟩
          obtain ⟨x, _, rfl⟩ := List.mem_map.mp hv
          exact fin x H4 (k3.trans k4) p4
        · refine ⟨_, rfl, .inl ⟨rfl, _, SqL.of (k3 _ _ nap hA)⟩, _, rfl, p, 4, rfl, by decide, io (by decide), p3, fun x H4 _ _ k4 p4 => fin x H4 (k3.trans k4) p4⟩
      · exact ⟨_, rfl, .inl ⟨rfl, _, SqL.of hA⟩, _, rfl, p, 4, rfl, by decide, io (by decide), pp, fun x H4 _ _ k4 p4 => fin x H4 k4 p4⟩
    · rintro σ H' ⟨ns, v, rfl, hA, lt, kk, pp⟩
      refine ⟨_, rfl, a, _, rfl, .inl ⟨SqL.of hA, fun t ht => ?_⟩⟩
      exact k t ns _ upd_same (by omega) (kk.trans (Same.new ht).kp) (pool_new pp ht)
end
end K28
namespace K28
open PySem PySem.Spec PyProof.Rows Cm
open L2 hiding Same
section
variable {P : Program} {w : World} {K : PySem.W.Frag} {mg : Str → Option Value} {base : Heap} {sa : Addr} {sx : List Int}
theorem pt_len {H : Hp} {a : Addr} {es : List En} (h : PatAt H a es) : ∃ xs, H a = some (.tup xs) ∧ xs.length = es.length := by
  obtain ⟨l, h1, h2, _⟩ := h
  exact ⟨_, h1, by rw [← h2, rf_len, List.length_map]⟩
theorem ok_l_odd (T : Tx K mg sa sx) : Cal P w K mg base 4 "_law_odd" (spOdd K sa sx) := by
  obtain ⟨fd, F⟩ := f_l_odd T
  refine ⟨_, fd, ["_law_pool", "_law_entries", "_law_kept_here"], fnok F sc_l_odd (fun vs H Q E h => ?_) (fun cdv A outer s H vs Q E hr h => ?_), F.bindsN fun _ _ _ _ _ _ us hl => match us, hl with | [_, _, _], _ => rfl, g__law_odd T, F.kp⟩
  · obtain ⟨p, a, b, es, ks, rfl, _⟩ := h; rfl
  · obtain ⟨p, a, b, es, ks, rfl, ha, hl, hb, kl, hP, k⟩ := h
    refine ⟨_, (pss_cons (ps_set (i := 3) sc_l_odd.nd rfl (by first | exact Or.inl rfl | exact Or.inr rfl) (pe_cal (ok_l_draw T) hr (by decide) (pa_cons (pv 0) (pa_cons pe_int pa_nil))))
    (pss_cons (ps_if (pt_cmpR op_eq (pv 3) pe_int (nomark _)) (pss_one (ps_ret (pe_callTy (T := "list") call_list_of rfl (n_list T) (by decide +kernel) (pa_cons (pv 1) pa_nil)))) pss_nil)
    (pss_cons (ps_if (pt_cmpR op_eq (pv 3) pe_int (nomark _)) (pss_one (ps_ret (pe_cal (ok_l_pick T) hr (by decide) (pa_cons (pv 0) (pa_cons (pe_lst (pa_cons pe_non (pa_cons pe_int (pa_cons pe_str (pa_cons pe_str (pa_cons pe_bl (pa_cons (pe_lst pa_nil) (pa_cons (pe_tup (pa_cons (pe_tup pa_nil) pa_nil)) (pa_cons (pe_tup (pa_cons (pe_tup (pa_cons pe_str (pa_cons pe_int pa_nil))) (pa_cons (pe_tup (pa_cons pe_str (pa_cons pe_int pa_nil))) (pa_cons pe_int pa_nil)))) pa_nil))))))))) pa_nil))))) pss_nil)
    (pss_cons (ps_if (pt_cmpR op_eq (pv 3) pe_int (nomark _)) (pss_one (ps_ret (pe_op op_catA (pv 1) (pe_tup (pa_cons (pe_cal (ok_l_odd_entry T) hr (by decide) (pa_cons (pv 0) (pa_cons (pv 2) pa_nil))) pa_nil))))) pss_nil)
    (pss_cons (ps_if (pt_not (pt_truth (pv 1) (by intro _; rfl))) (pss_one (ps_ret (pv 1))) pss_nil)
    (pss_cons (ps_set (i := 4) sc_l_odd.nd rfl (by first | exact Or.inl rfl | exact Or.inr rfl) (pe_cal (ok_l_draw T) hr (by decide) (pa_cons (pv 0) (pa_cons (pe_callB (id := "len") call_len_seq rfl (n_len T) (by decide +kernel) (pa_cons (pv 1) pa_nil)) pa_nil))))
    (pss_one (ps_ret (pe_op op_catA (pe_op op_catA (pe_slice sl_tup (pv 1) po_none (po_some (pv 4))) (pe_tup (pa_cons (pe_cal (ok_l_odd_entry T) hr (by decide) (pa_cons (pv 0) (pa_cons (pv 2) pa_nil))) pa_nil))) (pe_slice sl_tup (pv 1) (po_some (pe_op op_add (pv 4) pe_int)) po_none)))))))))), ?_⟩
    refine ⟨_, rfl, p, 8, rfl, by decide, io (by decide), hP, fun j H1 j0 j8 k1 p1 => ?_⟩
    have ha := PatAt.kp hP k1 ha
    have hb := k1 _ _ (pool_int hP hb) hb
    obtain ⟨l, hl1, hl2, hl3⟩ := id ha
    have ll : l.length = es.length := by rw [← hl2, List.length_map]
    refine ⟨_, rfl, rfl, _, rfl, dC (fun _ => ?_) (fun _ => ?_)⟩
    · -- a list
      refine ⟨_, rfl, a, _, rfl, .inr (SqT.of hl1), fun x hx => ?_⟩
      exact k _ _ (.inl (.inr ⟨x, _, rfl, upd_same⟩)) (k1.trans (Same.new hx).kp) (pool_new p1 hx)
    refine ⟨_, rfl, rfl, _, rfl, dC (fun _ => ?_) (fun _ => ?_)⟩
    · -- things of other kinds
      refine ⟨_, rfl, sz1 (by simp), fun e1 h1 => ⟨sz1 (by simp), fun t0 h2 => ⟨sz1 (by simp), fun t1 h3 => ⟨sz1 (by simp), fun t2 h4 => ⟨sz1 (by simp), fun t3 h5 => ⟨sz1 (by simp), fun t4 h6 => ⟨sz1 (by simp), fun L hL => ?_⟩⟩⟩⟩⟩⟩⟩
      have z7 := Same.new hL (o := .lst [V.non, V.int 0, V.str "", V.str "new", V.bl true, V.ref e1, V.ref t1, V.ref t4])
      have z6 := (Same.new h6 (o := .tup [V.ref t2, V.ref t3, V.int 2])).trans z7
      have z5 := (Same.new h5 (o := .tup [V.str "new", V.int 1])).trans z6
      have z4 := (Same.new h4 (o := .tup [V.str "new", V.int 0])).trans z5
      have z3 := (Same.new h3 (o := .tup [V.ref t0])).trans z4
      have z2 := (Same.new h2 (o := .tup [])).trans z3
      have z1 := (Same.new h1 (o := .lst [])).trans z2
      have np : L ≠ p := pool_ne (pool_same p1 ((Same.new h1 (o := .lst [])).trans ((Same.new h2 (o := .tup [])).trans ((Same.new h3 (o := .tup [V.ref t0])).trans ((Same.new h4 (o := .tup [V.str "new", V.int 0])).trans ((Same.new h5 (o := .tup [V.str "new", V.int 1])).trans (Same.new h6 (o := .tup [V.ref t2, V.ref t3, V.int 2])))))))) hL
      have p7 := pool_same p1 z1
      have g1 := z2 _ _ upd_same
      have g2 := z3 _ _ upd_same
      have g3 := z4 _ _ upd_same
      have g4 := z5 _ _ upd_same
      have g5 := z6 _ _ upd_same
      have g6 := z7 _ _ upd_same
      have ne1 : e1 ≠ p := pool_ne p1 h1
      refine ⟨p, L, _, rfl, upd_same, np, by simp, by simp, p7, fun v H' hv k8 p8 => ?_⟩
      refine k v H' ?_ ((k1.trans z1.kp).trans k8) p8
      have fls : ∀ f : Fl, ThV H' f.v := fun f => .inl (.inl ⟨f, rfl⟩)
      simp only [List.mem_cons, List.mem_nil_iff, or_false] at hv
      rcases hv with rfl | rfl | rfl | rfl | rfl | rfl | rfl | rfl
      · exact fls .nn
      · exact fls (.nu 0)
      · exact fls (.st "")
      · exact fls (.st "new")
      · exact fls (.bo true)
      · exact .inl (.inr ⟨e1, _, rfl, k8 _ _ ne1 g1⟩)
      · refine .inr ⟨t1, _, rfl, th_kp p7 k8 ⟨[(.ref t0, .tn [])], g3, rfl, fun q hq => ?_⟩⟩
        rw [List.mem_singleton.mp hq]
        exact ⟨t0, rfl, g2, by decide, by decide, by simp⟩
      · refine .inr ⟨t4, _, rfl, th_kp p7 k8 ⟨[(.ref t2, .en (.n 0)), (.ref t3, .en (.n 1)), (.int 2, .fl (.nu 2))], g6, rfl, fun q hq => ?_⟩⟩
        simp only [List.mem_cons, List.mem_nil_iff, or_false] at hq
        rcases hq with rfl | rfl | rfl
        · exact ⟨t2, rfl, g4⟩
        · exact ⟨t3, rfl, g5⟩
        · exact ⟨rfl, trivial⟩
    refine ⟨_, rfl, rfl, _, rfl, dC (fun _ => ?_) (fun _ => ?_)⟩
    · -- one more
      refine ⟨_, rfl, _, rfl, _, rfl, p, b, ks, rfl, hb, kl, p1, fun v it H2 hv k2 p2 => ⟨sz1 (by simp), fun t ht => ?_⟩⟩
      have s1 := Same.new ht (o := .tup [v])
      refine cat_th ((th_pat (PatAt.kp p1 k2 ha)).same s1) ⟨[(v, it)], upd_same, rfl, fun q hq => by rw [List.mem_singleton.mp hq]; exact hv.same s1⟩ (by rw [List.length_map]; omega) (by simp) fun c H' s2 hc => ?_
      exact k _ _ (.inr ⟨c, _, rfl, hc⟩) ((k1.trans k2).trans (s1.trans s2).kp) (pool_same p2 (s1.trans s2))
    refine ⟨_, rfl, _, .inr (.inl ⟨_, SqT.of hl1, rfl⟩), ?_⟩
    cases hle : l with
    | nil =>
      subst hle
      refine iteT ⟨_, rfl, ?_⟩
      exact k _ _ (.inr ⟨a, _, rfl, th_pat ha⟩) k1 p1
    | cons q0 l0 =>
      rw [← hle]
      have l0 : 0 < l.length := by rw [hle]; simp
      have hne : (!(rf l).isEmpty) = true := by rw [hle]; rfl
      rw [hne]
      refine iteF ?_
      refine ⟨_, rfl, _, rfl, a, _, rfl, .inr (SqT.of hl1), p, _, rfl, by rw [rf_len]; omega, io (by rw [rf_len]; omega), p1, fun c H2 c0 c1 k2 p2 => ?_⟩
      obtain ⟨cn, rfl⟩ := Int.eq_ofNat_of_zero_le c0
      rw [rf_len] at c1
      have hcn : cn < l.length := by omega
      have ha2 := PatAt.kp p1 k2 ha
      have hb2 := k2 _ _ (pool_int p1 hb) hb
      have hl2' := k2 _ _ (pool_tup p1 hl1) hl1
      have hl3' : ∀ q ∈ l, H2 q.1 = some (.tup q.2.vs) := fun q hq => k2 _ _ (pool_tup p1 (hl3 q hq)) (hl3 q hq)
      have sub : ∀ (l' : List AE) (t : Addr) (G : Hp), (∀ q ∈ l', q ∈ l) → Same H2 G → G t = some (.tup (rf l')) → ThAt G t ((l'.map (·.2)).map It.en) := fun l' t G hs sG hG =>
        th_pat ⟨l', hG, rfl, fun q hq => sG _ _ (hl3' q (hs q hq))⟩
      refine ⟨_, rfl, _, rfl, _, rfl, a, _, rfl, SqT.of hl2', ?_, fun t1 ht1 => ?_⟩
      · rw [HT.sIx_nat, rf_len]; omega
      rw [Cm.cutT]
      have s1 := Same.new ht1 (o := .tup ((rf l).take cn))
      have hb3 := s1 _ _ hb2
      refine ⟨_, rfl, _, rfl, p, b, ks, rfl, hb3, kl, pool_same p2 s1, fun v it H3 hv k3 p3 => ⟨sz1 (by simp), fun t2 ht2 => ?_⟩⟩
      have s2 := Same.new ht2 (o := .tup [v])
      have pA := pool_same p2 s1
      have th1 : ThAt (upd H2 t1 (.tup ((rf l).take cn))) t1 (((l.take cn).map (·.2)).map It.en) := sub (l.take cn) t1 _ (fun q hq => List.mem_of_mem_take hq) s1 (by rw [upd_same, rf, rf, List.map_take])
      refine cat_th ((th_kp pA k3 th1).same s2) ⟨[(v, it)], upd_same, rfl, fun q hq => by rw [List.mem_singleton.mp hq]; exact hv.same s2⟩ (by rw [List.length_map, List.length_map, List.length_take]; omega) (by simp) fun c H4 s4 hc => ?_
      have hl4 := s4 _ _ (s2 _ _ (k3 _ _ (pool_tup pA (s1 _ _ hl2')) (s1 _ _ hl2')))
      have e3 : ∀ q ∈ l, H4 q.1 = some (.tup q.2.vs) := fun q hq => by
        have z := s1 _ _ (hl3' q hq)
        exact s4 _ _ (s2 _ _ (k3 _ _ (pool_tup pA z) z))
      refine ⟨_, rfl, _, rfl, _, _, rfl, rfl, _, rfl, a, _, rfl, SqT.of hl4, ?_, fun t3 ht3 => ?_⟩
      · rw [show ((cn : Int) + 1) = ((cn + 1 : Nat) : Int) from rfl, HT.sIx_nat, rf_len]; omega
      rw [show ((cn : Int) + 1) = ((cn + 1 : Nat) : Int) from rfl, Cm.cutD]
      have s5 := Same.new ht3 (o := .tup ((rf l).drop (cn + 1)))
      have th3 : ThAt (upd H4 t3 (.tup ((rf l).drop (cn + 1)))) t3 (((l.drop (cn + 1)).map (·.2)).map It.en) := th_pat ⟨l.drop (cn + 1), by rw [upd_same, rf, rf, List.map_drop], rfl, fun q hq => s5 _ _ (e3 q (List.mem_of_mem_drop hq))⟩
      refine cat_th (hc.same s5) th3 (by simp; omega) (by simp; omega) fun c2 H6 s6 hc2 => ?_
      have sA := (s2.trans s4).trans (s5.trans s6)
      exact k _ _ (.inr ⟨c2, _, rfl, hc2⟩) ((((k1.trans k2).trans s1.kp).trans k3).trans sA.kp) (pool_same p3 sA)
end
end K28
namespace K28
open PySem PySem.Spec PyProof.Rows Cm
open L2 hiding Same
/-! ### the patterns of a length are the patterns of values -/
theorem lev_of (ks : List Int) : ∀ (m : Nat) (xs : List Int), xs.length = m → pat ks [] xs ∈ lev ks m
  | 0, xs, h => by
    rw [List.length_eq_zero_iff.mp h]
    exact List.mem_singleton.mpr rfl
  | m + 1, xs, h => by
    obtain ⟨ys, c, rfl⟩ : ∃ ys c, xs = ys ++ [c] := by
      have hne : xs ≠ [] := fun e => by rw [e] at h; cases h
      exact ⟨xs.dropLast, xs.getLast hne, (List.dropLast_concat_getLast hne).symm⟩
    have hy : ys.length = m := by simpa using h
    rw [pat_app]
    refine mem_lev_succ.mpr ⟨_, _, lev_of ks m ys hy, ?_, rfl⟩
    have hc := cnt_uniq (fin_cntOk ks ys)
    unfold ent nxt
    rw [← hc]
    by_cases h1 : c ∈ ks
    · rw [if_pos h1]
      exact List.mem_append_left _ (List.mem_map.mpr ⟨c, (srt_perm ks).mem_iff.mpr h1, rfl⟩)
    · rw [if_neg h1]
      refine List.mem_append_right _ ?_
      by_cases h2 : c ∈ fin ks [] ys
      · rw [if_pos h2]
        exact List.mem_map.mpr ⟨_, List.mem_range.mpr (by have := idx_lt h2; omega), rfl⟩
      · rw [if_neg h2]
        exact List.mem_map.mpr ⟨_, List.mem_range.mpr (by omega), rfl⟩
theorem of_lev (ks : List Int) : ∀ (m : Nat) (es : List En), es ∈ lev ks m → ∃ xs, xs.length = m ∧ es = pat ks [] xs
  | 0, es, h => ⟨[], rfl, List.mem_singleton.mp h⟩
  | m + 1, es, h => by
    obtain ⟨fs, e, h1, h2, rfl⟩ := mem_lev_succ.mp h
    obtain ⟨ys, hy, rfl⟩ := of_lev ks m fs h1
    have hc := cnt_uniq (fin_cntOk ks ys)
    suffices hs : ∃ c, ent ks (fin ks [] ys) c = e by
      obtain ⟨c, rfl⟩ := hs
      exact ⟨ys ++ [c], by rw [List.length_append, hy]; rfl, (pat_app ks c ys []).symm⟩
    unfold nxt at h2
    rw [← hc] at h2
    rcases List.mem_append.mp h2 with h2 | h2
    · obtain ⟨v, hv, rfl⟩ := List.mem_map.mp h2
      exact ⟨v, if_pos ((srt_perm ks).mem_iff.mp hv)⟩
    · obtain ⟨i, hi, rfl⟩ := List.mem_map.mp h2
      have hi := List.mem_range.mp hi
      by_cases c : i < (fin ks [] ys).length
      · have hm := List.getElem_mem c
        have hk : (fin ks [] ys)[i] ∉ ks := by
          rcases (mem_fin ks _ ys []).mp hm with z | z
          · cases z
          · exact z.2
        refine ⟨(fin ks [] ys)[i], ?_⟩
        unfold ent
        rw [if_neg hk, if_pos hm, idx_nodup (fin_nodup ks ys [] List.nodup_nil) c]
      · obtain ⟨f1, f2⟩ := fr1_fresh ks ys
        refine ⟨fr1 ks ys, ?_⟩
        unfold ent
        rw [if_neg f1, if_neg f2]
        have : i = (fin ks [] ys).length := by omega
        rw [this]
theorem lev_real {ks : List Int} {m c : Nat} {es : List En} (h : es ∈ lev ks m) (hc : CntOk c es) : pat ks [] (es.map (rz (frs c ks))) = es := by
  obtain ⟨xs, _, rfl⟩ := of_lev ks m es h
  exact pat_real hc
theorem eqv_tds : ∀ ess : List (List En), PyData.eqv (.list (tds ess)) (.list (tds ess)) = true := by
  have : ∀ ess : List (List En), PyData.eqvAll (tds ess) (tds ess) = true := by
    intro ess
    induction ess with
    | nil => simp [tds, PyData.eqvAll]
    | cons es ess ih =>
      show PyData.eqvAll (.tuple (pds es) :: tds ess) (.tuple (pds es) :: tds ess) = true
      rw [PyData.eqvAll, ih, eqv_pat, decide_eq_true rfl]; rfl
  intro ess
  simp only [PyData.eqv]
  exact this ess
theorem passF {X : Cx} : Passes (CX X.prog X.w) X (fun _ _ _ => False) := fun pins σ H s e s' I c => by
  obtain ⟨a, B, H', cls, d, ea, fl, hok, ub, na, os, ag, h⟩ := c
  exact h.elim
end K28
namespace K28
open PySem PySem.Spec PyProof.Rows Cm
open L2 hiding Same
section
variable {P : Program} {w : World} {K : PySem.W.Frag} {mg : Str → Option Value} {base : Heap} {sa : Addr} {sx : List Int}
theorem Tx.cast (T : Tx K mg sa sx) (a : Addr) (x : List Int) : Tx K mg a x := by
  cases T
  constructor <;> assumption
theorem told_kp {H H' : Hp} {p a : Addr} {ess : List (List En)} (hP : PoolAt K sa sx H p) (s : Kp p H H') (hn : a ≠ p) (h : ToldAt H a ess) : ToldAt H' a ess := by
  obtain ⟨l, h1, h2, h3⟩ := h
  exact ⟨l, s _ _ hn h1, h2, fun q hq => PatAt.kp hP s (h3 q hq)⟩
theorem imp {X : Cx} {e : Expr} {t t2 : TE} (h : PE X e t) (f : ∀ σ H Q, t2 σ H Q → t σ H Q) : PE X e t2 := ⟨fun pins s σ H Q I z => h.run pins s σ H Q I (f σ H Q z)⟩
def tLen (K : PySem.W.Frag) (sa : Addr) (sx : List Int) : TE := fun σ H Q => ∃ p, σ[1]? = some (some (V.ref p)) ∧ PoolAt K sa sx H p ∧ ∀ (L : Nat) H', L ≤ 4 → Kp p H H' → PoolAt K sa sx H' p → Q (.int (L : Int)) H'
theorem lenI : ∀ (σ : L2.St) (H : Hp) (Q : VK), tLen K sa sx σ H Q → tIf (tTest (tOp (rI0 fun i j => V.bl (decide (j < i))) (tCall (spDraw K sa sx) [] E0 (tCons (tVar 1) (tCons (tC (V.int 4)) tNil))) (tC (V.int 0)))) (tCall (spDraw K sa sx) [] E0 (tCons (tVar 1) (tCons (tC (V.int 4)) tNil))) (tC (V.int 4)) σ H Q := by
  intro σ H Q ⟨p, h1, hP, q⟩
  refine ⟨_, h1, p, 4, rfl, by decide, io (by decide), hP, fun c H2 c0 c1 k2 p2 => ⟨_, _, rfl, rfl, _, rfl, dC (fun _ => ?_) (fun _ => q 4 H2 (by decide) k2 p2)⟩⟩
  refine ⟨_, h1, p, 4, rfl, by decide, io (by decide), p2, fun L H3 l0 l1 k3 p3 => ?_⟩
  obtain ⟨Ln, rfl⟩ := Int.eq_ofNat_of_zero_le l0
  exact q Ln H3 (by omega) (k2.trans k3) p3
def spLaw (K : PySem.W.Frag) : Sp := fun vs H Q _ => ∃ (a : Addr) (ns : List Int), vs = [.ref a] ∧ SqL K H a (ns.map V.int) ∧ ∀ H', Q (.bl true) H'
theorem ok_law (T0 : Tx K mg sa sx) {fd : FuncData} (F : FunD K "law" "law" (defArgs s_law) (defBody s_law) (defScope s_law) [] [] (He.ga K "law") fd) : FnOk P w K mg base CX0 12 (He.ga K "law") fd ["_law_script"] (spLaw K) := by
  refine fnok F sc_law (fun vs H Q E h => ?_) (fun cdv A outer s H vs Q E hr h => ?_)
  · obtain ⟨a, ns, rfl, _⟩ := h; rfl
  · obtain ⟨a, ns, rfl, hS, k⟩ := h
    have T : Tx K mg a ns := T0.cast a ns
    obtain ⟨fdG, FG, bG, kpG⟩ := ok_all_patterns (P := P) (w := w) (base := base) T
    refine ⟨_, (pss_cons (ps_set (i := 1) sc_law.nd rfl (by first | exact Or.inl rfl | exact Or.inr rfl) (pe_lst (pa_cons (pv 0) (pa_cons pe_int (pa_cons pe_int (pa_cons pe_int pa_nil))))))
    (pss_cons (ps_set (i := 2) sc_law.nd rfl (by first | exact Or.inl rfl | exact Or.inr rfl) (pe_cal (ok_l_kept T) hr (by decide) (pa_cons (pv 1) pa_nil)))
    (pss_cons (ps_set (i := 3) sc_law.nd rfl (by first | exact Or.inl rfl | exact Or.inr rfl) (imp (t2 := tLen K a ns) (pe_ifExp (pt_cmpR op_gt (pe_cal (ok_l_draw T) hr (by decide) (pa_cons (pv 1) (pa_cons pe_int pa_nil))) pe_int (nomark _)) (pe_cal (ok_l_draw T) hr (by decide) (pa_cons (pv 1) (pa_cons pe_int pa_nil))) pe_int) lenI))
    (pss_cons (ps_if (PW.pt (pw_and (pt_cmpR op_eq (pv 3) pe_int (nomark _)) (pw_and1 (pt_cmpR op_eq (pe_callB (id := "len") call_len_seq rfl (n_len T) (by decide +kernel) (pa_cons (pv 2) pa_nil)) pe_int (nomark _))))) (pss_one (ps_set (i := 2) sc_law.nd rfl (by first | exact Or.inl rfl | exact Or.inr rfl) (pe_slice sl_list (pv 2) po_none (po_some pe_int)))) pss_nil)
    (pss_cons (ps_set (i := 4) sc_law.nd rfl (by first | exact Or.inl rfl | exact Or.inr rfl) (pe_listG (pgen_call FG (hr.mono (by decide)) rfl (g_all_patterns T) kpG bG .nil (pa_cons (pv 3) (pa_cons (pe_callTy (T := "list") call_list_of rfl (n_list T) (by decide +kernel) (pa_cons (pv 2) pa_nil)) pa_nil))) passF (fun _ _ _ h => h.elim) (hr.mono (by decide)) rfl (n_list T) (by rfl)))
    (pss_cons (ps_if (pt_cmpR op_ne (pe_callB (id := "len") call_len_seq rfl (n_len T) (by decide +kernel) (pa_cons (pv 4) pa_nil)) (pe_cal (ok_l_count T) hr (by decide) (pa_cons (pv 3) (pa_cons (pe_callB (id := "len") call_len_seq rfl (n_len T) (by decide +kernel) (pa_cons (pv 2) pa_nil)) pa_nil))) (nomark _)) (pss_one (ps_ret pe_bl)) pss_nil)
    (pss_cons (ps_for PassesOwn.never rfl (pi_range1 rfl (n_range T) (pa_cons (pe_callB (id := "len") call_len_seq rfl (n_len T) (by decide +kernel) (pa_cons (pv 4) pa_nil)) pa_nil)) (pg_name (i := 5) sc_law.nd rfl (by first | exact Or.inl rfl | exact Or.inr rfl))
      (pss_cons (ps_if (PW.pt (pw_and (pt_cmpR op_gt (pv 5) pe_int (nomark _)) (pw_and1 (pt_not (pt_cmpR (op_ltP hr.units) (pe_ix ix_list (pv 4) (pe_op op_sub (pv 5) pe_int) (fun _ _ => rfl)) (pe_ix ix_list (pv 4) (pv 5) (fun _ _ => rfl)) (nomark _)))))) (pss_one (ps_ret pe_bl)) pss_nil)
      (pss_cons (ps_if (PW.pt (pw_or (pt_not (pt_val (pe_callB (id := "isinstance") (r := rIsi K) call_isi rfl (n_isinstance T) (by decide +kernel) (pa_cons (pe_ix ix_list (pv 4) (pv 5) (fun _ _ => rfl)) (pa_cons (pe_bltn (v := .ty "tuple") rfl (n_tuple T) (by decide +kernel) rfl) pa_nil))))) (pw_or1 (pt_not (pt_val (pe_cal (ok_is_pattern T) hr (by decide) (pa_cons (pe_ix ix_list (pv 4) (pv 5) (fun _ _ => rfl)) (pa_cons (pv 3) (pa_cons (pv 2) pa_nil))))))))) (pss_one (ps_ret pe_bl)) pss_nil)
      (pss_cons (ps_if (PW.pt (pw_and (pt_cmpR op_lt (pv 3) pe_int (nomark _)) (pw_and1 (pt_val (pe_cal (ok_is_pattern T) hr (by decide) (pa_cons (pe_ix ix_list (pv 4) (pv 5) (fun _ _ => rfl)) (pa_cons (pe_op op_add (pv 3) pe_int) (pa_cons (pv 2) pa_nil)))))))) (pss_one (ps_ret pe_bl)) pss_nil)
      (pss_one (ps_if (pt_cmpR (op_neD hr.units) (pe_cal (ok_patternT T) hr (by decide) (pa_cons (pe_cal (ok_realise T) hr (by decide) (pa_cons (pe_ix ix_list (pv 4) (pv 5) (fun _ _ => rfl)) (pa_cons (pv 2) pa_nil))) (pa_cons (pv 2) pa_nil))) (pe_ix ix_list (pv 4) (pv 5) (fun _ _ => rfl)) (nomark _)) (pss_one (ps_ret pe_bl)) pss_nil))))))
    (pss_cons (ps_if (PW.pt (pw_or (pt_cmpR (op_notInD (u65 hr)) (pe_cal (ok_patternT T) hr (by decide) (pa_cons (pe_cal (ok_l_values T) hr (by decide) (pa_cons (pv 1) (pa_cons (pv 3) (pa_cons (pv 2) pa_nil)))) (pa_cons (pv 2) pa_nil))) (pv 4) (by rfl)) (pw_or1 (pt_cmpR (op_neD hr.units) (pv 4) (pe_listG (pgen_call FG (hr.mono (by decide)) rfl (g_all_patterns T) kpG bG .nil (pa_cons (pv 3) (pa_cons (pv 2) pa_nil))) passF (fun _ _ _ h => h.elim) (hr.mono (by decide)) rfl (n_list T) (by rfl)) (nomark _))))) (pss_one (ps_ret pe_bl)) pss_nil)
    (pss_cons (ps_for PassesOwn.never rfl (pi_range1 rfl (n_range T) (pa_cons pe_int pa_nil)) (pg_name (i := 5) sc_law.nd rfl (by first | exact Or.inl rfl | exact Or.inr rfl))
      (pss_cons (ps_set (i := 6) sc_law.nd rfl (by first | exact Or.inl rfl | exact Or.inr rfl) (pe_cal (ok_l_pick T) hr (by decide) (pa_cons (pv 1) (pa_cons (pv 4) pa_nil))))
      (pss_cons (ps_set (i := 7) sc_law.nd rfl (by first | exact Or.inl rfl | exact Or.inr rfl) (pe_cal (ok_l_odd T) hr (by decide) (pa_cons (pv 1) (pa_cons (pv 6) (pa_cons (pv 2) pa_nil)))))
      (pss_one (ps_if (pt_cmpR op_ne (pe_cal (ok_is_pattern T) hr (by decide) (pa_cons (pv 7) (pa_cons (pv 3) (pa_cons (pv 2) pa_nil)))) (pe_cal (ok_l_is_listed T) hr (by decide) (pa_cons (pv 7) (pa_cons (pv 4) pa_nil))) (nomark _)) (pss_one (ps_ret pe_bl)) pss_nil)))))
    (pss_one (ps_ret pe_bl))))))))))), ?_⟩
    refine ⟨_, rfl, sz1 (by simp), fun p hp => ?_⟩
    have P0 : PoolAt K a ns (upd H p (.lst [V.ref a, V.int 0, V.int 0, V.int 37])) p :=
      ⟨0, 0, 37, upd_same, sq_new hS hp, (sq_new hS hp).elim (fun n => Kp.sl (p := p) (Kp.refl.new hp) n hS) (fun z => z _), by decide, by decide, by decide, by decide⟩
    generalize upd H p (.lst [V.ref a, V.int 0, V.int 0, V.int 37]) = HP at P0 ⊢
    refine ⟨_, rfl, p, rfl, P0, fun b0 ks0 H1 _ hb0 kl0 nd0 k1 p1 => ?_⟩
    -- the length
    refine ⟨p, rfl, p1, fun L H3 hL k3 p3 => ?_⟩
    have hb0 := k3 _ _ (pool_int p1 hb0) hb0
    refine ⟨_, rfl, rfl, _, rfl, dC (fun _ => ?g1) (fun _ => ?g2)⟩
    case' g1 =>
      refine ⟨_, rfl, b0, _, rfl, .inl (SqL.of hb0), rfl, _, rfl, dC (fun _ => ?g3) (fun _ => ?g4)⟩
    case' g3 =>
      refine ⟨_, rfl, _, rfl, b0, _, rfl, SqL.of hb0, fun b hb => ?_⟩
      have hb0 : (upd H3 b (.lst (cutV (ks0.map V.int) none (some (2 : Int))))) b = some (.lst ((ks0.take 2).map V.int)) := by
        rw [upd_same, show (2 : Int) = ((2 : Nat) : Int) from rfl, Cm.cutT, List.map_take]
      have kl0 : (ks0.take 2).length ≤ 3 := by rw [List.length_take]; omega
      have nd0 : (ks0.take 2).Nodup := nd0.sublist (List.take_sublist _ _)
      have p3 := pool_new (o := .lst (cutV (ks0.map V.int) none (some (2 : Int)))) p3 hb
      generalize upd H3 b (.lst (cutV (ks0.map V.int) none (some (2 : Int)))) = HX at hb0 p3 ⊢
      generalize ks0.take 2 = ks at hb0 kl0 nd0
    case' g4 =>
      generalize b0 = b at hb0 ⊢
      generalize ks0 = ks at hb0 kl0 nd0
      generalize H3 = HX at hb0 p3 ⊢
    case' g2 =>
      generalize b0 = b at hb0 ⊢
      generalize ks0 = ks at hb0 kl0 nd0
      generalize H3 = HX at hb0 p3 ⊢
    all_goals
      -- told
      refine ⟨_, rfl, _, rfl, b, _, rfl, .inl (SqL.of hb0), fun lb hlb => ⟨L, lb, ks, rfl, hL, upd_same, kl0, fun l H4 s4 hl hpt Td hTd => ?_⟩⟩
      have s5 := ((Same.new hlb (o := .lst (ks.map V.int))).trans s4).trans (Same.new hTd (o := .lst (rp l)))
      have hT : ToldAt (upd H4 Td (.lst (rp l))) Td (lev ks L) := ⟨l, upd_same, hl, fun q hq => (hpt q hq).same (Same.new hTd)⟩
      have hb := s5 _ _ hb0
      have p5 := pool_same p3 s5
      have nTp : Td ≠ p := pool_ne (pool_same p3 ((Same.new hlb (o := .lst (ks.map V.int))).trans s4)) hTd
      generalize upd H4 Td (.lst (rp l)) = H5 at hT hb p5 ⊢
      have ll : l.length = (lev ks L).length := by rw [← hl, List.length_map]
      have lsm := lev_small (ks := ks) (m := L) kl0 hL
      obtain ⟨l', hT1, hT2, hT3⟩ := id hT
      have ll' : l'.length = (lev ks L).length := by rw [← hT2, List.length_map]
      refine ⟨_, rfl, Td, _, rfl, .inl (SqL.of hT1), _, rfl, _, rfl, b, _, rfl, .inl (SqL.of hb), L, (ks.map V.int).length, rfl, hL, by rw [List.length_map]; exact kl0, fun H6 s6 => ⟨rfl, _, rfl, uF ?_ ?_⟩⟩
      · rw [rp_len, ll', lev_num, List.length_map]
      have hT := hT.same s6
      have hb := s6 _ _ hb
      have p6 := pool_same p5 s6
      clear hT1 hT2 hT3 ll' l'
      obtain ⟨l, hT1, hT2, hT3⟩ := id hT
      have ll : l.length = (lev ks L).length := by rw [← hT2, List.length_map]
      have at_ : ∀ (i : Nat) (hi : i < l.length), (rp l)[i]? = some (.ref (l[i]).1) ∧ PatAt H6 (l[i]).1 (l[i]).2 ∧ (l[i]).2 ∈ lev ks L := fun i hi => by
        refine ⟨by rw [rp, List.getElem?_map, List.getElem?_eq_getElem hi]; rfl, hT3 _ (List.getElem_mem hi), ?_⟩
        rw [← hT2]
        exact List.mem_map.mpr ⟨_, List.getElem_mem hi, rfl⟩
      refine ⟨_, rfl, Td, _, rfl, .inl (SqL.of hT1), _, rfl, by omega, by rw [rp_len]; omega, ?_⟩
      refine for_range (lo := 0) (n := (((rp l).length : Nat) : Int).toNat) (fun i σ H' => ∃ v5 v6 v7, σ = [some (.ref a), some (.ref p), some (.ref b), some (.int (L : Int)), some (.ref Td), v5, v6, v7] ∧ Same H6 H') ⟨none, none, none, rfl, Cm.Same.refl _⟩ ?_ ?_
      · rintro i σ H' hi ⟨v5, v6, v7, rfl, sm⟩
        have hi2 : i < l.length := by rw [Int.toNat_natCast, rp_len] at hi; exact hi
        obtain ⟨e1, e2, e3⟩ := at_ i hi2
        have hTl := sm _ _ hT1
        have e2 := e2.same sm
        have eL := lev_length e3
        have ix : ∀ {G : Hp}, Same H' G → ∃ a xs k v, V.ref Td = .ref a ∧ V.int (0 + (i : Int)) = .int k ∧ SqL K G a xs ∧ atI xs k = some v ∧ v = .ref (l[i]).1 := fun s => ⟨Td, _, 0 + (i : Int), _, rfl, rfl, SqL.of (s _ _ hTl), at_of (j := i) (by omega) e1, rfl⟩
        refine ⟨_, rfl, _, _, rfl, rfl, _, rfl, dC (fun hk => ?_) (fun hk => ?_)⟩
        focus
          have hj : i - 1 < l.length := by omega
          obtain ⟨f1, f2, f3⟩ := at_ (i - 1) hj
          refine ⟨_, rfl, _, rfl, _, _, rfl, rfl, Td, _, 0 + (i : Int) - 1, _, rfl, rfl, SqL.of hTl, at_of (j := i - 1) (by omega) f1, ?_⟩
          refine ⟨_, rfl, _, rfl, Td, _, 0 + (i : Int), _, rfl, rfl, SqL.of hTl, at_of (j := i) (by omega) e1, ?_⟩
          refine ⟨(l[i - 1]).2, (l[i]).2, dp_pat (f2.same sm), dp_pat e2, ?_⟩
          have hlt : llt (l[i - 1]).2 (l[i]).2 = true := by
            have hpw := lev_asc nd0 L
            rw [← hT2, List.pairwise_map] at hpw
            exact List.pairwise_iff_getElem.mp hpw (i - 1) i hj hi2 (by omega)
          rw [hlt]
          refine ⟨true, rfl, iteF ?_⟩
        all_goals
          -- a tuple, a pattern
          refine ⟨_, rfl, _, rfl, Td, _, 0 + (i : Int), _, rfl, rfl, SqL.of hTl, at_of (j := i) (by omega) e1, ?_⟩
          obtain ⟨xs, hx, lx⟩ := pt_len e2
          refine ⟨.ref (l[i]).1, .ty "tuple", _, .type "tuple", true, rfl, .ty _, .base (.tup hx), kit_ty (by decide +kernel), true, rfl, iteF ?_⟩
          refine ⟨_, rfl, _, rfl, Td, _, 0 + (i : Int), _, rfl, rfl, SqL.of hTl, at_of (j := i) (by omega) e1, ?_⟩
          have hb7 := sm _ _ hb
          refine ⟨_, rfl, _, rfl, .ref (l[i]).1, L, b, ks, rfl, by omega, hb7, by omega, .inr ⟨_, _, rfl, th_pat e2, fun H7 s7 => ⟨true, ?_, iteF ?_⟩⟩⟩
          · exact congrArg V.bl (patB_iff.mpr ⟨_, rfl, e3⟩)
          have s67 := sm.trans s7
          refine ⟨_, rfl, _, _, rfl, rfl, _, rfl, dC (fun h4 => ?_) (fun h4 => ?_)⟩
          focus
            refine ⟨_, rfl, _, rfl, Td, _, 0 + (i : Int), _, rfl, rfl, SqL.of (s67 _ _ hT1), at_of (j := i) (by omega) e1, ?_⟩
            refine ⟨_, rfl, _, _, rfl, rfl, _, rfl, .ref (l[i]).1, L + 1, b, ks, rfl, by omega, s67 _ _ hb, by omega, .inr ⟨_, _, rfl, th_pat (e2.same s7), fun H8 s8 => ⟨false, ?_, iteF ?_⟩⟩⟩
            · refine congrArg V.bl ?_
              rw [decide_eq_false (by rw [List.length_map]; omega), Bool.false_and]
            have sY := s67.trans s8
            generalize H8 = HY at sY ⊢
          rotate_left
          focus
            have sY := s67
            generalize H7 = HY at sY ⊢
          all_goals
            have hb8 := sY _ _ hb
            obtain ⟨g1, g2, g3⟩ := at_ i hi2
            have g2 := g2.same sY
            refine ⟨_, rfl, _, rfl, Td, _, 0 + (i : Int), _, rfl, rfl, SqL.of (sY _ _ hT1), at_of (j := i) (by omega) e1, ?_⟩
            refine ⟨_, rfl, (l[i]).1, b, (l[i]).2, ks, rfl, g2, by omega, fun j hj => by have := cntE_lt hj; have := lev_cnt_le e3; omega, hb8, by omega, fun c t H9 hc ht s9 hx => ?_⟩
            refine ⟨_, rfl, t, b, _, ks, rfl, hx, by rw [List.length_map]; omega, s9 _ _ hb8, fun t2 H10 ht2 s10 hpat => ?_⟩
            have sZ := (sY.trans s9).trans s10
            refine ⟨_, rfl, _, rfl, Td, _, 0 + (i : Int), _, rfl, rfl, SqL.of (sZ _ _ hT1), at_of (j := i) (by omega) e1, ?_⟩
            refine ⟨_, _, dp_pat hpat, dp_pat (g2.same (s9.trans s10)), shp_pat _, shp_pat _, _, rfl, ?_⟩
            rw [eqv_pat]
            exact uF (lev_real e3 hc) ⟨_, _, _, rfl, sZ⟩
      · rintro σ H' ⟨v5, v6, v7, rfl, sm⟩
        have hb7 := sm _ _ hb
        have p7 := pool_same p6 sm
        have hT7 := hT.same sm
        refine ⟨_, rfl, _, rfl, _, rfl, p, L, b, ks, rfl, hL, hb7, by omega, p7, fun t vs8 H8 ht hln k8 p8 => ?_⟩
        have hb8 := k8 _ _ (pool_int p7 hb7) hb7
        have hT8 := told_kp p7 k8 nTp hT7
        refine ⟨_, rfl, t, b, vs8, ks, rfl, ht, by omega, hb8, fun t2 H9 ht2 s9 hpat => ?_⟩
        have hT9 := hT8.same s9
        have hb9 := s9 _ _ hb8
        have p9 := pool_same p8 s9
        have hin := lev_of ks L vs8 hln
        have hany : ((tds (lev ks L)).any fun z => PyData.eqv z (.tuple (pds (pat ks [] vs8)))) = true := by
          rw [List.any_eq_true]
          refine ⟨_, List.mem_map.mpr ⟨_, hin, rfl⟩, ?_⟩
          rw [eqv_pat]
          exact decide_eq_true rfl
        refine ⟨_, rfl, _, _, dp_pat hpat, told_dp hT9, shp_pat _, shp_tds _, _, rfl, ?_⟩
        rw [hany]
        refine iteF ?_
        refine ⟨_, rfl, _, rfl, _, rfl, L, b, ks, rfl, hL, hb9, kl0, fun l2 H10 s10 hl2 hpt2 Td2 hTd2 => ?_⟩
        have s11 := s10.trans (Same.new hTd2 (o := .lst (rp l2)))
        have hT2' : ToldAt (upd H10 Td2 (.lst (rp l2))) Td2 (lev ks L) := ⟨l2, upd_same, hl2, fun q hq => (hpt2 q hq).same (Same.new hTd2)⟩
        refine ⟨_, _, told_dp (hT9.same s11), told_dp hT2', shp_tds _, shp_tds _, _, rfl, ?_⟩
        rw [eqv_tds]
        refine iteF ?_
        refine ⟨6, rfl, by decide, by decide, ?_⟩
        refine for_range (lo := 0) (n := (6 : Int).toNat) (fun _ σ H' => ∃ v5 v6 v7, σ = [some (.ref a), some (.ref p), some (.ref b), some (.int (L : Int)), some (.ref Td), v5, v6, v7] ∧ PoolAt K a ns H' p ∧ ToldAt H' Td (lev ks L) ∧ H' b = some (.lst (ks.map V.int))) ⟨_, _, _, rfl, pool_same p9 s11, hT9.same s11, s11 _ _ hb9⟩ ?_ ?_
        · rintro i σ G0 hi ⟨v5, v6, v7, rfl, q0, hTG, hbG⟩
          obtain ⟨lg, hg1, hg2, hg3⟩ := id hTG
          have llg : lg.length = (lev ks L).length := by rw [← hg2, List.length_map]
          have lpos : lg ≠ [] := fun z => by
            have h1 : lev ks L = [] := by rw [← hg2, z]; rfl
            rw [h1] at hin
            cases hin
          refine ⟨_, rfl, _, rfl, p, Td, _, rfl, hg1, nTp, by simpa [rp] using lpos, by rw [rp_len]; omega, q0, fun v G1 hv k1' q1 => ?_⟩
          obtain ⟨q, hq, rfl⟩ := List.mem_map.mp hv
          have hqp := PatAt.kp q0 k1' (hg3 q hq)
          have hql : q.2 ∈ lev ks L := by rw [← hg2]; exact List.mem_map.mpr ⟨q, hq, rfl⟩
          have eql := lev_length hql
          have hT1' := told_kp q0 k1' nTp hTG
          have hb1 := k1' _ _ (pool_int q0 hbG) hbG
          refine ⟨_, rfl, _, rfl, _, rfl, p, q.1, b, q.2, ks, rfl, hqp, by omega, hb1, by omega, q1, fun v G2 hth k2' q2 => ?_⟩
          have hT2'' := told_kp q1 k2' nTp hT1'
          have hb2 := k2' _ _ (pool_int q1 hb1) hb1
          rcases hth with hnt | ⟨x, its, rfl, hth⟩
          · obtain ⟨ty, h1, h2⟩ := nt_ty (K := K) hnt
            refine ⟨_, rfl, _, rfl, _, rfl, v, L, b, ks, rfl, by omega, hb2, by omega, .inl ⟨ty, h1, h2, ?_⟩⟩
            exact ⟨_, rfl, _, rfl, v, Td, ks, L, rfl, hT2'', .inl ⟨ty, h1, h2, rfl, _, rfl, uF rfl ⟨_, _, _, rfl, q2, hT2'', hb2⟩⟩⟩
          · refine ⟨_, rfl, _, rfl, _, rfl, .ref x, L, b, ks, rfl, by omega, hb2, by omega, .inr ⟨x, its, rfl, hth, fun G3 s3' => ?_⟩⟩
            exact ⟨_, rfl, _, rfl, .ref x, Td, ks, L, rfl, hT2''.same s3', .inr ⟨x, its, rfl, hth.same s3', rfl, _, rfl, uF rfl ⟨_, _, _, rfl, pool_same q2 s3', hT2''.same s3', s3' _ _ hb2⟩⟩⟩
        · rintro σ G0 ⟨v5, v6, v7, rfl, q0, hTG, hbG⟩
          exact k _
end
end K28
open PySem PySem.W PySem.Calls PyProof.Rows
theorem PySem.Challenge.cw_quietedition_k28_whole_all_patterns_holds : PySem.Challenge.rw_quietedition_k28_whole_all_patterns.Holds := by
  w_on; o_law
  refine HandSHeadRun.head_any (r := OpenLaw.row PySem.Challenge.rw_quietedition_k28_whole_all_patterns) (q := view (OpenLaw.row PySem.Challenge.rw_quietedition_k28_whole_all_patterns).prog [20]) (H := K28.hkz 2) (ob := K28.ob) (M := 1500) (loose := K28.loose) (d := HandSHeadRun.topDef (OpenLaw.row PySem.Challenge.rw_quietedition_k28_whole_all_patterns).prog 20) (kwd := []) K28.ob_eq
    (by kernel_rfl) (fun s => by kernel_rfl) K28.run (by kernel_rfl) (by kernel_rfl) (by kernel_rfl) (by rfl) (by first | assumption | decide +kernel) (by decide +kernel) ⟨rfl, rfl, rfl, rfl, rfl, by decide +kernel⟩ ?hw ?hc
  case hw => w_witness2
  case hc =>
    refine L2.walk_ofE (l := PySem.Challenge.rw_quietedition_k28_whole_all_patterns) (n := 63) (k := 12) (x := "_law_script") (CX := L2.CX0) rfl (by decide) (by kernel_rfl) ⟨rfl, by decide, by decide⟩ ?F (fun _ _ _ _ z => z)
    intro w mg fa h Y G g0
    obtain ⟨K, KX, c, ck⟩ := Y
    have gl : mg ("law" : PySem.Str) = some (.ref fa) := by
      have nm : (HandSHeadRun.topDef (OpenLaw.row PySem.Challenge.rw_quietedition_k28_whole_all_patterns).prog 20).name = ("law" : PySem.Str) := by kernel_rfl
      rw [← nm]
      exact g0
    have T : K28.Tx K mg (0 : Addr) [] := K28.tx_of KX G c ck
    obtain ⟨fd, F⟩ := K28.f_law T
    cases gl.symm.trans (K28.g_law T)
    have b := L2.FunD.bindsA (ps := ["_law_script"]) F fun _ _ _ _ _ _ us hl => match us, hl with | [_], _ => rfl
    exact ⟨K, fd, K28.spLaw K, KX, fun s v => b s [v] rfl, fun _ a ns _ _ q => ⟨a, ns, rfl, q, fun _ => rfl⟩, fun _ _ _ => K28.ok_law T F⟩
