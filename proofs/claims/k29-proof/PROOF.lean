import PyProof.Rows.All
import Wide.All
import OpenK.AllK
import Wide.FinOn
import KE.KStateDown
import HandS.ForMost
import HandS.FStr
import HandS.IsInst
import HandS.Wide
import HandS.SlotsOwn
import HandS.Defaults
import HandS.Head0
import HandS.Head1
import HandS.Head2
import HandS.HeadEnd
import HandS.HeadHook1
import HandS.HeadHook2
import KE.KOpsOwn
import HandS.OwnIter
import KE.KDictIter
import PyProof.TupleIter
import PyProof.WalksMore
import HandS.SetKeys
import HandS.SortKw
import KE.DataMinMax
import HandS.ExcInit
import HandS.ExcField
import HandS.ExcIs
import HandS.Nested
import KE.KExcSuper
import KE.KSuper
import HandS.FStrTup
import PyProof.ReprHeads
import HandS.ClsMeth
import HandS.Star
import HandS.Deep
import HandS.TupAny
import PySem.Challenge.RW_quietedition_k29_renamings_made
import KE.GoesMore
import HandS.Walk
import KE.SortKeyHeap
import HandS.Lambda
import HandS.DictComp
import HandS.Conv
import HandS.SetFor
import HandS.Strs
import HandS.SortInts
import KE.KCallOwn
import HandS.Style
set_option Elab.async false
set_option linter.all false
set_option maxRecDepth 100000
set_option maxHeartbeats 0
namespace Cm
open PySem PySem.Spec PyProof.Rows L2

/-! ### defs, methods, makers of the module, each as one fact -/
/-- the module's name x is a def that keeps sp at level k -/
def Cal (P : Program) (w : World) (K : PySem.W.Frag) (mg : Str → Option Value) (base : Heap) (k : Nat) (x : Str) (sp : Sp) : Prop :=
  ∃ f fd ps, FnOk P w K mg base CX0 k f fd ps sp ∧ Binds K fd ps [] ∧ mg x = some (.ref f) ∧ PySem.W.keepIn K (.ref f) = true
/-- the class at C has the method m, which keeps sp at level k -/
def MCal (P : Program) (w : World) (K : PySem.W.Frag) (mg : Str → Option Value) (base : Heap) (k : Nat) (C : Addr) (m : Str) (sp : Sp) : Prop :=
  Cls K C ∧ ∃ f fd ps, FnOk P w K mg base CX0 k f fd ps sp ∧ Binds K fd ps [] ∧ Meth K C m f
/-- the module's name x is the class at C, whose maker keeps sp; dv fills up -/
def KCal (P : Program) (w : World) (K : PySem.W.Frag) (mg : Str → Option Value) (base : Heap) (k : Nat) (x : Str) (C : Addr) (sp : Sp) (dv : List V) : Prop :=
  mg x = some (.ref C) ∧ ∃ f fd ps ds, Mk K C f ∧ FnOk P w K mg base CX0 k f fd ps sp ∧ Binds K fd ps ds ∧ Vals dv ds
section
variable {X : Cx} {j k : Nat} {x m : Str} {C : Addr} {sp : Sp} {dv : List V} {e o : Expr} {es : List Expr} {p pos apos : Pos} {t : TA} {ta : TE}
theorem pe_cal (c : Cal X.prog X.w X.K X.mg X.base k x sp) (hr : Room j X.A) (hk : k ≤ j) (ha : PA X (e :: es) t) (hg : Gl X x := by rfl) (hd : (x == ("__debug__" : Str)) = false := by decide)
    (h1 : starEach (e :: es) X.env = (false, eval e X.env) :: starEach es X.env := by rfl) (h2 : (backTo pos (starEach es X.env)).any (·.1) = false := by rfl) :
    PE X (.Call (.Name x p) (e :: es) [] pos) (tCall sp [] E0 t) := by
  obtain ⟨f, fd, ps, F, b, g, kp⟩ := c
  exact pe_call F (hr.mono hk) hg g kp b .nil pass0 ha hd h1 h2
theorem pe_kal (c : KCal X.prog X.w X.K X.mg X.base k x C sp dv) (hr : Room j X.A) (hk : k + 1 ≤ j) (ha : PA X (e :: es) t) (hg : Gl X x := by rfl) (hd : (x == ("__debug__" : Str)) = false := by decide)
    (h1 : starEach (e :: es) X.env = (false, eval e X.env) :: starEach es X.env := by rfl) (h2 : (backTo pos (starEach es X.env)).any (·.1) = false := by rfl) :
    PE X (.Call (.Name x p) (e :: es) [] pos) (tMake C sp dv E0 t) := by
  obtain ⟨g, f, fd, ps, ds, M, F, b, v⟩ := c
  exact pe_make M F (hr.mono hk) hg g b v pass0 ha hd h1 h2
theorem pe_mcal0 {pl : Sem Bool} (c : MCal X.prog X.w X.K X.mg X.base k C m sp) (hr : Room j X.A) (hk : k ≤ j) (ho : PE X o ta)
    (ht : eval (.Call (.Attribute o m apos) [] [] pos) X.env = (do
      let ov ← eval o X.env
      standAt apos.atName
      let (f, first) ← holding [ov] (getMethod ov m pl)
      callWith pos f first (backTo pos (starEach [] X.env)) (backToKw pos (keywordEach [] X.env))) := by rfl) : PE X (.Call (.Attribute o m apos) [] [] pos) (tMeth C m sp [] E0 ta tNil) := by
  obtain ⟨cl, f, fd, ps, F, b, M⟩ := c
  exact pe_meth0 ho cl M F (hr.mono hk) b .nil pass0 ht
/-- two readings of one expression -/
theorem PE.or2 {t1 t2 : TE} (h1 : PE X e t1) (h2 : PE X e t2) : PE X e (fun σ H Q => t1 σ H Q ∨ t2 σ H Q) :=
  ⟨fun pins s σ H Q I h => h.elim (h1.run pins s σ H Q I) (h2.run pins s σ H Q I)⟩
end
theorem MCal.mono {P : Program} {w : World} {K : PySem.W.Frag} {mg : Str → Option Value} {base : Heap} {j k : Nat} {C : Addr} {m : Str} {sp : Sp} (h : MCal P w K mg base j C m sp) (l : j ≤ k) : MCal P w K mg base k C m sp :=
  let ⟨c, f, fd, ps, F, r⟩ := h; ⟨c, f, fd, ps, F.mono l, r⟩
/-! ### methods and == of an instance whose class the reading tells -/
def tMG (P : Program) (w : World) (K : PySem.W.Frag) (mg : Str → Option Value) (base : Heap) (k : Nat) (m : Str) (ta : TE) : TE := fun σ H Q =>
  ta σ H fun x H1 => ∃ a C dx fs sp, x = .ref a ∧ H1 a = some (.ins C dx fs) ∧ fs.lookup m = none ∧ MCal P w K mg base k C m sp ∧ sp [.ref a] H1 Q E0
def rOwnG (P : Program) (w : World) (K : PySem.W.Frag) (mg : Str → Option Value) (base : Heap) (k : Nat) (m : Str) : R2 := fun x y H Q =>
  ∃ a C dx fs sp, x = .ref a ∧ H a = some (.ins C dx fs) ∧ MCal P w K mg base k C m sp ∧
    ((∃ b D dy gs, y = .ref b ∧ H b = some (.ins D dy gs) ∧ PySem.W.notFirst K C (.ref D) = true) ∨ (∃ z, y = .str z ∧ PySem.W.notFirst K C (.type "str") = true)) ∧ sp [x, y] H Q E0
section
variable {X : Cx} {j k : Nat} {m : Str} {o : Expr} {pos apos : Pos} {ta : TE}
theorem pe_mG {pl : Sem Bool} (hr : Room j X.A) (hk : k ≤ j) (he : PE X o ta)
    (ht : eval (.Call (.Attribute o m apos) [] [] pos) X.env = (do
      let ov ← eval o X.env
      standAt apos.atName
      let (f, first) ← holding [ov] (getMethod ov m pl)
      callWith pos f first (backTo pos (starEach [] X.env)) (backToKw pos (keywordEach [] X.env))) := by rfl) : PE X (.Call (.Attribute o m apos) [] [] pos) (tMG X.prog X.w X.K X.mg X.base k m ta) := by
  constructor
  intro pins s σ H Q I h
  refine PySem.W.methodCall_KW (pl := pl) (thn (he.run pins s σ H _ I h) ?_) ht
  rintro u s1 ⟨x, H1, I1, rx, a, C, dx, fs, sp, ex, ea, l, ⟨c, f, fd, ps, F, b, M⟩, q⟩
  subst ex
  cases (show u = Value.ref a from rx)
  refine getmeth_ok I1 ea c M l ?_
  exact PySem.W.callWith_K0 (first := [.ref a]) I1.kIn M.kp (run_fn (vs := [.ref a]) F (hr.mono hk) b .nil pass0 I1 (.cons rfl .nil) q)
theorem op_ownG (hr : Room j X.A) (hk : k ≤ j) : OpR X (compareOp .Eq) (rOwnG X.prog X.w X.K X.mg X.base k "__eq__") := by
  intro pins s σ H x y v u Q I rx ry h
  obtain ⟨a, C, dx, fs, sp, ex, ha, ⟨c, f, fd, ps, F, b, M⟩, hy, q⟩ := h
  subst ex
  cases (show v = Value.ref a from rx)
  obtain ⟨mA, O, _⟩ := ins_get I.hok ha
  obtain ⟨od, J, _⟩ := O.look
  obtain ⟨mm, hF⟩ := I.fr
  have go : ∀ tb, PySem.W.Looks (model X.prog X.w) s.heap (typeOf u) tb → PySem.W.notFirst X.K C tb = true → wpAny (model X.prog X.w) X.A (compareOp .Eq (.ref a) u) (EP X pins σ Q) X.xe s := by
    intro tb hb hn
    show wpAny _ X.A (richCompare .Eq (.ref a) u) _ _ s
    refine PySem.W.cmp_K (op := .Eq) hr.units0 hF I.ok.mod.kin J hb hn M.at_ M.fn ?_
    refine wpAny_mono (run_fn (us := [.ref a, u]) (vs := [.ref a, y]) F (hr.mono hk) b .nil pass0 I (.cons rfl (.cons ry .nil)) q) ?_ fun _ _ z => z
    rintro r s' ⟨z, H', I', rz, qz⟩
    exact SlX.cmpback rz ⟨z, H', I', rz, qz⟩
  rcases hy with ⟨b', D, dy, gs, ey, hb, hn⟩ | ⟨z, ey, hn⟩
  · subst ey
    cases (show u = Value.ref b' from ry)
    obtain ⟨mB, O', _⟩ := ins_get I.hok hb
    obtain ⟨od', J', _⟩ := O'.look
    exact go _ J'.type hn
  · subst ey
    obtain ⟨t, e⟩ := (show ∃ t, u = Value.str z t from ry)
    cases e
    exact go (.type "str") .now hn
end
/-! ### an instance of a class without a maker of its own -/
section
variable {X : Cx} {x : Str} {C : Addr} {p pos : Pos}
/-- C() where no __init__ stands but object's -/
def tMk0 (C : Addr) : TE := fun _ H Q => ∀ y dx, H y = none → H dx = none → dx ≠ y → Q (.ref y) (upd (upd H dx (.own y)) y (.ins C dx []))
theorem pe_mk0 (hm : PySem.W.makesIn X.K C = true) (hi : PySem.W.findIn X.K (.ref C) "__init__" = some (some (.builtin "object.__init__"))) (kp : PySem.W.keepIn X.K (.ref C) = true) (g : X.mg x = some (.ref C)) (hg : Gl X x := by rfl)
    (hd : (x == ("__debug__" : Str)) = false := by decide) : PE X (.Call (.Name x p) [] [] pos) (tMk0 C) := by
  constructor
  intro pins s σ H Q I h
  refine wpAny_Call_Name_kw (ld_glob I hg g ?_ hd)
  refine PySem.W.callWith_K0 I.kIn kp ?_
  have I2 := Inv.made (C := C) I
  have q := h (s.heap.objs.size + 1) s.heap.objs.size (I.hok.fresh (Nat.le_succ _)) (I.hok.fresh (Nat.le_refl _)) (Nat.ne_of_lt (Nat.lt_succ_self _))
  have Y := PySem.W.makes_of (M := model X.prog X.w) I.kIn hm
  refine wpAny_call (make_map0 I.kIn hm hi (fun self => PySem.W.Looks.of_pure (PySem.W.oi_bind self)) ?_)
  have e2 : ((s.heap.push PySem.W.emptyDict).push (PySem.W.instObj C s.heap.objs.size)).get? (s.heap.objs.size + 1) = some (PySem.W.instObj C s.heap.objs.size) := by
    have z := Heap.get?_push_size (s.heap.push PySem.W.emptyDict) (o := PySem.W.instObj C s.heap.objs.size) rfl
    rwa [Heap.size_push] at z
  have t1 : PySem.W.Looks (model X.prog X.w) ((s.heap.push PySem.W.emptyDict).push (PySem.W.instObj C s.heap.objs.size)) (typeOf (.ref (s.heap.objs.size + 1))) (.ref C) := (PySem.W.Looks.ld e2).andThen .now
  have t2 : PySem.W.Looks (model X.prog X.w) ((s.heap.push PySem.W.emptyDict).push (PySem.W.instObj C s.heap.objs.size)) (isInstance (.ref (s.heap.objs.size + 1)) (.type "object")) true :=
    t1.andThen (Y.top.keeps fun b o e => Heap.get?_push_of_some _ (Heap.get?_push_of_some _ e))
  refine codeAny_call_builtin PySem.W.oi_plain PySem.W.entry_oi (@PySem.W.check_slot (model X.prog X.w) _ _ _ "object.__init__" "object" "__init__" (.ref (s.heap.objs.size + 1)) [] [] _ PySem.W.oi_kind PySem.W.oi_split t2 (PySem.W.oi_args _) ?_)
  rw [PySem.W.oi_run]
  exact wpAny_pure (And.intro rfl ⟨V.ref _, _, I2, rfl, q⟩)
end
/-! ### a def of the text keeps its promise -/
section
variable {P : Program} {w : World} {K : PySem.W.Frag} {mg : Str → Option Value} {base : Heap} {x qual : Str} {a : Arguments} {b : List Stmt} {sc : Scope} {dv : List V} {f : Addr} {fd : FuncData} {N ps : List Str} {k : Nat} {sp : Sp}
theorem fnok (F : FunD K x qual a b sc dv [] f fd) (S : FnScope N ps sc) (len : ∀ vs H Q E, sp vs H Q E → vs.length = ps.length)
    (body : ∀ (cdv : Value) (A : Around) (outer : List Env) (s : Shared) (H : Hp) (vs : List V) (Q : VK) (E : XK), Room k (A.deeper (envOfC qual sc s.heap.objs.size f cdv)) → sp vs H Q E →
      ∃ t, PSs (cxOf CX0 P w K mg base N qual sc f cdv A outer s H E).nox b t ∧ t { nx := fun _ H' => Q .non H', rt := Q } (start N vs) H) : FnOk P w K mg base CX0 (k + 1) f fd ps sp :=
  F.ok S len fun cdv A outer s H vs Q E hr h => let ⟨t, d, q⟩ := body cdv A outer s H vs Q E hr h; ⟨t, d.nox, q⟩
end
/-! ### heaps: all but p is kept -/
def Kp (p : Addr) (H H' : Hp) : Prop := ∀ a o, a ≠ p → H a = some o → H' a = some o
theorem Kp.refl {p : Addr} {H : Hp} : Kp p H H := fun _ _ _ h => h
theorem Kp.trans {p : Addr} {H H1 H2 : Hp} (a : Kp p H H1) (b : Kp p H1 H2) : Kp p H H2 := fun c o n h => b c o n (a c o n h)
theorem Kp.at {p : Addr} {H H' : Hp} {o : HO} (a : Kp p H H') : Kp p H (upd H' p o) := fun c u n h => by rw [upd_ne n]; exact a c u n h
theorem Kp.new {p q : Addr} {H H' : Hp} {o : HO} (a : Kp p H H') (h : H' q = none) : Kp p H (upd H' q o) := fun c u n e => by
  rw [upd_ne (ne_of_none (a c u n e) h)]; exact a c u n e
theorem Kp.rd {p a : Addr} {H H' : Hp} {u : HO} (k : Kp p H H') (n : a ≠ p) (h : Rd H a u) : Rd H' a u := h.elim (fun h => .inl (k _ _ n h)) fun ⟨o, h⟩ => .inr ⟨o, k _ _ n h⟩
theorem Kp.sl {K : PySem.W.Frag} {p a : Addr} {H H' : Hp} {xs : List V} (k : Kp p H H') (n : a ≠ p) (h : SqL K H a xs) : SqL K H' a xs := h.elim (fun h => .inl (k.rd n h)) .inr
theorem Kp.st {K : PySem.W.Frag} {p a : Addr} {H H' : Hp} {xs : List V} (k : Kp p H H') (n : a ≠ p) (h : SqT K H a xs) : SqT K H' a xs := h.elim (fun h => .inl (k.rd n h)) .inr
theorem sz1 {n : Nat} (h : n ≤ 100000) : n ≤ sizeLine := Nat.le_trans h (by decide)
theorem sz2 {n : Nat} (h : n ≤ 100000) : n < sizeLine := Nat.lt_of_le_of_lt h (by decide)
theorem log_of {i : Int} (h : i.natAbs < 2 ^ 1000) : i.natAbs.log2 < 1920 := Nat.lt_of_lt_of_le (PySem.Flt.log2_lt_of (by decide) h) (by decide)
/-! ### texts -/
theorem app_len (a b : Str) : (a ++ b).length = a.length + b.length := by
  show (a.cps ++ b.cps).size = a.cps.size + b.cps.size
  exact Array.size_append
theorem emp_app (a : Str) : Str.empty ++ a = a := by
  show (⟨#[] ++ a.cps⟩ : Str) = a
  rw [Array.empty_append]
theorem app_assoc (a b c : Str) : a ++ b ++ c = a ++ (b ++ c) := by
  show (⟨a.cps ++ b.cps ++ c.cps⟩ : Str) = ⟨a.cps ++ (b.cps ++ c.cps)⟩
  rw [Array.append_assoc]
/-! ### tests -/
theorem tT {c A B : Prop} [Decidable c] (h : c) (a : A) : if decide c = true then A else B := by
  rw [decide_eq_true h]; exact iteT a
theorem tF {c A B : Prop} [Decidable c] (h : ¬ c) (b : B) : if decide c = true then A else B := by
  rw [decide_eq_false h]; exact iteF b
theorem uT {c A B : Prop} [Decidable c] (h : ¬ c) (a : A) : if (!decide c) = true then A else B := by
  rw [decide_eq_false h]; exact iteT a
theorem uF {c A B : Prop} [Decidable c] (h : c) (b : B) : if (!decide c) = true then A else B := by
  rw [decide_eq_true h]; exact iteF b
theorem bT {b : Bool} {A B : Prop} (h : b = true) (a : A) : if b = true then A else B := by rw [h]; exact iteT a
theorem bF {b : Bool} {A B : Prop} (h : b = false) (a : B) : if b = true then A else B := by rw [h]; exact iteF a
theorem dC {c A B : Prop} [Decidable c] (hT : c → A) (hF : ¬ c → B) : if decide c = true then A else B := by
  by_cases h : c
  · exact tT h (hT h)
  · exact tF h (hF h)
theorem uC {c A B : Prop} [Decidable c] (hT : ¬ c → A) (hF : c → B) : if (!decide c) = true then A else B := by
  by_cases h : c
  · exact uF h (hF h)
  · exact uT h (hT h)
theorem bC {b : Bool} {A B : Prop} (hT : b = true → A) (hF : b = false → B) : if b = true then A else B := by
  cases h : b
  · exact iteF (hF h)
  · exact iteT (hT h)
/-! ### attributes -/
theorem fl1 {f : Str} {v : V} {fs : List (Str × V)} : (putF f v fs).lookup f = some v := by rw [lookup_putF, if_pos rfl]
theorem fl2 {f g : Str} {v : V} {fs : List (Str × V)} {o : Option V} (h : ¬ g = f) (e : fs.lookup g = o) : (putF f v fs).lookup g = o := by rw [lookup_putF, if_neg h, e]
theorem fn0 : ([] : List (Str × V)).length < 1000 := by decide
theorem fnS {f : Str} {v : V} {fs : List (Str × V)} (h : fs.length < 900) : (putF f v fs).length < 1000 := by
  have := length_putF f v fs; omega
theorem fs0 : ([] : List (Str × V)).length < 900 := by decide
theorem fs1 {f : Str} {v : V} {fs : List (Str × V)} (h : fs.length < 800) : (putF f v fs).length < 900 := by
  have := length_putF f v fs; omega
end Cm
namespace Cm
open PySem PySem.Spec PyProof.Rows L2
/-! ### operators, in, len of an instance by its own defs -/
section
open PySem.W
variable {prog : Program} {w : World} {A : Around} {E : Value → Shared → Prop} {s : Shared} {K : PySem.W.Frag} {x y C f : Addr} {ox oy : Obj} {od od' : Option Obj}
theorem bin_same {op : Operator} {Q : Value → Shared → Prop} (X : K.In s.heap) (I : InstAt s.heap x ox C od) (J : InstAt s.heap y oy C od') (hc : selfFirst K C = true)
    (hs : findIn K (.ref C) (PySem.dunder op.info.2) = some (some (.ref f))) (hf : isFn K (.ref f) = true) (h : wpAny (model prog w) A (call (.ref f) [.ref x, .ref y]) (PySem.W.CmpBack Q) E s) :
    wpAny (model prog w) A (binaryOp op (.ref x) (.ref y)) Q E s := by
  obtain ⟨cd, rest, hcd, hm⟩ := ksp_first hc
  rcases hi : op.info with ⟨sym, nm'⟩
  rw [hi] at hs
  dsimp only at hs
  have one := ksp_try X I hs hf h
  obtain ⟨hh, g, d, tt, os⟩ := s
  have L1 : Looks (model prog w) hh (typeOf (.ref x)) (.ref C) := I.type
  have L2 : Looks (model prog w) hh (typeOf (.ref y)) (.ref C) := J.type
  have L3 : Looks (model prog w) hh (fillsNumberSlot (.ref C) nm') true := fills_K X hcd hm hs
  have e1 : (Value.ref C == Value.ref C) = true := beq_self_eq_true _
  simp only [binaryOp, hi]
  refine wpAny_holding (wpAny_bind ?_)
  unfold binaryOp1
  refine wpAny_bind (L1.at (wpAny_bind (L2.at (wpAny_bind (L3.at ?_)))))
  simp only [e1, if_true]
  ksp_lk
  refine wpAny_mono one (fun r s' hr' => ?_) fun _ _ e => e
  obtain ⟨v, rfl, hq⟩ := hr'
  ksp_lk
  exact hq
theorem own_in {v : Value} {Q : Bool → Shared → Prop} (X : K.In s.heap) (I : InstAt s.heap x ox C od) (hs : findIn K (.ref C) "__contains__" = some (some (.ref f))) (hf : isFn K (.ref f) = true)
    (h : wpAny (model prog w) A (call (.ref f) [.ref x, v]) (fun r s' => ∃ b, r = .bool b ∧ Q b s') E s) : wpAny (model prog w) A (contains (.ref x) v) Q E s := by
  have hf2 := beq_iff_eq.mp hf
  unfold contains
  refine wpAny_holding ?_
  show wpAny _ _ (specialOf (.ref x) "__contains__" >>= _) _ _ _
  refine wpAny_bind ?_
  refine wpAny_bind (I.type.here ((looks_findIn X hs).here ?_))
  refine KFB.if_not rfl ?_
  refine wpAny_bind ?_
  unfold callSpecialUnlessNone?
  refine wpAny_bind ?_
  refine wpAny_bind (I.type.here ((looks_findIn X hs).here ?_))
  refine wpAny_holding (wpAny_bind ((bind_fn X _ hf2).here ?_))
  refine KFB.if_not rfl ?_
  refine wpAny_bind (wpAny_mono h (fun r s' z => ?_) fun _ _ e => e)
  obtain ⟨b, rfl, q⟩ := z
  exact wpAny_pure (wpAny_pure q)
end
/-! ### the same over the layer -/
section
variable {X : Cx} {j k : Nat} {m : Str}
def rOwnBin (P : Program) (w : World) (K : PySem.W.Frag) (mg : Str → Option Value) (base : Heap) (k : Nat) (m : Str) : R2 := fun x y H Q =>
  ∃ a b C dx dy fs gs sp, x = .ref a ∧ y = .ref b ∧ H a = some (.ins C dx fs) ∧ H b = some (.ins C dy gs) ∧ PySem.W.selfFirst K C = true ∧ MCal P w K mg base k C m sp ∧ sp [x, y] H Q E0
theorem op_ownBin {op : Operator} (hm : m = PySem.dunder op.info.2) (hr : Room j X.A) (hk : k ≤ j) : OpR X (binaryOp op) (rOwnBin X.prog X.w X.K X.mg X.base k m) := by
  intro pins s σ H x y v u Q I rx ry h
  obtain ⟨a, b', C, dx, dy, fs, gs, sp, ex, ey, ha, hb, hc, ⟨c, f, fd, ps, F, b, M⟩, q⟩ := h
  subst ex ey hm
  cases (show v = Value.ref a from rx)
  cases (show u = Value.ref b' from ry)
  obtain ⟨mA, O, _⟩ := ins_get I.hok ha
  obtain ⟨od, J, _⟩ := O.look
  obtain ⟨mB, O', _⟩ := ins_get I.hok hb
  obtain ⟨od', J', _⟩ := O'.look
  refine bin_same I.kIn J J' hc M.at_ M.fn ?_
  refine wpAny_mono (run_fn (us := [.ref a, .ref b']) (vs := [.ref a, .ref b']) F (hr.mono hk) b .nil pass0 I (.cons rfl (.cons rfl .nil)) q) ?_ fun _ _ z => z
  rintro r s' ⟨z, H', I', rz, qz⟩
  exact SlX.cmpback rz ⟨z, H', I', rz, qz⟩
def rOwnIn (P : Program) (w : World) (K : PySem.W.Frag) (mg : Str → Option Value) (base : Heap) (k : Nat) (neg : Bool) : R2 := fun x y H Q =>
  ∃ a C dx fs sp, y = .ref a ∧ H a = some (.ins C dx fs) ∧ MCal P w K mg base k C "__contains__" sp ∧ sp [y, x] H (fun z H' => ∃ b, z = .bl b ∧ Q (.bl (if neg then !b else b)) H') E0
theorem op_ownIn (hr : Room j X.A) (hk : k ≤ j) : OpR X (compareOp .In) (rOwnIn X.prog X.w X.K X.mg X.base k false) := by
  intro pins s σ H x y v u Q I rx ry h
  obtain ⟨a, C, dx, fs, sp, ey, ha, ⟨c, f, fd, ps, F, b, M⟩, q⟩ := h
  subst ey
  cases (show u = Value.ref a from ry)
  obtain ⟨mA, O, _⟩ := ins_get I.hok ha
  obtain ⟨od, J, _⟩ := O.look
  refine wpAny_bind (own_in I.kIn J M.at_ M.fn ?_)
  refine wpAny_mono (run_fn (us := [.ref a, v]) (vs := [.ref a, x]) F (hr.mono hk) b .nil pass0 I (.cons rfl (.cons rx .nil)) q) ?_ fun _ _ z => z
  rintro r s' ⟨z, H', I', rz, b, ez, qz⟩
  subst ez
  cases (show r = Value.bool b from rz)
  exact ⟨b, rfl, wpAny_pure ⟨.bl b, H', I', rfl, qz⟩⟩
theorem op_ownNotIn (hr : Room j X.A) (hk : k ≤ j) : OpR X (compareOp .NotIn) (rOwnIn X.prog X.w X.K X.mg X.base k true) := by
  intro pins s σ H x y v u Q I rx ry h
  obtain ⟨a, C, dx, fs, sp, ey, ha, ⟨c, f, fd, ps, F, b, M⟩, q⟩ := h
  subst ey
  cases (show u = Value.ref a from ry)
  obtain ⟨mA, O, _⟩ := ins_get I.hok ha
  obtain ⟨od, J, _⟩ := O.look
  refine wpAny_bind (own_in I.kIn J M.at_ M.fn ?_)
  refine wpAny_mono (run_fn (us := [.ref a, v]) (vs := [.ref a, x]) F (hr.mono hk) b .nil pass0 I (.cons rfl (.cons rx .nil)) q) ?_ fun _ _ z => z
  rintro r s' ⟨z, H', I', rz, b, ez, qz⟩
  subst ez
  cases (show r = Value.bool b from rz)
  exact ⟨b, rfl, wpAny_pure ⟨.bl (!b), H', I', rfl, qz⟩⟩
end
/-! ### len(x) by an own __len__ -/
section
variable {X : Cx} {j k : Nat}
theorem run_in {A' : Around} {pins : List (Addr × Obj)} {σ : L2.St} {H : Hp} {s : Shared} {Q : VK} {f : Addr} {fd : FuncData} {ps : List Str} {sp : Sp} {us : List Value} {vs : List V} (F : FnOk X.prog X.w X.K X.mg X.base CX0 k f fd ps sp) (hr : Room k A')
    (e0 : Env0 X.prog X.w X.K X.mg X.base A' X.stack s H) (hb : Binds X.K fd ps []) (I : Inv X pins σ H s) (r : Vals vs us) (h : sp vs H Q E0) : wpAny (model X.prog X.w) A' (call (.ref f) us) (EP X pins σ Q) X.xe s := by
  have hl : (us ++ []).length = ps.length := by rw [List.append_nil, ← r.length]; exact F.len _ _ _ _ h
  have b2 := hb s us I.kIn hl
  rw [List.append_nil] at b2
  refine wpAny_call (codeAny_mono (F.run A' X.stack s H ⟨us, []⟩ us vs Q E0 hr e0 b2 r h) fun r s2 z => ?_)
  match r, z with
  | .error e, z => exact (pass0 (X := X)) pins σ H s e s2 I z
  | .ok (.ret u), z => exact I.after z
  | .ok .next, z => exact (show False from z).elim
  | .ok .brk, z => exact (show False from z).elim
  | .ok .cont, z => exact (show False from z).elim
theorem call_ownLen (hr : Room j X.A) (hk : k + 1 ≤ j) : CallR X (.builtin "len") (fun xs H Q => ∃ a C dx fs sp, xs = [.ref a] ∧ H a = some (.ins C dx fs) ∧ MCal X.prog X.w X.K X.mg X.base k C "__len__" sp ∧ sp [.ref a] H (fun z H' => ∃ i : Int, z = .int i ∧ 0 ≤ i ∧ i < 2 ^ 63 ∧ Q (.int i) H') E0) := by
  intro pins s σ H xs us Q I r h
  obtain ⟨a, C, dx, fs, sp, rfl, ha, ⟨c, f, fd, ps, F, b, M⟩, q⟩ := h
  obtain ⟨u, rfl, e⟩ := vals1 r
  cases (show u = Value.ref a from e)
  obtain ⟨mA, O, _⟩ := ins_get I.hok ha
  obtain ⟨od, J, _⟩ := O.look
  refine PySem.Calls.call_function_entry PySem.kind_len PySem.plain_len PySem.entry_len (PySem.args_len1 _) ?_
  unfold Builtin.«len»
  refine wpAny_bind (m := oneArg "len" _) (wpAny_pure ?_)
  refine wpAny_bind (PySem.W.special_fn I.kIn J M.at_ (beq_iff_eq.mp M.fn) ?_)
  refine wpAny_mono (run_in (us := [.ref a]) (vs := [.ref a]) F (hr.mono hk).in1 I.env0.in1 b I (.cons rfl .nil) q) ?_ fun _ _ z => z
  rintro r s2 ⟨z, H', I', rz, i, ez, i0, i1, qz⟩
  subst ez
  obtain ⟨t, rfl⟩ := (show ∃ t, r = Value.int i t from rz)
  refine wpAny_bind (wpAny_holding (wpAny_pure ?_))
  refine wpAny_bind (wpAny_letGo ?_)
  show wpAny _ _ (if i < 0 then _ else _) _ _ _
  rw [if_neg (by omega)]
  show wpAny _ _ (if i ≥ 2 ^ 63 then _ else _) _ _ _
  rw [if_neg (by omega)]
  exact wpAny_bind (wpAny_mkInt (wpAny_pure ⟨_, rfl, ⟨.int i, H', I'.tok _, ⟨_, rfl⟩, qz⟩⟩))
end
/-! ### str(x) by an own __str__ -/
section
open PySem.W PySem.Calls
variable {prog : Program} {w : World} {A : Around} {E : Value → Shared → Prop} {s : Shared} {K : PySem.W.Frag} {x C f : Addr} {ox : Obj} {od : Option Obj}
theorem strOf_own {A : Around} {Q : Value → Shared → Prop} (hu : A.units < cLine) (X : K.In s.heap) (I : InstAt s.heap x ox C od) (hs : findIn K (.ref C) "__str__" = some (some (.ref f))) (hf : isFn K (.ref f) = true)
    (h : wpAny (model prog w) A (call (.ref f) [.ref x]) (fun r s' => ∃ y u, r = .str y u ∧ Q r s') E s) : wpAny (model prog w) A (PySem.Builtin.Str.strOf (.ref x)) (fun r s' => ∃ y u, r = .str y u ∧ Q r s') E s := by
  unfold PySem.Builtin.Str.strOf
  rw [show PySem.Builtin.Str.isExactStr (.ref x) = false from rfl]
  refine wpAny_bind (m := cRoomFor _ _) (wpAny_cRoomFor hu ?_)
  refine wpAny_bind (special_fn X I hs (beq_iff_eq.mp hf) (wpAny_mono h (fun r s2 z => ?_) fun _ _ y => y))
  obtain ⟨y, u, rfl, q⟩ := z
  exact wpAny_pure ⟨y, u, rfl, q⟩
theorem str_own {Q : Value → Shared → Prop} (hu : A.in1.in1.units < cLine) (X : K.In s.heap) (I : InstAt s.heap x ox C od) (hs : findIn K (.ref C) "__str__" = some (some (.ref f))) (hf : isFn K (.ref f) = true)
    (h : wpAny (model prog w) A.in1.in1 (call (.ref f) [.ref x]) (fun r s' => ∃ y u, r = .str y u ∧ Q r s') E s) : wpAny (model prog w) A (call (.type "str") [.ref x]) Q E s := by
  have one := strOf_own (A := A.in1.in1) hu X I hs hf h
  refine callType_codes (T := "str") (Bi := PySem.Builtin.«object.__init__») (Q₁ := fun r t => ∃ y u, r = .str y u ∧ Q r t) PySem.F.called_str (PySem.F.typeCall_str_1 _) PySem.F.entry_object_init (codeAny_of_tree ?_) ?_
  · show wpAny _ A.in1.in1 (do checkBuiltinCall "str.__new__" ⟨[.type "str", .ref x], []⟩; again (.builtin "str.__new__" ⟨[.type "str", .ref x], []⟩)) _ _ s
    refine wpAny_bind (wpAny_of_eq (PySem.F.newCall_str_1 _) (wpAny_pure ⟨PySem.plainId_quiet (by decide +kernel) _, codeAny_builtin PySem.F.entry_str_new ?_⟩))
    rw [Around.under_plainId (by decide +kernel) _, PySem.str_new_tree]
    refine wpAny_bind (wpAny_pure (wpAny_bind (wpAny_of_eq PySem.isSubtype_str_str ?_)))
    exact wpAny_bind (wpAny_mono one (fun r t z => wpAny_pure z) fun _ _ y => y)
  · rintro obj t ⟨y, u, rfl, q⟩
    exact ⟨typeIs_str _ _ _, PySem.F.args_object_init_2 _ _, PySem.object_init_meets PySem.F.called_str.init.lookup PySem.F.called_str.made (by decide) prog w A.in1 _ t ⟨typeIs_str _ _ _, rfl, q⟩⟩
end
section
variable {X : Cx} {j k : Nat}
theorem call_ownStr (hr : Room j X.A) (hk : k + 2 ≤ j) : CallR X (.type "str") (fun xs H Q => ∃ a C dx fs sp, xs = [.ref a] ∧ H a = some (.ins C dx fs) ∧ MCal X.prog X.w X.K X.mg X.base k C "__str__" sp ∧ sp [.ref a] H (fun z H' => ∃ y, z = .str y ∧ Q (.str y) H') E0) := by
  intro pins s σ H xs us Q I r h
  obtain ⟨a, C, dx, fs, sp, rfl, ha, ⟨c, f, fd, ps, F, b, M⟩, q⟩ := h
  obtain ⟨u, rfl, e⟩ := vals1 r
  cases (show u = Value.ref a from e)
  obtain ⟨mA, O, _⟩ := ins_get I.hok ha
  obtain ⟨od, J, _⟩ := O.look
  have r2 : Room k X.A.in1.in1 := (show Room (k + 1) X.A.in1 from Room.in1 (hr.mono hk)).in1
  refine str_own (by have := r2.units; omega) I.kIn J M.at_ M.fn ?_
  refine wpAny_mono (run_in (us := [.ref a]) (vs := [.ref a]) F r2 I.env0.in1.in1 b I (.cons rfl .nil) q) ?_ fun _ _ z => z
  rintro r s2 ⟨z, H', I', rz, y, ez, qz⟩
  subst ez
  obtain ⟨t, rfl⟩ := (show ∃ t, r = Value.str y t from rz)
  exact ⟨y, t, rfl, .str y, H', I', ⟨t, rfl⟩, qz⟩
end
end Cm
namespace Cm
open PySem PySem.Spec PyProof.Rows
open L2 hiding Same
/-! ### iter(t) as a value; list(x) of an own __iter__ that answers it -/
def ItT (t it : Addr) (i : Nat) : HO := .ext fun h => h.IsTupleIter it t i
def ItD (it : Addr) : HO := .ext fun h => ∃ o, h.get? it = some o
section
variable {P : Program} {w : World} {H : Hp} {h : Heap} {t it : Addr} {i : Nat}
theorem itT_ok (e : h.IsTupleIter it t i) : ObjOk P w H h it (ItT t it i) :=
  ⟨e, let ⟨o, ho, _⟩ := e; ⟨o, ho⟩, fun h1 h2 q k => Heap.IsTupleIter.at q fun o e => k o e⟩
theorem itD_ok (e : ∃ o, h.get? it = some o) : ObjOk P w H h it (ItD it) := ⟨e, e, fun h1 h2 ⟨o, q⟩ k => ⟨o, k o q⟩⟩
end
section
variable {X : Cx} {pins : List (Addr × Obj)} {σ : L2.St} {H : Hp} {s : Shared} {t it q a : Addr} {i : Nat} {zs : List V}
theorem itT_get (I : Inv X pins σ H s) (e : H it = some (ItT t it i)) : s.heap.IsTupleIter it t i := (I.hok it _ e).1
def rIterT (K : PySem.W.Frag) : List V → Hp → VK → Prop := fun xs H Q => ∃ t zs, xs = [V.ref t] ∧ SqT K H t zs ∧ ∀ it, H it = none → Q (.ref it) (upd H it (ItT t it 0))
theorem call_iterT : CallR X (.builtin "iter") (rIterT X.K) := by
  intro pins s σ H xs us Q I r h
  obtain ⟨t, zs, rfl, hq, q⟩ := h
  obtain ⟨u, rfl, ru⟩ := vals1 r
  cases (show u = Value.ref t from ru)
  obtain ⟨its, rv, pl, hz⟩ := I.tuple hq
  refine Calls.call_function_entry (by decide +kernel) (by decide +kernel) PySem.W.kdk_entry_iter (PySem.W.kdk_args_iter _) ?_
  unfold Builtin.«iter»
  refine wpAny_bind (m := someArgs "iter" 1 2 _) (wpAny_of_eq (a := [Value.ref t]) (by first | rfl | kernel_rfl!) ?_)
  show wpAny _ _ (pyIter (.ref t) >>= _) _ _ _
  refine wpAny_bind (wpAny_pyIter_tuple pl ?_)
  exact wpAny_pure ⟨_, rfl, ⟨.ref s.heap.objs.size, _, I.laid (t' := s.toks) (fun b u e => Heap.get?_push_of_some _ e) (Nat.le_refl _) (itT_ok ⟨_, Heap.get?_push_size _ rfl, rfl, rfl⟩), rfl, q _ (I.hok.fresh (Nat.le_refl _))⟩⟩
theorem next_end {prog : Program} {w : World} {A : Around} {E : Value → Shared → Prop} {items} {Q : Option Value → Shared → Prop} (hh : A.handled = none)
    (hit : s.heap.IsTupleIter it t i) (ht : s.heap.IsTuple t items) (hx : items[i]? = none)
    (hQ : ∀ h', Heap.ExtBut it s.heap h' → (∃ o, h'.get? it = some o) → Q none { s with heap := h' }) : wpAny (model prog w) A (pyNext (.ref it)) Q E s := by
  obtain ⟨o, ho, hc, hd⟩ := id hit
  obtain ⟨ol, hol, _, nl, hdl⟩ := ht
  unfold pyNext
  refine wpAny_bind (wpAny_attempt (wpAny_callSpecial?_slot (name := Str.ofString "__next__") hit.typeIs F.slot_tuple_iterator_next
    (wpAny_call_entry F.slot_tuple_iterator_next hit.typeIs F.entry_tuple_iterator_next ?_ (F.args_tuple_iterator_next_1 _))))
  show wpAny _ _ (field (.ref it) 0 >>= _) _ _ s
  refine wpAny_bind (wpAny_field ho hd (x := .ref t) rfl ?_)
  show wpAny _ _ (if (Value.ref t == Value.none) = true then _ else _) _ _ s
  rw [if_neg (show ¬ ((Value.ref t == Value.none) = true) from Bool.false_ne_true)]
  show wpAny _ _ (field (.ref it) 1 >>= _) _ _ s
  refine wpAny_bind (wpAny_field ho hd (x := .int i 0) rfl ?_)
  show wpAny _ _ (seqItems? (.ref t) >>= _) _ _ s
  refine wpAny_bind (wpAny_seqItems hol hdl ?_)
  simp only [Int.toNat_natCast, hx]
  refine wpAny_bind (wpAny_rule (wpAny_bind (wpAny_setField ho hd (by simp) ?_)))
  show wpAny _ _ (newExc (.type "StopIteration") [] >>= _) _ _ _
  refine wpAny_bind ?_
  simp only [newExc, newTuple]
  refine wpAny_bind (wpAny_newObj_type ?_ (by size_fits))
  refine wpAny_bind (m := firstArgMember _ _) (wpAny_of_eq (a := Value.none) (by first | rfl | (simp only [firstArgMember]; rfl)) ?_)
  refine wpAny_newObj_type ?_ (by size_fits)
  simp only [raiseNew]
  refine wpAny_bind (wpAny_handled ?_)
  first | rw [show A.in1.handled = none from hh] | rw [hh]
  refine wpAny_bind (wpAny_pure (wpAny_throw ?_))
  refine wpAny_bind (wpAny_isInstance (T := "StopIteration") (b := true) ⟨_, Heap.get?_push_size _ rfl, rfl⟩ isSubtype_stop ?_)
  exact wpAny_pure (hQ _ (((Heap.SameBut.update ..).extBut.push _).push _) ⟨_, Heap.get?_push_of_some _ (Heap.get?_push_of_some _ (Heap.get?_update_self _ ho (Obj.isFreed_of_fields (Obj.data_mapFields hd _))))⟩)
theorem upd_two {H : Hp} {it q : Addr} {a b c d : HO} (n : it ≠ q) : upd (upd (upd (upd H it a) q b) q c) it d = upd (upd H q c) it d := by
  funext x
  by_cases h1 : x = it
  · rw [h1, upd_same, upd_same]
  · by_cases h2 : x = q
    · rw [h2, upd_ne (Ne.symm n), upd_same, upd_ne (Ne.symm n), upd_same]
    · rw [upd_ne h1, upd_ne h2, upd_ne h2, upd_ne h1, upd_ne h1, upd_ne h2]
theorem tup_ne (I : Inv X pins σ H s) (h : SqT X.K H t zs) (e : H it = some (ItT t it i)) : t ≠ it := by
  obtain ⟨its, rv, ⟨o, ho, hc, _⟩, _⟩ := I.tuple h
  obtain ⟨o2, ho2, hc2, _⟩ := itT_get I e
  intro z
  rw [z, ho2] at ho
  cases ho
  rw [hc2] at hc
  exact absurd (Value.type.inj hc) (by decide)
theorem tup_neL {xs : List V} (I : Inv X pins σ H s) (h : SqT X.K H t zs) (e : H q = some (.lst xs)) : t ≠ q := by
  obtain ⟨its, rv, ⟨o, ho, hc, _⟩, _⟩ := I.tuple h
  obtain ⟨_, its2, n, _, _, ho2⟩ := I.lstM e
  intro z
  rw [z, ho2] at ho
  cases ho
  exact absurd (Value.type.inj hc) (by decide)
theorem tupit_loop {A1 : Around} {Rs : Result → Shared → Prop} (hh : A1.in1.handled = none) : ∀ (k i : Nat) (H : Hp) (s : Shared), zs.length - i = k → i ≤ zs.length → Inv X pins σ H s → H q = some (.lst (zs.take i)) → H it = some (ItT t it i) → SqT X.K H t zs → it ≠ q →
    (∀ s', Inv X pins σ (upd (upd H q (.lst zs)) it (ItD it)) s' → Rs (.ok (.ret .none)) s') → codeAny (model X.prog X.w) A1 (.builtin "list.extend.loop" ⟨[.ref q, .ref it, .none], []⟩) Rs s := by
  intro k
  induction k with
  | zero =>
    intro i H s hk hi I hq hit ht hne hd
    have ei : i = zs.length := by omega
    subst ei
    refine codeAny_builtin PySem.F.entry_extend_loop ?_
    rw [Around.under_plainId PySem.F.plain_extend_loop _]
    show wpAny _ A1.in1 (pyNext (.ref it) >>= _) _ _ s
    obtain ⟨its, rv, pl, hz⟩ := I.tuple ht
    refine wpAny_bind (next_end hh (itT_get I hit) pl (by rw [List.getElem?_toArray]; exact rv.none_of (List.getElem?_eq_none (Nat.le_refl _))) fun h' eb ho => ?_)
    have J := I.write (t' := s.toks) (x := it) (e := it) (o := ItD it) (h' := h') (by rw [hit]; exact True.intro) (.inl rfl) (fun b o hb e => eb b o hb e) ho (itD_ok ho)
    refine wpAny_pure (hd _ ?_)
    have e1 : upd H q (.lst zs) = H := by
      funext x
      by_cases hx : x = q
      · rw [hx, upd_same, hq, List.take_length]
      · rw [upd_ne hx]
    rw [e1]
    exact J
  | succ k ih =>
    intro i H s hk hi I hq hit ht hne hd
    have hi2 : i < zs.length := by omega
    refine codeAny_builtin PySem.F.entry_extend_loop ?_
    rw [Around.under_plainId PySem.F.plain_extend_loop _]
    show wpAny _ A1.in1 (pyNext (.ref it) >>= _) _ _ s
    obtain ⟨its, rv, pl, hz⟩ := I.tuple ht
    have tne := tup_ne I ht hit
    have tnq := tup_neL I ht hq
    obtain ⟨u, hu, ru⟩ := rv.get (List.getElem?_eq_getElem hi2)
    refine wpAny_bind (wpAny_pyNext_tuple_item (itT_get I hit) pl (x := u) (by rw [List.getElem?_toArray]; exact hu) fun h' st' sb => ?_)
    have J := I.write (t' := s.toks) (x := it) (e := it) (o := ItT t it (i + 1)) (h' := h') (by rw [hit]; exact True.intro) (.inl rfl) (fun b o hb e => (sb.2 b hb).trans e) (let ⟨o, ho, _⟩ := st'; ⟨o, ho⟩) (itT_ok st')
    have hq2 : upd H it (ItT t it (i + 1)) q = some (.lst (zs.take i)) := by rw [upd_ne (Ne.symm hne)]; exact hq
    show wpAny _ A1.in1 (updateSeq q (·.push u) >>= _) _ _ _
    obtain ⟨z, its2, n, r2, hl, e⟩ := J.lstM hq2
    have hzl : zs.length ≤ sizeLine := by
      have := rv.length
      omega
    refine wpAny_bind (wpAny_updateSeq e rfl (wpAny_pure ⟨plainId_quiet PySem.F.plain_extend_loop _, ?_⟩) (by rw [List.size_toArray]; omega) (by show (its2.toArray.push u).size ≤ sizeLine + 1; rw [Array.size_push, List.size_toArray]; omega))
    have hlt : (zs.take i ++ [zs[i]]).length ≤ sizeLine := by
      rw [List.length_append, List.length_take, List.length_singleton]; omega
    have J2 := J.lset (f := (·.push u)) (its' := its2 ++ [u]) (t' := s.toks) (ys := zs.take i ++ [zs[i]]) hq2 e (by simp) (r2.append (.cons ru .nil)) hlt
    have et : zs.take i ++ [zs[i]] = zs.take (i + 1) := by rw [List.take_succ, List.getElem?_eq_getElem hi2]; rfl
    rw [et] at J2
    have st2 : SqT X.K (upd (upd H it (ItT t it (i + 1))) q (.lst (zs.take (i + 1)))) t zs := by
      have k1 : Kp it H (upd H it (ItT t it (i + 1))) := Kp.refl.at
      have k2 : Kp q (upd H it (ItT t it (i + 1))) (upd (upd H it (ItT t it (i + 1))) q (.lst (zs.take (i + 1)))) := Kp.refl.at
      exact k2.st tnq (k1.st tne ht)
    refine ih (i + 1) _ _ (by omega) (by omega) J2 upd_same (by rw [upd_ne hne, upd_same]) st2 hne fun s' I' => hd s' ?_
    rw [upd_two hne] at I'
    exact I'
end
section
variable {X : Cx} {pins : List (Addr × Obj)} {σ : L2.St} {H : Hp} {s : Shared} {a C dx : Addr} {k : Nat} {fs : List (Str × V)}
theorem run_inE {A' : Around} {Q : VK} {E : Value → Shared → Prop} {f : Addr} {fd : FuncData} {ps : List Str} {sp : Sp} {us : List Value} {vs : List V} (F : FnOk X.prog X.w X.K X.mg X.base CX0 k f fd ps sp) (hr : Room k A')
    (e0 : Env0 X.prog X.w X.K X.mg X.base A' X.stack s H) (hb : Binds X.K fd ps []) (I : Inv X pins σ H s) (r : Vals vs us) (h : sp vs H Q E0) : wpAny (model X.prog X.w) A' (call (.ref f) us) (EP X pins σ Q) E s := by
  have hl : (us ++ []).length = ps.length := by rw [List.append_nil, ← r.length]; exact F.len _ _ _ _ h
  have b2 := hb s us I.kIn hl
  rw [List.append_nil] at b2
  refine wpAny_call (codeAny_mono (F.run A' X.stack s H ⟨us, []⟩ us vs Q E0 hr e0 b2 r h) fun r s2 z => ?_)
  match r, z with
  | .error e, z => exact (show False from z).elim
  | .ok (.ret u), z => exact I.after z
  | .ok .next, z => exact (show False from z).elim
  | .ok .brk, z => exact (show False from z).elim
  | .ok .cont, z => exact (show False from z).elim
/-- len(x) by an own __len__, under another around -/
theorem len_in {A' : Around} {sp : Sp} {E : Value → Shared → Prop} (hr : Room k A'.in1) (fr : A'.frames = X.A.frames) (I : Inv X pins σ H s) (ha : H a = some (.ins C dx fs)) (M : MCal X.prog X.w X.K X.mg X.base k C "__len__" sp)
    (q : sp [.ref a] H (fun z H2 => H2 = H ∧ ∃ n : Nat, z = .int n ∧ n ≤ 1000) E0) {Q : Value → Shared → Prop} (h : ∀ (n : Nat) t s', n ≤ 1000 → Inv X pins σ H s' → Q (.int n t) s') :
    wpAny (model X.prog X.w) A' (call (.builtin "len") [.ref a]) Q E s := by
  obtain ⟨c, f, fd, ps, F, b, M⟩ := M
  obtain ⟨mA, O, _⟩ := ins_get I.hok ha
  obtain ⟨od, J, _⟩ := O.look
  have e0 : Env0 X.prog X.w X.K X.mg X.base A'.in1 X.stack s H := by
    have e := I.env0
    exact ⟨fr.trans e.frames, e.mod, e.bs, e.bsz, e.funs, e.frf, e.hok, e.bare⟩
  refine PySem.Calls.call_function_entry PySem.kind_len PySem.plain_len PySem.entry_len (PySem.args_len1 _) ?_
  unfold Builtin.«len»
  refine wpAny_bind (m := oneArg "len" _) (wpAny_pure ?_)
  refine wpAny_bind (PySem.W.special_fn I.kIn J M.at_ (beq_iff_eq.mp M.fn) ?_)
  refine wpAny_mono (run_inE (us := [.ref a]) (vs := [.ref a]) F hr e0 b I (.cons rfl .nil) q) ?_ fun _ _ z => z
  rintro r s2 ⟨z, H', I', rz, eH, n, ez, hn⟩
  subst ez eH
  obtain ⟨t, rfl⟩ := (show ∃ t, r = Value.int (n : Nat) t from rz)
  refine wpAny_bind (wpAny_holding (wpAny_pure ?_))
  refine wpAny_bind (wpAny_letGo ?_)
  show wpAny _ _ (if ((n : Nat) : Int) < 0 then _ else _) _ _ _
  rw [if_neg (by omega)]
  show wpAny _ _ (if ((n : Nat) : Int) ≥ 2 ^ 63 then _ else _) _ _ _
  rw [if_neg (by omega)]
  exact wpAny_bind (wpAny_mkInt (wpAny_pure ⟨_, rfl, h n _ _ hn (I'.tok _)⟩))
theorem hint_in {A' : Around} {sp : Sp} {E : Value → Shared → Prop} (hr : Room k A'.in1) (fr : A'.frames = X.A.frames) (I : Inv X pins σ H s) (ha : H a = some (.ins C dx fs)) (M : MCal X.prog X.w X.K X.mg X.base k C "__len__" sp)
    (q : sp [.ref a] H (fun z H2 => H2 = H ∧ ∃ n : Nat, z = .int n ∧ n ≤ 1000) E0) {Q : Bool → Shared → Prop} (hQ : ∀ b s', Inv X pins σ H s' → Q b s') :
    wpAny (model X.prog X.w) A' (Builtin.List.listLengthHint (.ref a)) Q E s := by
  obtain ⟨c, f, fd, ps, F, b, Mt⟩ := id M
  obtain ⟨mA, O, _⟩ := ins_get I.hok ha
  obtain ⟨od, J, _⟩ := O.look
  unfold Builtin.List.listLengthHint
  refine wpAny_bind (wpAny_bind (J.type.here ((PySem.W.looks_findIn I.kIn Mt.at_).here ?_)))
  refine PySem.W.KFB.if_not rfl ?_
  refine PySem.W.KFB.if_so rfl ?_
  refine wpAny_bind (wpAny_rule ?_)
  refine wpAny_bind (wpAny_attempt (len_in hr fr I ha M q (fun n t s' hn I' => ?_)))
  refine wpAny_bind (wpAny_pure ?_)
  show wpAny _ _ (if Builtin.List.listTooLong ((n : Nat) : Int).toNat = true then _ else _) _ _ _
  rw [if_neg (by rw [Int.toNat_natCast, notLongL (by rw [sizeLine_eq]; omega)]; decide)]
  exact wpAny_pure (hQ _ _ I')
/-- the iterator that an own __iter__ answers -/
def rOwnT (P : Program) (w : World) (K : PySem.W.Frag) (mg : Str → Option Value) (base : Heap) (k : Nat) : List V → Hp → VK → Prop := fun xs H Q =>
  ∃ a C dx fs spI spL, xs = [V.ref a] ∧ H a = some (.ins C dx fs) ∧ MCal P w K mg base k C "__iter__" spI ∧ MCal P w K mg base k C "__len__" spL ∧
    ∀ q, H q = none → spI [.ref a] (upd H q (.lst [])) (fun v H' => ∃ it t zs, v = .ref it ∧ it ≠ q ∧ H' it = some (ItT t it 0) ∧ SqT K H' t zs ∧ H' q = some (.lst []) ∧ H' a = some (.ins C dx fs) ∧
      spL [.ref a] H' (fun z H2 => H2 = H' ∧ ∃ n : Nat, z = .int n ∧ n ≤ 1000) E0 ∧ Q (.ref q) (upd (upd H' q (.lst zs)) it (ItD it))) E0
theorem own_extT {A1 : Around} {Rs : Result → Shared → Prop} {q : Addr} {Q : VK} {spI spL : Sp} (hh : A1.in1.handled = none) (hr : Room k A1.in1) (hr2 : Room k A1.in1.in1) (fr : A1.frames = X.A.frames)
    (MI : MCal X.prog X.w X.K X.mg X.base k C "__iter__" spI) (ML : MCal X.prog X.w X.K X.mg X.base k C "__len__" spL)
    (I : Inv X pins σ H s) (ha : H a = some (.ins C dx fs)) (hq : H q = some (.lst []))
    (sp : spI [.ref a] H (fun v H' => ∃ it t zs, v = .ref it ∧ it ≠ q ∧ H' it = some (ItT t it 0) ∧ SqT X.K H' t zs ∧ H' q = some (.lst []) ∧ H' a = some (.ins C dx fs) ∧
      spL [.ref a] H' (fun z H2 => H2 = H' ∧ ∃ n : Nat, z = .int n ∧ n ≤ 1000) E0 ∧ Q (.ref q) (upd (upd H' q (.lst zs)) it (ItD it))) E0)
    (hdone : ∀ H' s', Inv X pins σ H' s' → Q (.ref q) H' → Rs (.ok (.ret .none)) s') :
    wpAny (model X.prog X.w) A1.in1 (Builtin.List.listExtendWith (.ref q) (.ref a) .none)
      (fun fin s' => match fin with | .done f => Rs (.ok f) s' | .again c' => c'.quiet = true ∧ codeAny (model X.prog X.w) A1 c' Rs s') (fun e s' => Rs (.error e) s') s := by
  have hne : q ≠ a := ne_of hq ha (fun z => nomatch z)
  obtain ⟨mA, O, _⟩ := ins_get I.hok ha
  obtain ⟨od, J, _⟩ := O.look
  obtain ⟨m0, hF⟩ := I.fr
  obtain ⟨c, f, fd, ps, F, b, M⟩ := MI
  unfold Builtin.List.listExtendWith
  refine wpAny_bind (J.type.here ?_)
  have h1 : Builtin.List.listSameRef (.ref q) (.ref a) = false := by simp [Builtin.List.listSameRef, hne]
  have h2 : (Value.ref C == Value.type "list") = false := rfl
  have h3 : (Value.ref C == Value.type "tuple") = false := rfl
  simp only [h1, h2, h3, Bool.or_false, Bool.false_eq_true, if_false]
  refine wpAny_bind (PySem.W.owit_iter hF I.ok.mod.kin J M.at_ M.fn ?_)
  have e0 : Env0 X.prog X.w X.K X.mg X.base A1.in1 X.stack s H := by
    have e := I.env0
    exact ⟨fr.trans e.frames, e.mod, e.bs, e.bsz, e.funs, e.frf, e.hok, e.bare⟩
  refine wpAny_mono (run_inE (us := [.ref a]) (vs := [.ref a]) F hr e0 b I (.cons rfl .nil) sp) ?_ fun _ _ z => z
  rintro r s2 ⟨z, H', I', rz, it, t, zs, ez, hnq, hit, ht, hq', ha', hl, qd⟩
  subst ez
  cases (show r = Value.ref it from rz)
  have ti := (itT_get I' hit).typeIs
  unfold PySem.W.OwitIt
  refine wpAny_specialOf (name := Str.ofString "__next__") ti PySem.F.slot_tuple_iterator_next.lookup ?_
  show wpAny _ A1.in1 (holding [Value.ref it] (Builtin.List.listLengthHint (.ref a)) >>= _) _ _ _
  refine wpAny_bind (wpAny_holding (hint_in (A' := A1.in1) hr2 fr I' ha' ML hl fun bb s3 I3 => ?_))
  obtain ⟨z, its, kk, r3, hl3, e3⟩ := I3.lstM hq'
  cases r3
  have go : ∀ s4, Inv X pins σ H' s4 → codeAny (model X.prog X.w) A1 (.builtin "list.extend.loop" ⟨[.ref q, .ref it, .none], []⟩) Rs s4 := fun s4 I4 =>
    tupit_loop hh zs.length 0 H' s4 (Nat.sub_zero _) (Nat.zero_le _) I4 (by rw [List.take_zero]; exact hq') hit ht hnq fun s' I5 => hdone _ s' I5 qd
  refine wpAny_ite_split (fun _ => ?_) (fun _ => wpAny_pure ⟨plainId_quiet PySem.F.plain_extend_loop _, go _ I3⟩)
  refine wpAny_bind (wpAny_rule ?_)
  refine wpAny_bind ?_
  show wpAny _ _ (updateSeq q (·.push .none) >>= fun _ => updateSeq q (·.pop)) _ _ _
  refine wpAny_bind (wpAny_updateSeq e3 rfl ?_)
  have I2 := I3.lset (f := (·.push Value.none)) (its' := [Value.none]) (ys := [.non]) (t' := s3.toks) hq' e3 (by simp) (.cons rfl .nil) (by rw [List.length_singleton, sizeLine_eq]; decide)
  obtain ⟨z4, its4, k4, r4, hl4, e4⟩ := I2.lstM upd_same
  obtain ⟨u4, rfl, ru4⟩ := r4.one
  refine wpAny_updateSeq e4 rfl ?_ (by show 1 ≤ sizeLine; rw [sizeLine_eq]; decide) (by show 0 ≤ sizeLine + 1; exact Nat.zero_le _)
  refine wpAny_pure ⟨plainId_quiet PySem.F.plain_extend_loop _, go _ ?_⟩
  have I5 := I2.lset (f := (·.pop)) (its := [u4]) (its' := []) (ys := []) (t' := s3.toks) upd_same e4 (by rfl) .nil (Nat.zero_le _)
  rw [upd_upd] at I5
  have hH : upd H' q (.lst []) = H' := by
    funext x
    by_cases hb : x = q
    · rw [hb, upd_same, hq']
    · rw [upd_ne hb]
  rw [hH] at I5
  exact I5
theorem call_listOwnT {j : Nat} (hc : X.calm = true) (hr : Room j X.A) (hk : k + 3 ≤ j) : CallR X (.type "list") (rOwnT X.prog X.w X.K X.mg X.base k) := by
  intro pins s σ H xs us Q I rv h
  obtain ⟨a, C, dx, fs, spI, spL, rfl, ha, MI, ML, hq⟩ := h
  obtain ⟨u, rfl, ru⟩ := vals1 rv
  cases (show u = Value.ref a from ru)
  have sb : Sub X (k + 1) X.A.in1.in1 := Sub.in1 (Sub.in1 (⟨hr.mono hk, rfl⟩ : Sub X (k + 3) X.A))
  have sb2 : Sub X k X.A.in1.in1.in1 := Sub.in1 sb
  refine callType_codes (Q₁ := fun obj s₁ => obj = .ref s.heap.objs.size ∧ s₁ = { s with heap := s.heap.push { cls := .type "list", data := .seq #[] } }) PySem.F.called_list (PySem.F.typeCall_list_1 _) PySem.F.entry_list_init
    (code_list_new _ ⟨rfl, rfl⟩) fun obj s₁ h₁ => ?_
  obtain ⟨rfl, rfl⟩ := h₁
  have hS : (s.heap.push { cls := .type "list", data := .seq #[] }).get? s.heap.objs.size = some { cls := .type "list", data := .seq #[] } := Heap.get?_push_size _ rfl
  refine ⟨⟨_, hS, rfl⟩, PySem.F.args_list_init_2 _ _, ?_⟩
  have fr : H s.heap.objs.size = none := I.hok.fresh (Nat.le_refl _)
  have I1 : Inv X pins σ (upd H s.heap.objs.size (.lst [])) { s with heap := s.heap.push { cls := .type "list", data := .seq #[] } } := I.lnew (its := []) (t' := s.toks) .nil (Nat.zero_le _)
  show wpAny _ _ (do let old ← Builtin.List.listItems (.ref s.heap.objs.size); Builtin.List.listUpdate (.ref s.heap.objs.size) (fun _ => #[]); letGo old.toList.reverse; Builtin.List.listExtendWith (.ref s.heap.objs.size) (.ref a) .none) _ _ _
  refine wpAny_bind ?_
  unfold Builtin.List.listItems
  refine wpAny_bind (wpAny_seqItems hS rfl (wpAny_pure ?_))
  show wpAny _ _ (updateSeq s.heap.objs.size (fun _ => #[]) >>= fun _ => letGo (#[] : Array Value).toList.reverse >>= fun _ => Builtin.List.listExtendWith (.ref s.heap.objs.size) (.ref a) .none) _ _ _
  refine wpAny_bind (wpAny_updateSeq hS rfl ?_)
  have I2 := I1.lset (f := fun _ => #[]) (its := []) (its' := []) (ys := []) (t' := s.toks) upd_same hS rfl .nil (Nat.zero_le _)
  rw [upd_upd] at I2
  refine wpAny_bind (wpAny_letGo ?_)
  have ha2 : upd H s.heap.objs.size (.lst []) a = some (.ins C dx fs) := by rw [upd_ne (ne_of_none ha fr)]; exact ha
  exact own_extT (A1 := X.A.in1) (Rs := wants (fun r s₂ => r = .none ∧ EP X pins σ Q (.ref s.heap.objs.size) s₂) X.xe) (I.ok.hd hc) (sb.room.mono (Nat.le_succ _)) sb2.room rfl MI ML I2 ha2 upd_same (hq _ fr)
    fun H' s' I' hR => ⟨rfl, .ref s.heap.objs.size, H', I', rfl, hR⟩
end
end Cm
namespace Cm
open PySem PySem.Spec PyProof.Rows L2 PySem.W
/-! ### max(ints, default=d) -/
theorem alike_ints (ns : List Int) : AlikeAll (ns.map PyData.int) := by
  constructor
  · intro x hx y hy
    obtain ⟨i, _, rfl⟩ := List.mem_map.mp hx
    obtain ⟨j, _, rfl⟩ := List.mem_map.mp hy
    rfl
  · intro x hx e
    obtain ⟨i, _, rfl⟩ := List.mem_map.mp hx
    cases e
theorem depth_ints : ∀ ns : List Int, PyData.depthAll (ns.map PyData.int) = 0
  | [] => rfl
  | n :: ns => by
    show max (PyData.depth (.int n)) (PyData.depthAll (ns.map PyData.int)) = 0
    rw [depth_ints ns]; rfl
theorem dpAll_ints {K : PySem.W.Frag} {H : Hp} : ∀ ns : List Int, DpAll K H (ns.map V.int) (ns.map PyData.int)
  | [] => .nil
  | n :: ns => .cons (.int n) (dpAll_ints ns)
theorem foldmax (n : Int) : ∀ ns : List Int, ns.foldl max n ∈ n :: ns ∧ ∀ k ∈ n :: ns, k ≤ ns.foldl max n
  | [] => ⟨List.mem_cons_self, fun k hk => by simp at hk; subst hk; exact Int.le_refl _⟩
  | m :: ns => by
    obtain ⟨h1, h2⟩ := foldmax (max n m) ns
    refine ⟨?_, fun k hk => ?_⟩
    · rcases List.mem_cons.mp h1 with e | e
      · rw [List.foldl_cons, e]
        by_cases c : n ≤ m
        · rw [show max n m = m from by omega]; simp
        · rw [show max n m = n from by omega]; simp
      · rw [List.foldl_cons]; exact List.mem_cons_of_mem _ (List.mem_cons_of_mem _ e)
    · rw [List.foldl_cons]
      have h3 := h2 (max n m) List.mem_cons_self
      rcases List.mem_cons.mp hk with e | e
      · omega
      · rcases List.mem_cons.mp e with e | e
        · omega
        · exact h2 k (List.mem_cons_of_mem _ e)
section
variable {X : Cx}
theorem call_maxD (hc : X.calm = true) (hu : X.A.units + 64 < cLine) : CallRK X (.builtin "max") [Str.ofString "default"] (fun vs zs H Q => ∃ (a : Addr) (ns : List Int) (d : V), vs = [V.ref a] ∧ zs = [d] ∧ SqL X.K H a (ns.map V.int) ∧
    (ns = [] → Q d H) ∧ ∀ m, m ∈ ns → (∀ n ∈ ns, n ≤ m) → Q (.int m) H) := by
  intro pins s σ H vs zs us ws Q I r rz h
  obtain ⟨a, ns, d, rfl, rfl, hs, q0, q1⟩ := h
  obtain ⟨u, rfl, e⟩ := vals1 r
  cases (show u = Value.ref a from e)
  obtain ⟨w1, rfl, e1⟩ := vals1 rz
  obtain ⟨its, rv, hl, hz⟩ := I.list hs
  obtain ⟨as, hr⟩ := Dp.readsAll I (ns.map PyData.int) _ its (dpAll_ints ns) rv
  refine max_list_default (vs := its.toArray) (I.ok.hd hc) hl.isList (by simpa using hr) (alike_ints ns) (by rw [depth_ints]; omega) (fun e h' tk k => ?_) (fun y ys i v h' tk bs e hi rd k => ?_)
  · exact ⟨d, H, I.kept k, e1, q0 (by simpa using e)⟩
  · cases ns with
    | nil => cases e
    | cons n ns =>
      obtain ⟨rfl, rfl⟩ : PyData.int n = y ∧ ns.map PyData.int = ys := by simpa using e
      rw [maxD_ints] at rd
      obtain ⟨m1, m2⟩ := foldmax n ns
      cases rd with
      | int _ t => exact ⟨.int (ns.foldl max n), H, I.kept k, ⟨t, rfl⟩, q1 _ m1 m2⟩
end
/-! ### heaps -/
def Same (H H' : Hp) : Prop := ∀ a o, H a = some o → H' a = some o
theorem Same.refl (H : Hp) : Same H H := fun _ _ h => h
theorem Same.trans {H H1 H2 : Hp} (a : Same H H1) (b : Same H1 H2) : Same H H2 := fun c o h => b c o (a c o h)
theorem Same.new {H : Hp} {p : Addr} {o : HO} (h : H p = none) : Same H (upd H p o) := fun c u e => by rw [upd_ne (ne_of_none e h)]; exact e
theorem Same.mut {H H' : Hp} {p : Addr} {o : HO} (s : Same H H') (h : H p = none) : Same H (upd H' p o) := fun c u e => by rw [upd_ne (ne_of_none e h)]; exact s c u e
theorem Same.free {H H' : Hp} {p : Addr} (s : Same H H') (h : H' p = none) : H p = none := by
  cases e : H p with
  | none => rfl
  | some o => rw [s _ _ e] at h; cases h
theorem Same.kp {H H' : Hp} {p : Addr} (s : Same H H') : Kp p H H' := fun a o _ h => s a o h
theorem Same.sl {K : PySem.W.Frag} {a : Addr} {H H' : Hp} {xs : List V} (k : Same H H') (h : SqL K H a xs) : SqL K H' a xs :=
  h.elim (fun h => .inl (h.elim (fun h => .inl (k _ _ h)) fun ⟨o, h⟩ => .inr ⟨o, k _ _ h⟩)) .inr
theorem kmut {H H' : Hp} {p q : Addr} {o : HO} (s : Kp p H H') (h : H q = none) : Kp p H (upd H' q o) := fun c u n e => by rw [upd_ne (ne_of_none e h)]; exact s c u n e
theorem kfree {H H' : Hp} {p q : Addr} (s : Kp p H H') (n : q ≠ p) (h : H' q = none) : H q = none := by
  cases e : H q with
  | none => rfl
  | some o => rw [s _ _ n e] at h; cases h
def IntOk (i : Int) : Prop := i.natAbs ≤ 4000000000
theorem io {m : Int} (h : m.natAbs ≤ 4000000000) : IntOk m := h
/-! ### the pool -/
def PoolAt (K : PySem.W.Frag) (sa : Addr) (sx : List Int) (H : Hp) (p : Addr) : Prop :=
  ∃ (i b s : Int), H p = some (.lst [V.ref sa, V.int i, V.int b, V.int s]) ∧ (sa ≠ p ∨ ∀ H', SqL K H' sa (sx.map V.int)) ∧ SqL K H sa (sx.map V.int) ∧ 0 ≤ i ∧ 0 ≤ b ∧ 0 ≤ s ∧ s < 2147483647
section
variable {K : PySem.W.Frag} {sa : Addr} {sx : List Int}
theorem pool_new {H : Hp} {p q : Addr} {o : HO} (hP : PoolAt K sa sx H p) (hq : H q = none) : PoolAt K sa sx (upd H q o) p := by
  obtain ⟨i, b, s, hp, na, hS, r⟩ := hP
  refine ⟨i, b, s, ?_, na, ?_, r⟩
  · rw [upd_ne (ne_of_none hp hq)]; exact hp
  · exact na.elim (fun n => Kp.sl (p := p) (Kp.refl.new hq) n hS) (fun z => z _)
theorem pool_ne {H : Hp} {p q : Addr} (hP : PoolAt K sa sx H p) (hq : H q = none) : q ≠ p := by
  obtain ⟨i, b, s, hp, _⟩ := hP
  exact (ne_of_none hp hq).symm
theorem sq_new {H : Hp} {a q : Addr} {xs : List V} (h : SqL K H a xs) (hq : H q = none) : a ≠ q ∨ ∀ H', SqL K H' a xs :=
  h.elim (fun r => .inl (r.elim (fun e => ne_of_none e hq) fun ⟨o, e⟩ => ne_of_none e hq)) fun r => .inr fun H' => .inr r
theorem pool_fresh {H : Hp} {p q : Addr} (hP : PoolAt K sa sx H p) (hq : H q = none) : sa ≠ q ∨ ∀ H', SqL K H' sa (sx.map V.int) := by
  obtain ⟨_, _, _, _, _, hS, _⟩ := hP
  exact sq_new hS hq
theorem pool_upd {H : Hp} {p D : Addr} {o : HO} (hP : PoolAt K sa sx H p) (nD : D ≠ p) (hd : sa ≠ D ∨ ∀ H', SqL K H' sa (sx.map V.int)) : PoolAt K sa sx (upd H D o) p := by
  obtain ⟨i, b, s, hp, na, hS, r⟩ := hP
  refine ⟨i, b, s, (upd_ne nD.symm).trans hp, na, ?_, r⟩
  rcases hd with n | z
  · refine hS.elim (fun q => .inl ?_) .inr
    exact q.elim (fun e => .inl ((upd_ne n).trans e)) fun ⟨o', e⟩ => .inr ⟨o', (upd_ne n).trans e⟩
  · exact z _
theorem pool_same {H H' : Hp} {p : Addr} (hP : PoolAt K sa sx H p) (s : Same H H') : PoolAt K sa sx H' p := by
  obtain ⟨i, b, s', hp, na, hS, r⟩ := hP
  exact ⟨i, b, s', s _ _ hp, na, s.sl hS, r⟩
/-- a list of ints is not the pool -/
theorem pool_int {H : Hp} {p a : Addr} {ns : List Int} (hP : PoolAt K sa sx H p) (ha : H a = some (.lst (ns.map V.int))) : a ≠ p := by
  rintro rfl
  obtain ⟨i, b, s, hp, _⟩ := hP
  rw [ha] at hp
  cases ns with
  | nil => cases hp
  | cons n ns => cases hp
theorem pool_tup {H : Hp} {p a : Addr} {xs : List V} (hP : PoolAt K sa sx H p) (ha : H a = some (.tup xs)) : a ≠ p := by
  rintro rfl
  obtain ⟨i, b, s, hp, _⟩ := hP
  rw [ha] at hp
  cases hp
theorem wd {m : Int} (h0 : 0 < m) (h : IntOk m) : CDivW 0 m := wide_div h0 (b := 40) (Nat.lt_of_le_of_lt h (by decide)) (by decide) (by decide)
end
/-! ### ints in lists -/
theorem at_int {ns : List Int} {i : Nat} (h : i < ns.length) : atI (ns.map V.int) ((i : Nat) : Int) = some (.int ns[i]) := atI_nat (by rw [List.getElem?_map, List.getElem?_eq_getElem h]; rfl)
theorem at_int' {ns : List Int} {k : Int} (h0 : 0 ≤ k) (h : k.toNat < ns.length) : atI (ns.map V.int) k = some (.int ns[k.toNat]) := by
  have e : k = ((k.toNat : Nat) : Int) := by omega
  exact (congrArg (atI (ns.map V.int)) e).trans (at_int h)
theorem map_at {ns : List Int} {i : Nat} {x : V} (h : (ns.map V.int)[i]? = some x) : ∃ hi : i < ns.length, x = .int ns[i] := by
  rw [List.getElem?_map] at h
  cases e : ns[i]? with
  | none => rw [e] at h; cases h
  | some n =>
    rw [e] at h
    obtain ⟨hi, e2⟩ := List.getElem?_eq_some_iff.mp e
    exact ⟨hi, by rw [e2]; exact (Option.some.inj h).symm⟩
theorem flat_ints (ns : List Int) : (ns.map V.int).all flatV = true := by
  rw [List.all_eq_true]
  intro x hx
  obtain ⟨i, _, rfl⟩ := List.mem_map.mp hx
  rfl
theorem inV_ints (n : Int) (ns : List Int) : inV (.int n) (ns.map V.int) = decide (n ∈ ns) := by
  unfold inV
  rw [List.any_map]
  apply Bool.eq_iff_iff.mpr
  rw [List.any_eq_true, decide_eq_true_iff]
  exact ⟨fun ⟨x, hx, e⟩ => by have e2 : x = n := by simpa [eqV] using e
                              subst e2; exact hx, fun h => ⟨n, h, by simp [eqV]⟩⟩
theorem tru_ints {K : PySem.W.Frag} {H : Hp} {a : Addr} {ns : List Int} (h : H a = some (.lst (ns.map V.int))) : TruV K (.ref a) H (!ns.isEmpty) :=
  .inl ⟨_, SqL.of h, by cases ns <;> rfl⟩
/-- a test by a list's truth -/
theorem lC {ns : List Int} {A B : Prop} (hT : ns ≠ [] → A) (hF : ns = [] → B) : if (!ns.isEmpty) = true then A else B := by
  cases ns with
  | nil => exact iteF (hF rfl)
  | cons n ns => exact iteT (hT (by simp))
end Cm
namespace Cm
open PySem PySem.Spec PyProof.Rows
open L2 hiding Same
open NdefX
/-! ### super().__init__(e) in the __init__ of an own error over ValueError -/
section
open PySem.W PySem.Calls
variable {prog : Program} {w : World} {A : Around} {E : Value → Shared → Prop} {h : Heap} {g : Array GenState} {d : Drawn} {t : Nat} {os : OsState}
/-- the bound ValueError.__init__, called: the args are laid anew -/
theorem call_mw {u e C t0 : Addr} {rest : List Value} {Q : Value → Shared → Prop} {nm q : Str} {N : Addr} {bs bm : List Value} {hdct : Bool} {sn : List Str} {sub : List Value} {ab : Bool} {col : Option Bool} {dd : Option Addr} {k0 k1 k2 k3 k5 : Option Value}
    (hC : h.get? C = some (excClassObj nm q C N bs bm hdct sn sub ab col dd k0 k1 k2 k3 k5 "ValueError.__new__")) (he : h.get? e = some ({ cls := .ref C, dict := none, data := .fields #[.ref t0, .none, .none, .none, .bool false, .none] } : Obj))
    (hu : h.get? u = some (kxs_mw "ValueError.__init__" e)) (hz : rest.length ≤ sizeLine)
    (hq : ∀ h' t1, (∀ b o, b ≠ e → h.get? b = some o → h'.get? b = some o) → h'.get? e = some ({ cls := .ref C, dict := none, data := .fields #[.ref t1, .none, .none, .none, .bool false, .none] } : Obj) → Q .none ⟨h', g, d, t, os⟩) :
    wpAny (model prog w) A (call (.ref u) rest) Q E ⟨h, g, d, t, os⟩ := by
  refine wpAny_call (codeAny_of_tree ?_)
  show wpAny _ A.in1 (callAny (.ref u) ⟨rest, []⟩) _ _ _
  simp only [callAny]
  refine wpAny_bind (wpAny_load hu ?_)
  simp only [kxs_mw, show (Value.type "method-wrapper" == Value.type "method" || Value.type "method-wrapper" == Value.type "builtin_function_or_method" || Value.type "method-wrapper" == Value.type "method-wrapper") = true by decide, if_true]
  refine KFB.if_so (by decide) ?_
  refine wpAny_bind (check_bound_init F.excBase_ValueError.toExcCallFacts hC he rfl ?_)
  refine wpAny_bind (wpAny_pure (wpAny_pure ?_))
  refine ⟨plainId_quiet F.excBase_ValueError.init.plain _, codeAny_builtin F.excBase_ValueError.initEntry ?_⟩
  exact exc_init_tree (cls := .ref C) (t0 := t0) (dv := none) (c2 := .none) (c3 := .none) (b4 := .bool false) he hz fun h' k e' t' => hq h' _ k e'
end
theorem inv_pin {X : Cx} {σ : L2.St} {H : Hp} {s : Shared} {u : Addr} {o : Obj} (I : Inv X [] σ H s) (hu : s.heap.get? u = some o) (hH : H u = none) (nl : u ≠ X.env.locals) (nf : u ∉ X.fs) (nc : ∀ v, o.data ≠ .cell v) : Inv X [(u, o)] σ H s := by
  refine ⟨I.ok, I.os, I.bare, I.base, I.loc, I.cell, I.free, I.freeC, fun p hp => ?_, I.hok, I.len⟩
  rcases List.mem_append.mp hp with hp | hp
  · exact I.pin p (List.mem_append.mpr (.inl hp))
  · have e : p = (u, o) := by simpa using hp
    subst e
    exact ⟨hu, hH, nl, nf, nc⟩
/-- the __init__ of the class at C: what the written part says -/
structure SupC (P : Program) (K : PySem.W.Frag) (mg : Str → Option Value) (C f cc c : Addr) (x qual : Str) (params : Arguments) (body : List Stmt) (scope : Scope) (fd : FuncData) : Prop where
  fdE : ∃ (dV kV doc pm : Value) (an : Option Addr) (ct : Value), fd = PySem.W.fnX x qual params body scope [("__class__", cc)] dV kV doc pm an (.ref c) ct
  lk : ∃ (oc : Value) (od : Option Addr) (osl : Array (Option Value)), K.lookup f = some ⟨oc, od, .func fd, osl⟩
  code : PySem.W.codeIn K (.ref c) qual = true
  file : ∃ (co : Obj) (vs : Array Value) (file : Str) (tf : Tok), K.lookup c = some co ∧ co.data = .fields vs ∧ vs[2]? = some (.str file tf) ∧ ((P.main.file : Str) == file) = true
  cell : ∃ o, K.lookup cc = some o ∧ o.data = .cell (some (.ref C))
  sup : PySem.W.ks_superIn K C C "__init__" = some (some (.builtin "ValueError.__init__"))
  nop : PySem.W.nsIn K cStatics "thirdparty.any" = some none
  sB : PySem.W.subIn K (.ref C) (.type "ValueError") = some true
  sC : PySem.W.mroIn K C (.ref C) = some true
  nS : mg "super" = none
  ex : OexC K C
section
variable {CX : CXT} {P : Program} {w : World} {K : PySem.W.Frag} {mg : Str → Option Value} {base : Heap} {N ps : List Str} {k : Nat} {f C cc c : Addr} {x qual : Str} {params : Arguments} {scope : Scope} {fd : FuncData} {sp : Sp} {rest : List Stmt} {e : Expr} {p0 p1 p2 p3 p4 : Pos} {ar : Arg}
theorem sup_ok (S : SupC P K mg C f cc c x qual params (.Expr (.Call (.Attribute (.Call (.Name "super" p0) [] [] p1) "__init__" p2) [e] [] p3) p4 :: rest) scope fd)
    (NS : NScope N ps ["__class__"] scope) (hks : scope.names.lookup ("super" : Str) = some .globalImplicit) (hp : (params.posonlyargs ++ params.args).head? = some ar) (hp0 : ps[0]? = some ar.arg)
    (htop : (P.main.scope.names.lookup ("super" : Str)).isSome = false) (len : ∀ vs H Q E, sp vs H Q E → vs.length = ps.length)
    (hbody : ∀ (A : Around) (outer : List Env) (s : Shared) (H : Hp) (vs : List V) (Q : VK) (E : XK), Room k (A.deeper (envF ⟨x, qual, params, [], scope, [("__class__", cc)], c⟩ f s.heap.objs.size)) → sp vs H Q E →
      ∃ te tr a, PE (ncx CX P w K mg base N ⟨x, qual, params, [], scope, [("__class__", cc)], c⟩ f A outer s H E) e te ∧ PSs (ncx CX P w K mg base N ⟨x, qual, params, [], scope, [("__class__", cc)], c⟩ f A outer s H E) rest tr ∧ vs[0]? = some (.ref a) ∧ H a = some (exo a C none) ∧
        te (startF N vs [some (.ref C)]) H fun y H1 => ([y] : List V).length ≤ 1 ∧ H1 a = some (exo a C none) ∧ tr { nx := fun _ H' => Q .non H', rt := Q } (startF N vs [some (.ref C)]) H1)
    (hms : ∀ (L : Addr) (env : Env), env = envF ⟨x, qual, params, [], scope, [("__class__", cc)], c⟩ f L → ∃ pl, eval (.Call (.Attribute (.Call (.Name "super" p0) [] [] p1) "__init__" p2) [e] [] p3) env = (do
      let ov ← attributeBase (.Call (.Name "super" p0) [] [] p1) "__init__" env (eval (.Call (.Name "super" p0) [] [] p1) env)
      standAt p2.atName
      let (f, first) ← holding [ov] (getMethod ov "__init__" pl)
      callWith p3 f first (backTo p3 (starEach [e] env)) []) )
    (hsw : ∀ L, swapsWith (.Call (.Attribute (.Call (.Name "super" p0) [] [] p1) "__init__" p2) [e] [] p3) none p4.line (envF ⟨x, qual, params, [], scope, [("__class__", cc)], c⟩ f L) = pure false)
    (hint : ∀ L, interactive (envF ⟨x, qual, params, [], scope, [("__class__", cc)], c⟩ f L) = false)
    (hse : ∀ (L : Addr) (env : Env), env = envF ⟨x, qual, params, [], scope, [("__class__", cc)], c⟩ f L → starEach [e] env = (false, eval e env) :: starEach [] env) :
    FnOk P w K mg base CX (k + 1) f fd ps sp := by
  refine ⟨len, fun A outer s H args us vs Q E hr e0 hb r hsp => ?_⟩
  obtain ⟨dV, kV, doc, pm, an, ct, rfl⟩ := S.fdE
  obtain ⟨oc, od, osl, lk⟩ := S.lk
  have hl := len _ _ _ _ hsp
  have KX : K.In s.heap := e0.mod.kin.keeps fun b o e => (e0.bs b o e).1
  have lim : s.heap.NoLimit := e0.mod.nolimit.keeps fun b o e => (e0.bs b o e).1
  have kH : ∀ {b : Addr} {o : Obj}, K.lookup b = some o → H b = none := fun {b o} z => (e0.bs b o (e0.mod.kin b o z)).2
  refine codeAny_call_function hr.depth (KX _ _ lk) rfl NS.co NS.gen rfl (PySem.W.codeRec_of KX S.code) (hb _ _ _ _ ?_)
  refine wpAny_newFunctionEnv NS.nocell (fun ⟨n, _⟩ hy => NS.par n (List.of_mem_zip hy).1) (fun h₁ hns hsb => ⟨lim.fresh _ hsb, ?_⟩) NS.kind
  show codeAny _ _ (.func _ (envF ⟨x, qual, params, [], scope, [("__class__", cc)], c⟩ f s.heap.objs.size)) _ _
  refine ks_codeAny_funcAt ?_
  have kp : ∀ b o, s.heap.get? b = some o → h₁.get? b = some o := fun b o e => hsb.extBut b o (Nat.ne_of_lt (Heap.lt_size e)) (Heap.get?_push_of_some _ e)
  obtain ⟨te, tr, a, de, dr, hva, haH, hq⟩ := hbody A outer s H vs Q E (hr.deeper _) hsp
  obtain ⟨oc2, lcc, dcc⟩ := S.cell
  have CA : CellsAt [("__class__", cc)] ["__class__"] [some (V.ref C)] s.heap H := by
    refine ⟨rfl, fun y z hy => ?_, fun y z d h1 h2 => ?_, fun i y hi => ?_⟩
    · by_cases e : y = "__class__"
      · subst e
        have : cc = z := by simpa [List.lookup] using hy
        subst this
        exact ⟨kH lcc, _, oc2, KX _ _ lcc, dcc⟩
      · rw [List.lookup_cons, beq_false_of_ne e] at hy; cases hy
    · by_cases e1 : y = "__class__"
      · by_cases e2 : z = "__class__"
        · rw [e1, e2]
        · rw [List.lookup_cons, beq_false_of_ne e2] at h2; cases h2
      · rw [List.lookup_cons, beq_false_of_ne e1] at h1; cases h1
    · cases i with
      | succ i => simp at hi
      | zero =>
        have : y = "__class__" := by simpa using hi.symm
        subst this
        exact ⟨cc, by simp [List.lookup], fun v hv => ⟨.ref C, by cases (Option.some.inj (Option.some.inj hv)); rfl, oc2, KX _ _ lcc, dcc⟩⟩
  have I : Inv (ncx CX P w K mg base N ⟨x, qual, params, [], scope, [("__class__", cc)], c⟩ f A outer s H E) [] (startF N vs [some (V.ref C)]) H { s with heap := h₁, toks := s.toks + (ps.zip us).length } := inv_startN (F := ⟨x, qual, params, [], scope, [("__class__", cc)], c⟩) NS hr.hd e0 hl r CA hns kp
  have hva0 : (startF N vs [some (V.ref C)])[0]? = some (some (V.ref a)) := by
    unfold startF
    have h0 : 0 < vs.length := (List.getElem?_eq_some_iff.mp hva).1
    rw [List.getElem?_append_left (by simpa using h0), List.getElem?_map, hva]; rfl
  obtain ⟨pl, hm⟩ := hms s.heap.objs.size _ rfl
  have hse := hse s.heap.objs.size _ rfl
  obtain ⟨nm, q, N0, bs, bm, sn, sub, ab, col, dd, k0, k1, k2, k3, k5, hC, hbm⟩ := S.ex.cls
  obtain ⟨co, cvs, file, tf, lc, dc, hv2, hfile⟩ := S.file
  have K1 : K.In h₁ := KX.keeps kp
  have e1 : H a = some (exo a C none) := haH
  obtain ⟨t1, hoa⟩ := exo_at I.hok e1
  have hkc : scope.names.lookup ("__class__" : Str) = some .free := NS.frk _ (by simp)
  have hka : scope.names.lookup ar.arg = some .local := NS.par _ (List.mem_of_getElem? hp0)
  refine ks_wpAt_execs_cons (ks_wpAt_Expr_any (ks_wpAt_MethodCall ?_ hm) (hint _) (hsw _))
  refine ks_wpAt_super_base (of := ⟨oc, od, .func (PySem.W.fnX x qual params (.Expr (.Call (.Attribute (.Call (.Name "super" p0) [] [] p1) "__init__" p2) [e] [] p3) p4 :: rest) scope [("__class__", cc)] dV kV doc pm an (.ref c) ct), osl⟩)
    (env := envF ⟨x, qual, params, [], scope, [("__class__", cc)], c⟩ f s.heap.objs.size) hks hkc (by decide +kernel) rfl (K1 _ _ lk) rfl hp rfl (K1 _ _ lc) dc hv2 hfile htop ?_
  obtain ⟨mb, hb1, hb2⟩ := I.mod.blt
  refine PySem.W.ks_loadName_global NS.kind hks (PySem.Calls.loadGlobal_builtin (env := envF ⟨x, qual, params, [], scope, [("__class__", cc)], c⟩ f s.heap.objs.size) (I.mod.glob.keeps I.bk) S.nS (hb1.keeps I.bk) ((hb2 _ (by decide)).trans (by decide +kernel)) ⟨rfl, ?_⟩)
  refine wpAny_loadName_free NS.kind hkc rfl ⟨oc2, K1 _ _ lcc, dcc⟩ ?_
  obtain ⟨m, hnm, hloc⟩ := I.loc
  have hN0 : N[0]? = some ar.arg := by
    have hpre := NS.pre
    have h0 : 0 < ps.length := (List.getElem?_eq_some_iff.mp hp0).1
    have z : (ps ++ [("__class__" : Str)])[0]? = some ar.arg := by rw [List.getElem?_append_left h0]; exact hp0
    rw [← hpre, List.getElem?_take_of_lt (by omega)] at z
    exact z
  obtain ⟨u, ru, hlk⟩ := hloc 0 ar.arg (.ref a) hN0 hva0 (.inl hka)
  obtain rfl : u = Value.ref a := ru
  have hma : m ar.arg = some (.ref a) := by
    rcases hlk with ⟨_, z⟩ | ⟨z, _⟩
    · exact z
    · have z2 : scope.names.lookup ar.arg = some .cell ∨ scope.names.lookup ar.arg = some .free := z
      rw [hka] at z2
      rcases z2 with z2 | z2 <;> cases z2
  refine wpAny_loadName_local NS.kind hka hnm hma ?_
  refine ks_wpAny_isType_cls (K1 _ _ hC) rfl ⟨rfl, ?_⟩
  refine ks_wpAny_call_super (K1 _ _ hC) rfl hoa rfl (fun c e => by cases e) (PySem.W.looks_mroIn K1 S.sC) (fun h₂ hso k2 => ?_)
  · -- the bound __init__
    have I2 := I.kept (t' := s.toks + (ps.zip us).length) k2
    have K2 : K.In h₂ := I2.kIn
    have hcl : PySem.W.clsIn K C = some { name := nm, bases := bs, mro := .ref C :: bm, ns := N0, qualname := q, hasDict := true, slotNames := sn, subclasses := sub, abstract := ab, collection := col, hasDel := false } := by unfold PySem.W.clsIn; rw [hC] <;> rfl
    have hsup := S.sup
    unfold PySem.W.ks_superIn at hsup
    rw [hcl] at hsup
    have IA : PySem.W.InstAt h₂ a ({ cls := .ref C, dict := none, data := .fields #[.ref t1, .none, .none, .none, .bool false, .none] } : Obj) C none := ⟨k2 _ _ hoa, rfl, rfl, trivial⟩
    refine PySem.W.kxs_getMethod PySem.W.kxs_ValueError hso (PySem.W.looks_opaque K2 S.nop) (l₀ := .ref C :: bm) (fun A Q E s k q => wpAny_bind ((PySem.W.looks_clsIn K2 hcl) A _ E s k (wpAny_pure q))) rfl K2 hsup (IA.type.andThen (PySem.W.looks_subIn K2 S.sB)) (PySem.W.ks_ne K2 IA hcl) (by decide +kernel) ?_
    have I3 := I2.kept (t' := s.toks + (ps.zip us).length + 1) (h' := h₂.push (PySem.W.kxs_mw "ValueError.__init__" a)) (fun b o e => Heap.get?_push_of_some _ e)
    have hu : (h₂.push (PySem.W.kxs_mw "ValueError.__init__" a)).get? h₂.objs.size = some (PySem.W.kxs_mw "ValueError.__init__" a) := Heap.get?_push_at rfl rfl
    have Ip := inv_pin I3 hu (I2.hok.fresh (Nat.le_refl _)) (Nat.ne_of_gt I2.lt) (I2.nofs (Nat.le_refl _)) (fun v z => by cases z)
    refine PySem.W.kxs_callWith (i := "ValueError.__init__") (x := a) (by rw [hse]; rfl) ?_
    rw [hse]
    refine PySem.Calls.evalArgs_plain ?_
    have pa : PA (ncx CX P w K mg base N ⟨x, qual, params, [], scope, [("__class__", cc)], c⟩ f A outer s H E) [e] (tCons te tNil) := pa_cons (hs := hse) de pa_nil
    have run := pa.run p3 [(h₂.objs.size, PySem.W.kxs_mw "ValueError.__init__" a)] _ _ H (fun ws H1 => ws.length ≤ 1 ∧ H1 a = some (exo a C none) ∧ tr { nx := fun _ H' => Q .non H', rt := Q } (startF N vs [some (.ref C)]) H1) Ip hq
    have hse2 := hse
    refine thn (Q := AP (ncx CX P w K mg base N ⟨x, qual, params, [], scope, [("__class__", cc)], c⟩ f A outer s H E) [(h₂.objs.size, PySem.W.kxs_mw "ValueError.__init__" a)] (startF N vs [some (V.ref C)]) (fun ws H1 => ws.length ≤ 1 ∧ H1 a = some (exo a C none) ∧ tr { nx := fun _ H' => Q .non H', rt := Q } (startF N vs [some (.ref C)]) H1)) ?_ (fun us' s2 z => ?_)
    · have z := run
      rw [show (ncx CX P w K mg base N ⟨x, qual, params, [], scope, [("__class__", cc)], c⟩ f A outer s H E).env = envF ⟨x, qual, params, [], scope, [("__class__", cc)], c⟩ f s.heap.objs.size from rfl, hse] at z
      exact z
    obtain ⟨ws, H2, J, rw', l1, ha2, q2⟩ := z
    obtain ⟨hus, _⟩ := J.pin (h₂.objs.size, PySem.W.kxs_mw "ValueError.__init__" a) (List.mem_append.mpr (.inr (by simp)))
    refine ⟨hus, ?_⟩
    obtain ⟨t2, hoa2⟩ := exo_at J.hok ha2
    have hlen : us'.length ≤ sizeLine := by
      have := rw'.length
      rw [sizeLine_eq]; omega
    have KJ := J.kIn
    obtain ⟨hp2, g2, d2, tk2, os2⟩ := s2
    refine call_mw (KJ _ _ hC) hoa2 hus (by simpa using hlen) fun h' t1 k' hx => ?_
    have J2 := J.write (t' := tk2) (x := a) (e := a) (o := exo a C none) (by rw [ha2]; exact True.intro) (.inl rfl) k' ⟨_, hx⟩ (exo_ok hx)
    have eu : upd H2 a (exo a C none) = H2 := by
      funext b
      by_cases hb : b = a
      · rw [hb, upd_same, ha2]
      · rw [upd_ne hb]
    rw [eu] at J2
    refine wpAt_of_wpAny ?_
    refine wpAny_mono (dr.run _ _ _ _ _ J2 q2) (fun fl s' hs => ?_) fun e s' hs => hs
    have fin : ∀ {σ' : L2.St} {H' : Hp} {v : V} {u : Value}, Inv (ncx CX P w K mg base N ⟨x, qual, params, [], scope, [("__class__", cc)], c⟩ f A outer s H E) [(h₂.objs.size, PySem.W.kxs_mw "ValueError.__init__" a)] σ' H' s' → L2.RelV v u → Q v H' → CE outer P w H s Q u s' :=
      fun {σ' H' v u} J rv q => ⟨v, H', J.os, J.bare, J.base, J.hok, rv, q⟩
    cases fl with
    | ret u =>
      obtain ⟨v, σ', H', J, rv, q⟩ := hs
      exact fin J rv q
    | next =>
      obtain ⟨σ', H', J, q⟩ := hs
      exact fin (v := V.non) (u := Value.none) J rfl q
    | brk =>
      obtain ⟨_, _, _, q⟩ := hs
      exact False.elim q
    | cont =>
      obtain ⟨_, _, _, q⟩ := hs
      exact False.elim q
end
end Cm
namespace Cm
open PySem PySem.Spec PyProof.Rows
open L2 hiding Same
/-! ### {x!r}, whatever is under way -/
section
open Sem (wp)
theorem list_head_any {M : Model} {A : Around} {E : Value → Shared → Prop} {s : Shared} {Q : Fin → Shared → Prop} {a : Addr} {o : Obj} {x : Value} {l : List Value} {n} {b : Nat}
    (hget : s.heap.get? a = some o) (hd : o.data = .seq (x :: l).toArray n)
    (h2 : ∀ u tk, Q (.done (.ret (.str "[...]" u))) { s with toks := tk })
    (h : wpAny M A (do again (.builtin "list.__repr__.loop" ⟨[.ref a, rawInt 0, ← newList [], rawInt b], []⟩)) Q E s) : wpAny M A (Builtin.listReprAt b ⟨[.ref a], []⟩) Q E s := by
  intro Γ p hΓ
  have h1 := h Γ p hΓ
  have h3 : wpAny M A (do rule "list.__repr__.in-itself"; retStr ("[...]" : Str)) Q E s := by
    refine wpAny_bind (wpAny_rule ?_)
    refine wpAny_bind (wpAny_mkStr (wpAny_pure ?_) (by decide +kernel))
    exact h2 _ _
  have h4 := h3 Γ p hΓ
  unfold Builtin.listReprAt
  simp [slotArgs, Builtin.List.listItems, seqItems?, Sem.wp_load_of (h := hget), hd, PySem.stack]
  show wp M Γ (if (Γ.below.any _) = true then _ else _) _ _ p s
  split
  · exact h4
  · exact h1
end
section
variable {prog : Program} {w : World} {A : Around} {E : Value → Shared → Prop} {s : Shared} {a : Addr} {oa : Obj} {x : Value} {l : List Value} {na : Nat} {ts : List Str}
theorem call_list_any {Q : Value → Shared → Prop} (hTy : s.TypeIs (.ref a) "list")
    (ha : s.heap.get? a = some oa) (hda : oa.data = .seq (x :: l).toArray na) (hlen : ts.length = (x :: l).toArray.size)
    (hT : ∀ (i : Nat) (y : Value), (x :: l).toArray[i]? = some y → ∃ t, ts[i]? = some t ∧ ReprIs prog w y t)
    (hQ : ∀ h' m u tk, m.length ≤ (listText ts).length + 5 → (∀ b o, s.heap.get? b = some o → h'.get? b = some o) → Q (.str m u) { s with heap := h', toks := tk })
    (hsz : (listText ts).length ≤ sizeLine) :
    wpAny (model prog w) A (call (.builtin "list.__repr__") [.ref a]) Q E s := by
  refine wpAny_call (codeAny_call_builtin F.slot_list_repr.plain F.entry_list_repr (F.slot_list_repr.check _ _ _ _ _ _ _ _ hTy (F.args_list_repr_1 _) ?_))
  refine list_head_any (A := A.in1) ha hda (fun u tk => hQ s.heap _ _ _ (Nat.le_trans (by decide +kernel) (Nat.le_add_left _ _)) fun _ _ z => z) ?_
  refine wpAny_bind (m := newList []) (wpAny_newObj_type ?_)
  refine wpAny_pure ⟨F.quiet_list_repr_loop _, ?_⟩
  refine codeAny_list_repr_start (P := s.heap.objs.size) (Nat.ne_of_lt (Heap.lt_size ha)) hlen hT (Heap.get?_push_of_some _ ha) hda (Heap.get?_push_size _ rfl) (fun h' u tk hk => ?_) (by omega)
  exact hQ h' _ u tk (Nat.le_add_right _ _) fun b o e => hk b o (Nat.ne_of_lt (Heap.lt_size e)) (Heap.get?_push_of_some _ e)
end
/-! ### odd values -/
inductive OdK
  | str (z : Str) | non | zero | tru | tup | lst
def OdAt (K : PySem.W.Frag) (H : Hp) (v : V) : OdK → Prop
  | .str z => v = .str z ∧ z.length ≤ 1000 ∧ ∀ c ∈ z.cps.toList, c < 128
  | .non => v = .non
  | .zero => v = .int 0
  | .tru => v = .bl true
  | .tup => ∃ a, v = .ref a ∧ H a = some (.tup [.str "asks"])
  | .lst => ∃ a, v = .ref a ∧ H a = some (.lst [.str "free"])
def tFmtO (K : PySem.W.Frag) (te : TE) : TE := fun σ H Q => te σ H fun x H1 => (∃ k, OdAt K H1 x k) ∧ ∀ m : Str, m.length ≤ 11000 → Q (.str m) H1
theorem small {n : Nat} (h : n ≤ 11000) : n ≤ sizeLine := Nat.le_trans h (by decide)
theorem pe_fmtRO {X : Cx} {e : Expr} {te : TE} {pos : Pos} {k : Nat} (hr : Room k X.A) (he : PE X e te) : PE X (.FormattedValue e 114 none pos) (tFmtO X.K te) := by
  refine ⟨fun pins s σ H Q I h => ?_⟩
  refine wpAny_FormattedValue_repr (thn (he.run pins s σ H _ I h) fun v s1 hv => ?_)
  obtain ⟨x, H1, I1, r1, ⟨k, ho⟩, q⟩ := hv
  have hu := hr.units
  have fin : ∀ (m : Str) (u : Tok) (s2 : Shared), m.length ≤ 11000 → Inv X pins σ H1 s2 → wpAny (model X.prog X.w) X.A (formatField (.str m u) Str.empty) (EP X pins σ Q) X.xe s2 := fun m u s2 hm J =>
    wpAny_formatField_str ⟨.str m, H1, J, ⟨_, rfl⟩, q m hm⟩ ⟨.str m, H1, J.tok _, ⟨_, rfl⟩, q m hm⟩ (small hm)
  cases k with
  | str z =>
    obtain ⟨rfl, hz, hc⟩ := ho
    obtain ⟨t, rfl⟩ := r1
    have h1 := StrLaws.reprText_len z fun c h => Nat.lt_of_lt_of_le (hc c h) (by decide)
    exact pyReprObj_str (fin _ _ _ (by omega) (I1.tok _)) (small (by omega))
  | non =>
    obtain rfl : x = .non := ho
    obtain rfl : v = Value.none := r1
    exact pyReprObj_none (fin _ _ _ (by decide +kernel) (I1.tok _))
  | zero =>
    obtain rfl : x = .int 0 := ho
    obtain ⟨t, rfl⟩ := r1
    exact pyReprObj_int (by decide +kernel) (fin _ _ _ (by decide +kernel) (I1.tok _))
  | tru =>
    obtain rfl : x = .bl true := ho
    obtain rfl : v = Value.bool true := r1
    exact pyReprObj_bool (fin _ _ _ (by decide +kernel) (I1.tok _))
  | tup =>
    obtain ⟨a, rfl, ha⟩ := ho
    obtain rfl : v = Value.ref a := r1
    obtain ⟨its, rv, ⟨o, ho, hcl, n, hd⟩, _⟩ := I1.tuple (SqT.of ha)
    have rv2 : Vals ([("asks" : Str)].map V.str) its := rv
    refine wpAny_pyReprObj_slot (by omega) ⟨o, ho, hcl⟩ F.slot_tuple_repr (fmt_tuple_repr (ts := [("asks" : Str)].map reprText) ho hcl hd (repr_all rv2 fun y hy => ?_) (by decide +kernel) fun m u tk hm => ⟨m, u, rfl, fin m u _ ?_ (I1.tok _)⟩)
    · have e : y = "asks" := by simpa using hy
      rw [e]; decide +kernel
    · have : (tupleText ([("asks" : Str)].map reprText)).length ≤ 100 := by decide +kernel
      omega
  | lst =>
    obtain ⟨a, rfl, ha⟩ := ho
    obtain rfl : v = Value.ref a := r1
    obtain ⟨its, rv, ⟨o, n, ho, hcl, _, hd⟩, _⟩ := I1.list (SqL.of ha)
    obtain ⟨u1, rfl, t, rfl⟩ := vals1 rv
    refine wpAny_pyReprObj_slot (by omega) ⟨o, ho, hcl⟩ F.slot_list_repr.toG (call_list_any (ts := [("free" : Str)].map reprText) ⟨o, ho, hcl⟩ ho hd rfl (fun i y hy => ?_) (fun h' m u tk hm hk => ⟨m, u, rfl, fin m u _ ?_ (I1.kept hk)⟩) (by decide +kernel))
    · cases i with
      | zero =>
        have e : Value.str "free" t = y := by simpa using hy
        subst e
        exact ⟨_, rfl, ReprIs.str "free" t (by decide +kernel)⟩
      | succ i => simp at hy
    · have : (listText ([("free" : Str)].map reprText)).length ≤ 100 := by decide +kernel
      omega
end Cm
namespace Cm
open PySem PySem.Spec PyProof.Rows
open L2 hiding Same
open NdefX
/-! ### what the written part says of an own error's class and of its __init__ -/
def oexB (K : PySem.W.Frag) (C : Addr) : Bool := match K.lookup C with
  | some ⟨.type "type", _, .cls cd, sl⟩ => (match cd.mro, sl.toList with
    | .ref C' :: bm, [_, _, _, _, some (.builtin n), _] => C' == C && n == "ValueError.__new__" && !cd.hasDel && cd.hasDict && PySem.HandSPX.refsVE bm
    | _, _ => false)
  | _ => false
theorem oexB_ok {K : PySem.W.Frag} {C : Addr} (q : oexB K C = true) : ∃ nm q N bs bm sn sub ab col dd k0 k1 k2 k3 k5, K.lookup C = some (excClassObj nm q C N bs bm true sn sub ab col dd k0 k1 k2 k3 k5 "ValueError.__new__") ∧ PySem.HandSPX.refsVE bm = true := by
  unfold oexB at q
  split at q
  · rename_i dd cd sl ho
    split at q
    · rename_i C' bm k0 k1 k2 k3 n k5 hm hs
      simp only [Bool.and_eq_true, beq_iff_eq, Bool.not_eq_true'] at q
      obtain ⟨⟨⟨⟨rfl, rfl⟩, hdel⟩, hd⟩, ht⟩ := q
      obtain ⟨nm, bs, mro, ns, qn, hd', sn, sub, ab, col, del⟩ := cd
      dsimp only at hm hdel hd
      subst hm hdel hd
      have hsl : sl = #[k0, k1, k2, k3, some (.builtin "ValueError.__new__"), k5] := by
        obtain ⟨l⟩ := sl
        simp only at hs
        rw [hs]
      subst hsl
      exact ⟨nm, qn, ns, bs, bm, sn, sub, ab, col, dd, k0, k1, k2, k3, k5, ho, ht⟩
    · cases q
  · cases q
abbrev FnWS : Type := Option (Str × Str × Arguments × FuncBody × Scope × Addr × List Str × Addr)
def fnWS (K : PySem.W.Frag) (f : Addr) : FnWS := match K.lookup f with
  | some ⟨_, _, .func fd, _⟩ => some (fd.name, fd.qualname, fd.params, fd.body, fd.scope, fd.globals, fd.closure.map (·.1), fd.builtins)
  | _ => none
def codeB (file : Str) (K : PySem.W.Frag) (c : Addr) : Bool := match K.lookup c with
  | some o => (match o.data with
    | .fields vs => (match (vs[2]? : Option Value) with
      | some (Value.str f _) => file == f
      | _ => false)
    | _ => false)
  | _ => false
def cellB (K : PySem.W.Frag) (C cc : Addr) : Bool := match K.lookup cc with
  | some o => (match o.data with
    | .cell (some (.ref D)) => D == C
    | _ => false)
  | _ => false
def supB (file : Str) (K : PySem.W.Frag) (C f : Addr) (qual : Str) : Bool := match K.lookup f with
  | some ⟨_, _, .func fd, _⟩ => (match fd.code with
    | .ref c => PySem.W.codeIn K (.ref c) qual && codeB file K c
    | _ => false) && (match fd.closure with
    | [(_, cc)] => cellB K C cc
    | _ => false)
  | _ => false
theorem codeB_ok {file : Str} {K : PySem.W.Frag} {c : Addr} (h : codeB file K c = true) : ∃ (co : Obj) (vs : Array Value) (f : Str) (tf : Tok), K.lookup c = some co ∧ co.data = .fields vs ∧ vs[2]? = some (.str f tf) ∧ (file == f) = true := by
  unfold codeB at h
  split at h
  · rename_i o ho
    split at h
    · rename_i vs hv
      split at h
      · rename_i f t ht
        exact ⟨o, vs, f, t, ho, hv, ht, h⟩
      · cases h
    · cases h
  · cases h
theorem cellB_ok {K : PySem.W.Frag} {C cc : Addr} (h : cellB K C cc = true) : ∃ o, K.lookup cc = some o ∧ o.data = .cell (some (.ref C)) := by
  unfold cellB at h
  split at h
  · rename_i o ho
    split at h
    · rename_i D hD
      have e : D = C := beq_iff_eq.mp h
      subst e
      exact ⟨o, ho, hD⟩
    · cases h
  · cases h
/-- the facts of one own error over ValueError: its class, its __init__ -/
structure ExB (K : PySem.W.Frag) (C f : Addr) : Prop where
  o : oexB K C = true
  sa : PySem.W.findIn K (.ref C) "__setattr__" = some (some (.builtin "object.__setattr__"))
  exC : PySem.W.subIn K (.ref C) (.type "BaseException") = some true
  tyC : PySem.W.typeIn K (.ref C) = some (.type "type")
  kC : PySem.W.keepIn K (.ref C) = true
  iC : PySem.W.findIn K (.ref C) "__init__" = some (some (.ref f))
  tI : PySem.W.typeIn K (.ref f) = some (.type "function")
  sup : PySem.W.ks_superIn K C C "__init__" = some (some (.builtin "ValueError.__init__"))
  nop : PySem.W.nsIn K cStatics "thirdparty.any" = some none
  sB : PySem.W.subIn K (.ref C) (.type "ValueError") = some true
  sC : PySem.W.mroIn K C (.ref C) = some true
  xf : xfB K C = true
  em : PySem.W.exmOne K (.ref C) (.ref C) = some true
  cc : PySem.W.findIn K (.ref C) "__class__" = some (some (.builtin "object.__class__"))
  mo : PySem.W.mroIn K C (.type "object") = some true
def exB (K : PySem.W.Frag) (C f : Addr) : List Bool := [oexB K C,
  decide (PySem.W.findIn K (.ref C) "__setattr__" = some (some (.builtin "object.__setattr__"))),
  decide (PySem.W.subIn K (.ref C) (.type "BaseException") = some true),
  decide (PySem.W.typeIn K (.ref C) = some (.type "type")),
  PySem.W.keepIn K (.ref C),
  decide (PySem.W.findIn K (.ref C) "__init__" = some (some (.ref f))),
  decide (PySem.W.typeIn K (.ref f) = some (.type "function")),
  decide (PySem.W.ks_superIn K C C "__init__" = some (some (.builtin "ValueError.__init__"))),
  decide (PySem.W.nsIn K cStatics "thirdparty.any" = some none),
  decide (PySem.W.subIn K (.ref C) (.type "ValueError") = some true),
  decide (PySem.W.mroIn K C (.ref C) = some true),
  xfB K C,
  decide (PySem.W.exmOne K (.ref C) (.ref C) = some true),
  decide (PySem.W.findIn K (.ref C) "__class__" = some (some (.builtin "object.__class__"))),
  decide (PySem.W.mroIn K C (.type "object") = some true)]
theorem exB_ok {K : PySem.W.Frag} {C f : Addr} (h : (exB K C f).all id = true) : ExB K C f := by
  have g : ∀ (i : Nat) {b : Bool}, (exB K C f)[i]? = some b → b = true := fun i b e => List.all_eq_true.mp h b (List.mem_of_getElem? e)
  exact ⟨g 0 rfl, of_decide_eq_true (g 1 rfl), of_decide_eq_true (g 2 rfl), of_decide_eq_true (g 3 rfl), g 4 rfl, of_decide_eq_true (g 5 rfl), of_decide_eq_true (g 6 rfl), of_decide_eq_true (g 7 rfl), of_decide_eq_true (g 8 rfl), of_decide_eq_true (g 9 rfl),
    of_decide_eq_true (g 10 rfl), g 11 rfl, of_decide_eq_true (g 12 rfl), of_decide_eq_true (g 13 rfl), of_decide_eq_true (g 14 rfl)⟩
theorem ExB.oex {K : PySem.W.Frag} {C f : Addr} (h : ExB K C f) : OexC K C := ⟨oexB_ok h.o, h.sa, h.exC, h.tyC, h.kC⟩
/-- the def of the __init__ -/
theorem supC_of {P : Program} {K : PySem.W.Frag} {mg : Str → Option Value} {C f : Addr} {x qual : Str} {params : Arguments} {body : List Stmt} {scope : Scope} (X : ExB K C f) (w : fnWS K f = some (x, qual, params, FuncBody.stmts body, scope, mainGlobals, [("__class__" : Str)], builtinsNs))
    (b : supB P.main.file K C f qual = true) (nS : mg "super" = none) : ∃ (cc c : Addr) (fd : FuncData), SupC P K mg C f cc c x qual params body scope fd := by
  unfold fnWS at w
  unfold supB at b
  cases q : K.lookup f with
  | none => rw [q] at b; cases b
  | some o =>
    obtain ⟨oc, od, dt, osl⟩ := o
    rw [q] at w b
    cases dt with
    | func fd =>
      obtain ⟨n1, n2, n3, n4, n5, n6, n7, n8, n9, n10, n11, n12, n13, n14, n15⟩ := fd
      have e2 : (some (n1, n2, n3, n4, n5, n6, n7.map (·.1), n15) : FnWS) = some (x, qual, params, FuncBody.stmts body, scope, mainGlobals, [("__class__" : Str)], builtinsNs) := w
      simp only [Option.some.injEq, Prod.mk.injEq] at e2
      obtain ⟨h1, h2, h3, h4, h5, h6, h7, h8⟩ := e2
      subst h1 h2 h3 h4 h5 h6 h8
      dsimp only at b
      obtain ⟨b3, b4⟩ := Bool.and_eq_true_iff.mp b
      cases n7 with
      | nil => cases b4
      | cons z n7 =>
        cases n7 with
        | cons z2 n7 => cases b4
        | nil =>
          obtain ⟨y, cc⟩ := z
          have ey : y = "__class__" := by simpa using h7
          subst ey
          cases n13 with
          | ref c =>
            obtain ⟨b5, b6⟩ := Bool.and_eq_true_iff.mp b3
            exact ⟨cc, c, _, ⟨⟨n8, n9, n10, n11, n12, n14, rfl⟩, ⟨oc, od, osl, q⟩, b5, codeB_ok b6, cellB_ok b4, X.sup, X.nop, X.sB, X.sC, nS, X.oex⟩⟩
          | _ => cases b3
    | _ => cases b
end Cm
namespace PySem.W
open PySem PySem.Spec PySem.Calls PyProof.Rows
section
variable {prog : Program} {w : World} {A : Around} {E : Value → Shared → Prop} {s : Shared} {K : Frag} {x D : Addr} {ox : Obj}
theorem findObj_dataO {C : Addr} {od : Option Obj} {name : Str} {a g : Value} (hc : (clsIn K C).isSome = true) (ha : findIn K (.ref C) name = some (some a)) (hg : specialIn K a "__get__" = some (some g)) (ht : takesIn K a = some true) : findObj K C od name = some (.bind g a) := by
  obtain ⟨cd, hc⟩ := Option.isSome_iff_exists.mp hc
  unfold findObj
  rw [hc, Option.bind_some, ha, Option.bind_some]
  simp [hg, ht]
theorem kin_classO {od : Option Obj} {Q : Option Value → Shared → Prop} (hga : findIn K (.ref D) "__getattribute__" = some (some (.builtin "BaseException.__getattribute__"))) (hgt : findIn K (.ref D) "__getattr__" = some none) (hsub : subIn K (.ref D) (.type "BaseException") = some true)
    (hdct : hasDictIn K D = true) (ha : findIn K (.ref D) "__class__" = some (some (.builtin "object.__class__")))
    (hn : specialIn K (.builtin "object.__class__") "__get__" = some (some (.builtin "getset_descriptor.__get__"))) (htk : takesIn K (.builtin "object.__class__") = some true) (hm : mroIn K D (.type "object") = some true)
    (X : K.In s.heap) (I : InstAt s.heap x ox D od) (h : Q (some (.ref D)) { s with toks := s.toks + 1 }) : wpAny (model prog w) A (getAttr? (.ref x) "__class__") Q E s := by
  have hf : findObj K D od "__class__" = some (.bind (.builtin "getset_descriptor.__get__") (.builtin "object.__class__")) := findObj_dataO (by obtain ⟨cd, hc, _⟩ := any_some hdct; rw [hc]; rfl) ha hn htk
  obtain ⟨hp, g, d, t, os⟩ := s
  have L0 := I.type (M := model prog w)
  have L1 := looks_findIn (M := model prog w) X hga
  have L2 := looks_findIn (M := model prog w) X hgt
  have L3 := looks_find (M := model prog w) X I hf
  have sub : Looks (model prog w) hp (isInstance (.ref x) (.type "BaseException")) true := L0.andThen (looks_subIn X hsub)
  have hx0 : (false && onTheHeap (Value.builtin "BaseException.__getattribute__")) = false := rfl
  have hx2 : (Value.builtin "BaseException.__getattribute__" == Value.builtin "object.__getattribute__") = false := by decide +kernel
  have hx1 : (onTheHeap (Value.ref D) && Value.builtin "BaseException.__getattribute__" == Value.builtin "object.__getattribute__") = false := by rw [hx2]; rfl
  unfold getAttr? getAttrBy? getAttrBy
  refine wpAny_bind (wpAny_mkText (wpAny_bind (wpAny_attempt (wpAny_holding (wpAny_bind (L0.at (wpAny_bind (L1.at ?_))))))))
  show wpAny _ _ (if (onTheHeap (Value.ref D) && Value.builtin "BaseException.__getattribute__" == Value.builtin "object.__getattribute__") = true then _ else _) _ _ _
  rw [hx1, if_neg Bool.false_ne_true]
  unfold getAttrByItsOwn hookBefore
  refine wpAny_bind ?_
  rw [if_pos (show onTheHeap (Value.ref D) = true from rfl)]
  refine L2.at ?_
  refine wpAny_bind (wpAny_attempt (wpAny_holding ?_))
  unfold callGetattribute
  rw [hx0, if_neg Bool.false_ne_true]
  unfold boundAndCalled
  rw [PySem.F.excAttr_ValueError.ga.bind (.ref x)]
  refine wpAny_bind (wpAny_pure ?_)
  show wpAny _ _ (call (.builtin "BaseException.__getattribute__") [.ref x, .str "__class__" t]) _ _ _
  refine wpAny_call (codeAny_call_builtin PySem.F.excAttr_ValueError.ga.plain PySem.F.entry_bexc_ga ?_)
  refine @check_slot (model prog w) _ _ ⟨hp, g, d, t + 1, os⟩ "BaseException.__getattribute__" "BaseException" "__getattribute__" (.ref x) [.str "__class__" t] [] _ (by decide +kernel) (by decide +kernel) sub (PySem.F.args_bexc_ga (.ref x) (.str "__class__" t)) ?_
  unfold Builtin.«object.__getattribute__»
  refine wpAny_bind (wpAny_of_eq (a := ((Value.ref x : Value), [Value.str "__class__" t])) (by first | rfl | (simp only [slotArgs]; rfl)) ?_)
  refine wpAny_bind (wpAny_pure (wpAny_bind (L0.at (wpAny_bind (L3.at ?_)))))
  show wpAny _ _ (holding [Value.builtin "object.__class__"] (call (.builtin "getset_descriptor.__get__") [.builtin "object.__class__", .ref x, .ref D]) >>= ret) _ _ _
  refine wpAny_bind (wpAny_holding (wpAny_call (class_get (s := ⟨hp, g, d, t + 1, os⟩) (ox := ox) (od := od) X I hm ?_)))
  refine wpAny_pure ?_
  show wpAny _ _ (handedOut (.ref D)) _ _ _
  rw [handedOut_of (v := .ref D) rfl]
  first
    | exact wpAny_pure (wpAny_pure h)
    | exact wpAny_pure h
    | exact wpAny_pure (wpAny_bind (wpAny_pure (wpAny_pure h)))
theorem kitx_excO {od : Option Obj} (hga : findIn K (.ref D) "__getattribute__" = some (some (.builtin "BaseException.__getattribute__"))) (hgt : findIn K (.ref D) "__getattr__" = some none) (hsub : subIn K (.ref D) (.type "BaseException") = some true) (hdct : hasDictIn K D = true) (ha : findIn K (.ref D) "__class__" = some (some (.builtin "object.__class__")))
    (hn : specialIn K (.builtin "object.__class__") "__get__" = some (some (.builtin "getset_descriptor.__get__"))) (htk : takesIn K (.builtin "object.__class__") = some true) (hm : mroIn K D (.type "object") = some true) :
    KitX K (.ref x) (.ref D) (fun h => InstAt h x ox D od) where
  ty := fun _ _ _ I => I.type
  it := fun _ _ X _ => by
    obtain ⟨cdD, hcD, _⟩ := any_some hdct
    unfold clsIn at hcD
    split at hcD
    · rename_i c' d' cd' sl' ho
      intro A' Q' E' s' k q
      unfold isType loadHead
      exact wpAny_bind (wpAny_loadPart (k _ _ (X _ _ ho)) (wpAny_pure q))
    · cases hcD
  ne := fun h tp dd its n sl X htp => by
    obtain ⟨cdD, hcD, _⟩ := any_some hdct
    refine Bool.eq_false_iff.mpr fun q => ?_
    have e : D = tp := Value.ref.inj (beq_iff_eq.mp q)
    subst e
    unfold clsIn at hcD
    split at hcD
    · rename_i c' d' cd' sl' ho
      have z := (X _ _ ho).symm.trans htp
      cases z
    · cases hcD
  ca := fun X I k => kin_classO hga hgt hsub hdct ha hn htk hm X I k
end
end PySem.W
namespace Cm
open PySem PySem.Spec PyProof.Rows
open L2 hiding Same
/-! ### isinstance of a caught error that has fields -/
def rIsF (K : PySem.W.Frag) (D a : Addr) (cls : Value) (d : Option Addr) : List V → Hp → VK → Prop := fun xs H Q => ∃ (c : V) (cv : Value) (b : Bool) (dd : Addr) (fs : List (Str × V)), cls = .ref D ∧ xs = [.ref a, c] ∧ (∀ u, RelV c u → u = cv) ∧ PySem.W.kitOne K (.ref D) cv = some b ∧ d = some dd ∧ H dd = some (.xd fs) ∧ Q (.bl b) H
theorem call_isF {X : Cx} {a D : Addr} {oe : Obj} {cls : Value} {d : Option Addr} {pn : List (Addr × Obj)} (C : ExcC X.K D) (hz : Zc cls d oe) (hf : ∃ vs, oe.data = .fields vs) : CallR (X.suite a ((a, oe) :: pn)) (.builtin "isinstance") (rIsF X.K D a cls d) := by
  intro pins s σ H xs us Q I r h
  obtain ⟨c, cv, b, dd, fs, rfl, rfl, hcv, e, rfl, hd, q⟩ := h
  cases r with
  | cons rx rr =>
    cases rr with
    | cons rt rr =>
      cases rr
      cases rx
      have ec := hcv _ rt
      subst ec
      obtain ⟨hget, _⟩ := I.pin (a, oe) (List.mem_append.mpr (.inl List.mem_cons_self))
      obtain ⟨vs, hv⟩ := hf
      have hx : ObjOk X.prog X.w H s.heap dd (.xd fs) := I.hok dd _ hd
      obtain ⟨mA, hns, _⟩ := hx
      obtain ⟨od, ho, _⟩ := lookIn_ns hns
      have J : PySem.W.InstAt s.heap a oe D (some od) := ⟨hget, hz.1, by unfold PySem.W.notCls; rw [hv] <;> rfl, by rw [hz.2]; exact ho⟩
      exact PySem.W.kia_one (PySem.W.kitx_excO C.hg C.hk C.hs C.hd C.ha C.hn C.ht C.hm) I.kIn J e (fun z => nomatch z) fun tk => ⟨.bl b, H, I.kept (t' := tk) fun _ _ z => z, rfl, q⟩
theorem passes_len {X : Cx} {W : WX} {E : XK} (tk : Takes X W) (hW : ∀ cls d σ H, σ.length = X.N.length → E cls d H → W cls d σ H) : Passes (CX X.prog X.w) X E :=
  fun pins σ H s e s' I c => tk _ _ (XE.of_call I (fun cls d H' h => hW cls d σ H' I.len h) c)
/-! ### a call of a local name that holds a class; of a classmethod without arguments -/
section
variable {X : Cx} {CX : CXT} {k i : Nat} {C f : Addr} {fd : FuncData} {ps : List Str} {sp : Sp} {ds : List Value} {dvs : List V} {E : XK} {x : Str} {e : Expr} {es : List Expr} {p pos : Pos} {t : TA}
def tMakeL (i : Nat) (C : Addr) (sp : Sp) (dvs : List V) (E : XK) (t : TA) : TE := fun σ H Q => σ[i]? = some (some (.ref C)) ∧ tMake C sp dvs E t σ H Q
theorem pe_makeL (M : Mk X.K C f) (F : FnOk X.prog X.w X.K X.mg X.base CX k f fd ps sp) (hr : Room (k + 1) X.A) (hN : X.N[i]? = some x) (hv : Vis X.env.scope x) (hb : Binds X.K fd ps ds) (hd : Vals dvs ds) (hx : Passes CX X E)
    (ha : PA X (e :: es) t) (hdb : (x == ("__debug__" : Str)) = false := by decide) (hcd : (x == ("__classdict__" : Str)) = false := by decide)
    (he : starEach (e :: es) X.env = (false, eval e X.env) :: starEach es X.env := by rfl) (hpl : (backTo pos (starEach es X.env)).any (·.1) = false := by rfl) :
    PE X (.Call (.Name x p) (e :: es) [] pos) (tMakeL i C sp dvs E t) := by
  refine ⟨fun pins s σ H Q I h => ?_⟩
  obtain ⟨hs, ht⟩ := h
  refine wpAny_Call_Name_kw (thn ((pe_var (pos := p) hN hv hdb hcd).run pins s σ H (fun v H1 => v = .ref C ∧ H1 = H) I ⟨.ref C, hs, rfl, rfl⟩) fun u s1 ⟨v, H1, I1, r1, q1⟩ => ?_)
  obtain ⟨rfl, rfl⟩ := q1
  cases r1
  refine PySem.W.callWith_K (h₀ := X.base) I1.ok.mod.kin M.kp (thn (ha.run pos pins s1 σ _ _ I1 ht) fun us s2 ⟨vs, H2, I2, r, q⟩ => ⟨I2.kIn, ?_⟩) he hpl
  exact run_make M F hr hb hd hx I2 r q
end
section
variable {X : Cx} {CX : CXT} {k : Nat} {C p g : Addr} {mc : Value} {sp : Sp} {E : XK} {o : Expr} {m : Str} {pos apos : Pos} {ta : TE} {pl : Sem Bool}
theorem pe_cmeth0 (he : PE X o ta) (r : ClX.CRead X.K C mc) (c : ClX.CMet X.K C mc m p g) (F : FnR X.prog X.w X.K X.mg X.base CX k g sp) (hr : Room k X.A) (hx : Passes CX X E)
    (ht : eval (.Call (.Attribute o m apos) [] [] pos) X.env = (do
      let ov ← eval o X.env
      standAt apos.atName
      let (f, first) ← holding [ov] (getMethod ov m pl)
      callWith pos f first (backTo pos (starEach [] X.env)) (backToKw pos (keywordEach [] X.env))) := by rfl) :
    PE X (.Call (.Attribute o m apos) [] [] pos) (ClX.tCMeth C sp E ta tNil) := by
  refine ⟨fun pins s σ H Q I h => ?_⟩
  refine PySem.W.methodCall_KW (pl := pl) (thn (he.run pins s σ H _ I h) fun u s1 ⟨x, H1, I1, rx, ex, q⟩ => ?_) ht
  subst ex
  obtain rfl : u = Value.ref C := rx
  refine ClX.getmethcm_ok I1 r c fun s2 I2 => ?_
  exact PySem.W.callWith_M0 (first := []) ⟨ClX.pin_at I2, I2.kIn⟩ c.fi (ClX.run_cm (us := []) (vs := []) F hr hx I2 .nil q)
end
end Cm
namespace Cm
open PySem PySem.Spec PyProof.Rows
open L2 hiding Same
/-! ### constants and classmethods of a class -/
def valA (K : PySem.W.Frag) (C : Addr) (mc : Value) (f : Str) : Addr := match PySem.W.findCls K (.ref C) mc f with
  | some (.val (.ref a)) => a
  | _ => 0
def valB (K : PySem.W.Frag) (C : Addr) (mc : Value) (f : Str) : Bool := match PySem.W.findCls K (.ref C) mc f with
  | some (.val (.ref _)) => true
  | _ => false
theorem valB_ok {K : PySem.W.Frag} {C : Addr} {mc : Value} {f : Str} (h : valB K C mc f = true) : ClX.CVal K C mc f (.ref (valA K C mc f)) (.ref (valA K C mc f)) := by
  unfold valB at h
  unfold valA
  split at h
  · rename_i a e
    refine ⟨?_, rfl⟩
    rw [e]
  · cases h
def cmP (K : PySem.W.Frag) (C : Addr) (mc : Value) (m : Str) : Addr := match PySem.W.findCls K (.ref C) mc m with
  | some (.get _ (.ref p) _ _) => p
  | _ => 0
def cmG (K : PySem.W.Frag) (C : Addr) (mc : Value) (m : Str) : Addr := match PySem.W.recIn K (cmP K C mc m) "classmethod" with
  | some (.ref g :: _) => g
  | _ => 0
def cmB (K : PySem.W.Frag) (C : Addr) (mc : Value) (m : Str) : Bool := (match PySem.W.findCls K (.ref C) mc m with
  | some (.get (.builtin b) (.ref _) .none (.ref D)) => b == "classmethod.__get__" && D == C
  | _ => false) && ((match PySem.W.recIn K (cmP K C mc m) "classmethod" with
  | some (.ref _ :: _) => true
  | _ => false) && PySem.W.fnIn K (cmG K C mc m))
theorem cmB_ok {K : PySem.W.Frag} {C : Addr} {mc : Value} {m : Str} (h : cmB K C mc m = true) : ClX.CMet K C mc m (cmP K C mc m) (cmG K C mc m) := by
  unfold cmB at h
  obtain ⟨h1, h⟩ := Bool.and_eq_true_iff.mp h
  obtain ⟨h2, h3⟩ := Bool.and_eq_true_iff.mp h
  refine ⟨?_, ?_, h3⟩
  · unfold cmP
    split at h1
    · rename_i b p D e
      obtain ⟨e1, e2⟩ := Bool.and_eq_true_iff.mp h1
      have e1 := beq_iff_eq.mp e1
      have e2 := beq_iff_eq.mp e2
      subst e1 e2
      rw [e]
    · cases h1
  · unfold cmG
    split at h2
    · rename_i g r e
      rw [e]
      exact ⟨r, rfl⟩
    · cases h2
/-- a tuple of texts -/
def tsB (K : PySem.W.Frag) (a : Addr) (ts : List Str) : Bool := match K.lookup a with
  | some ⟨.type c, _, .seq its _, _⟩ => c == "tuple" && (decide (its.size ≤ sizeLine) && He.relAll (ts.map V.str) its.toList)
  | _ => false
theorem tsB_ok {K : PySem.W.Frag} {a : Addr} {ts : List Str} (h : tsB K a ts = true) (H : Hp) : SqT K H a (ts.map V.str) := by
  unfold tsB at h
  split at h
  · rename_i c d its n sl e
    obtain ⟨h1, h⟩ := Bool.and_eq_true_iff.mp h
    obtain ⟨h2, h3⟩ := Bool.and_eq_true_iff.mp h
    exact .inr ⟨_, its, n, e, congrArg Value.type (beq_iff_eq.mp h1), rfl, of_decide_eq_true h2, He.relAll_ok h3⟩
  · cases h
/-! ### def of(cls, *names) -/
def starB (K : PySem.W.Frag) (f : Addr) (qual : Str) : Bool := match K.lookup f with
  | some ⟨_, _, .func fd, _⟩ => PySem.W.codeIn K fd.code qual && fd.defaults == .none
  | _ => false
theorem star_of {K : PySem.W.Frag} {f : Addr} {x qual : Str} {params : Arguments} {body : List Stmt} {scope : Scope} (w : fnWS K f = some (x, qual, params, FuncBody.stmts body, scope, mainGlobals, [], builtinsNs)) (b : starB K f qual = true) :
    ∃ (oc : Value) (od : Option Addr) (kV doc pm : Value) (an : Option Addr) (cdv ct : Value) (osl : Array (Option Value)), K.lookup f = some ⟨oc, od, .func (PySem.W.fnOf x qual params body scope .none kV doc pm an cdv ct), osl⟩ ∧ PySem.W.codeIn K cdv qual = true := by
  unfold fnWS at w
  unfold starB at b
  cases q : K.lookup f with
  | none => rw [q] at b; cases b
  | some o =>
    obtain ⟨oc, od, dt, osl⟩ := o
    rw [q] at w b
    cases dt with
    | func fd =>
      obtain ⟨n1, n2, n3, n4, n5, n6, n7, n8, n9, n10, n11, n12, n13, n14, n15⟩ := fd
      have e2 : (some (n1, n2, n3, n4, n5, n6, n7.map (·.1), n15) : FnWS) = some (x, qual, params, FuncBody.stmts body, scope, mainGlobals, [], builtinsNs) := w
      simp only [Option.some.injEq, Prod.mk.injEq] at e2
      obtain ⟨h1, h2, h3, h4, h5, h6, h7, h8⟩ := e2
      subst h1 h2 h3 h4 h5 h6 h8
      dsimp only at b
      obtain ⟨b3, b4⟩ := Bool.and_eq_true_iff.mp b
      have b5 := beq_iff_eq.mp b4
      subst b5
      cases n7 with
      | nil => exact ⟨oc, od, n9, n10, n11, n12, n13, n14, osl, rfl, b3⟩
      | cons z n7 => cases h7
    | _ => cases b
def dfN (K : PySem.W.Frag) (f : Addr) : Bool := match K.lookup f with
  | some ⟨_, _, .func fd, _⟩ => fd.defaults == .none
  | _ => false
theorem dfN_ok {K : PySem.W.Frag} {f : Addr} {oc : Value} {od : Option Addr} {fd : FuncData} {osl : Array (Option Value)} (lk : K.lookup f = some ⟨oc, od, .func fd, osl⟩) (h : dfN K f = true) : fd.defaults = .none := by
  unfold dfN at h
  rw [lk] at h
  exact beq_iff_eq.mp h
/-! ### x not in t, of any depth -/
def rNotInT (K : PySem.W.Frag) : R2 := fun x y H Q => ∃ d ds, Dp K H x d ∧ Dp K H y (.tuple ds) ∧ SeqAt.shaped d = true ∧ SeqAt.shaped (.tuple ds) = true ∧ Q (.bl (!ds.any fun z => PyData.eqv z d)) H
theorem op_notInT {X : Cx} (hu : X.A.units + 65 < cLine) : OpR X (compareOp .NotIn) (rNotInT X.K) := by
  intro pins s σ H x y v u Q I rx ry h
  obtain ⟨d, ds, hd, he, sd, se, q⟩ := h
  obtain ⟨as, r1⟩ := Dp.reads I d x v hd rx
  obtain ⟨bs, r2⟩ := Dp.reads I (.tuple ds) y u he ry
  exact SeqAt.notIn_tuple_reads r2 r1 (SeqAt.canLay_of_shaped se) (SeqAt.canLay_of_shaped sd) (room_in_shaped sd hu) ⟨.bl _, H, I, rfl, q⟩
end Cm
namespace Cm
open PySem PySem.Spec PyProof.Rows
open L2 hiding Same
theorem u65 {k : Nat} {A : Around} (r : Room k A) : A.units + 65 < cLine := by have := r.un; omega
theorem pe_cal0 {X : Cx} {j k : Nat} {x : Str} {sp : Sp} {p pos : Pos} (c : Cal X.prog X.w X.K X.mg X.base k x sp) (hr : Room j X.A) (hk : k ≤ j) (hg : Gl X x := by rfl) (hd : (x == ("__debug__" : Str)) = false := by decide) :
    PE X (.Call (.Name x p) [] [] pos) (tCall sp [] E0 tNil) := by
  obtain ⟨f, fd, ps, F, b, g, kp⟩ := c
  exact pe_call0 F (hr.mono hk) hg g kp b .nil pass0 hd
/-! ### a walk over a list or a tuple -/
theorem PI.or2 {X : Cx} {tg iter : Expr} {t1 t2 : TI} (h1 : PI X tg iter t1) (h2 : PI X tg iter t2) : PI X tg iter (fun σ H R => t1 σ H R ∨ t2 σ H R) :=
  ⟨fun pins s σ H R I h => h.elim (h1.run pins s σ H R I) (h2.run pins s σ H R I)⟩
def iSeq (K : PySem.W.Frag) (tl : TE) : TI := fun σ H R => iList K tl σ H R ∨ iTup K tl σ H R
theorem pi_seq {X : Cx} {tg l : Expr} {tl : TE} (hl : PE X l tl) : PI X tg l (iSeq X.K tl) := PI.or2 (pi_list hl) (pi_tup hl)
def Sq (K : PySem.W.Frag) (H : Hp) (a : Addr) (xs : List V) : Prop := SqL K H a xs ∨ SqT K H a xs
theorem for_seq {K : PySem.W.Frag} {a : Addr} {xs : List V} {g : TG} {tb : TS} {tl : TE} {D : Ends} {σ : L2.St} {H : Hp} (e : ∀ Q : VK, Q (.ref a) H → tl σ H Q) (hn : Sq K H a xs) (Pv : Nat → L2.St → Hp → Prop) (h0 : Pv 0 σ H)
    (hl : ∀ i σ H', i ≤ xs.length → Pv i σ H' → (SqL K H a xs → SqL K H' a xs) ∧ (SqT K H a xs → SqT K H' a xs))
    (hs : ∀ i x σ H, xs[i]? = some x → Pv i σ H → g x σ H fun σ2 H2 => tb { D with nx := Pv (i + 1), ct := Pv (i + 1), bk := D.nx } σ2 H2) (hd : ∀ σ H, Pv xs.length σ H → D.nx σ H) : tFor (iSeq K tl) g tb D σ H := by
  rcases hn with hn | hn
  · exact .inl (e _ ⟨a, rfl, ⟨xs, hn⟩, for_list Pv h0 (fun i σ H' hi p => (hl i σ H' hi p).1 hn) hs hd⟩)
  · exact .inr (e _ ⟨a, rfl, ⟨xs, hn⟩, for_tup Pv h0 (fun i σ H' hi p => (hl i σ H' hi p).2 hn) hs hd⟩)
theorem Same.st {K : PySem.W.Frag} {a : Addr} {H H' : Hp} {xs : List V} (k : Same H H') (h : SqT K H a xs) : SqT K H' a xs :=
  h.elim (fun h => .inl (h.elim (fun h => .inl (k _ _ h)) fun ⟨o, h⟩ => .inr ⟨o, k _ _ h⟩)) .inr
theorem Sq.same {K : PySem.W.Frag} {a : Addr} {H H' : Hp} {xs : List V} (h : Sq K H a xs) (k : Same H H') : Sq K H' a xs := h.elim (fun h => .inl (k.sl h)) fun h => .inr (k.st h)
/-! ### texts in lists -/
theorem flat_strs (ts : List Str) : (ts.map V.str).all flatV = true := by
  rw [List.all_eq_true]
  intro x hx
  obtain ⟨i, _, rfl⟩ := List.mem_map.mp hx
  rfl
theorem inV_strs (n : Str) (ts : List Str) : inV (.str n) (ts.map V.str) = decide (n ∈ ts) := by
  unfold inV
  rw [List.any_map]
  apply Bool.eq_iff_iff.mpr
  rw [List.any_eq_true, decide_eq_true_iff]
  exact ⟨fun ⟨x, hx, e⟩ => by have e2 : x = n := by simpa [eqV] using e
                              subst e2; exact hx, fun h => ⟨n, h, by simp [eqV]⟩⟩
theorem strs_at {ts : List Str} {i : Nat} {x : V} (h : (ts.map V.str)[i]? = some x) : ∃ hi : i < ts.length, x = .str ts[i] := by
  rw [List.getElem?_map] at h
  cases e : ts[i]? with
  | none => rw [e] at h; cases h
  | some n =>
    rw [e] at h
    obtain ⟨hi, e2⟩ := List.getElem?_eq_some_iff.mp e
    exact ⟨hi, by rw [e2]; exact (Option.some.inj h).symm⟩
theorem take_filter {ts : List Str} {p : Str → Bool} {i : Nat} (hi : i < ts.length) : (ts.take (i + 1)).filter p = if p ts[i] = true then (ts.take i).filter p ++ [ts[i]] else (ts.take i).filter p := by
  rw [List.take_add_one, List.getElem?_eq_getElem hi]
  show ((ts.take i) ++ [ts[i]]).filter p = _
  rw [List.filter_append]
  by_cases h : p ts[i] = true
  · rw [if_pos h, List.filter_cons_of_pos h, List.filter_nil]
  · rw [if_neg h, List.filter_cons_of_neg h, List.filter_nil, List.append_nil]
theorem filt_len {ts : List Str} {p : Str → Bool} {i n : Nat} (h : ts.length ≤ n) : ((ts.take i).filter p).length ≤ n := by
  have := List.length_filter_le p (ts.take i)
  have := List.length_take_le' i ts
  omega
theorem dp_strs {K : PySem.W.Frag} {H : Hp} : ∀ ts : List Str, DpAll K H (ts.map V.str) (ts.map PyData.str)
  | [] => .nil
  | n :: ns => .cons (.str n) (dp_strs ns)
theorem shp_strAll : ∀ ts : List Str, (∀ z ∈ ts, PyData.strOk z = true) → PyData.canLayAll0 (ts.map PyData.str) = true ∧ PyData.depthAll (ts.map PyData.str) = 0
  | [], _ => ⟨rfl, rfl⟩
  | n :: ns, hk => by
    obtain ⟨h1, h2⟩ := shp_strAll ns fun z hz => hk z (List.mem_cons_of_mem _ hz)
    exact ⟨by show (PyData.canLay0 (.str n) && PyData.canLayAll0 (ns.map PyData.str)) = true; rw [h1]; simp [PyData.canLay0, hk n List.mem_cons_self], by show max (PyData.depth (.str n)) (PyData.depthAll (ns.map PyData.str)) = 0; rw [h2]; rfl⟩
theorem shp_str {z : Str} (h : PyData.strOk z = true) : SeqAt.shaped (.str z) = true := by
  show ((PyData.str z).canLay0 && decide ((PyData.str z).depth ≤ 64)) = true
  simp [PyData.canLay0, PyData.depth, h]
theorem shp_strs {ts : List Str} (hk : ∀ z ∈ ts, PyData.strOk z = true) : SeqAt.shaped (.list (ts.map PyData.str)) = true := by
  obtain ⟨h1, h2⟩ := shp_strAll ts hk
  show ((PyData.list (ts.map PyData.str)).canLay0 && decide ((PyData.list (ts.map PyData.str)).depth ≤ 64)) = true
  simp only [PyData.canLay0, PyData.depth, h1, h2, Bool.true_and, decide_eq_true_eq]
  omega
theorem shp_strsT {ts : List Str} (hk : ∀ z ∈ ts, PyData.strOk z = true) : SeqAt.shaped (.tuple (ts.map PyData.str)) = true := by
  obtain ⟨h1, h2⟩ := shp_strAll ts hk
  show ((PyData.tuple (ts.map PyData.str)).canLay0 && decide ((PyData.tuple (ts.map PyData.str)).depth ≤ 64)) = true
  simp only [PyData.canLay0, PyData.depth, h1, h2, Bool.true_and, decide_eq_true_eq]
  omega
theorem eqvA_strs : ∀ xs ys : List Str, PyData.eqvAll (xs.map PyData.str) (ys.map PyData.str) = decide (xs = ys)
  | [], [] => by simp [PyData.eqvAll]
  | [], y :: ys => by simp [PyData.eqvAll]
  | x :: xs, [] => by simp [PyData.eqvAll]
  | x :: xs, y :: ys => by
    have h := eqvA_strs xs ys
    show (PyData.eqv (.str x) (.str y) && PyData.eqvAll (xs.map PyData.str) (ys.map PyData.str)) = _
    rw [h]
    have e : PyData.eqv (.str x) (.str y) = decide (x = y) := by
      simp only [PyData.eqv]
      by_cases h : x = y <;> simp [h]
    rw [e]
    by_cases h1 : x = y <;> by_cases h2 : xs = ys <;> simp [h1, h2]
theorem eqv_strs (xs ys : List Str) : PyData.eqv (.list (xs.map PyData.str)) (.list (ys.map PyData.str)) = decide (xs = ys) := by
  simp only [PyData.eqv]; exact eqvA_strs xs ys
theorem eqv_strsT (xs ys : List Str) : PyData.eqv (.tuple (xs.map PyData.str)) (.tuple (ys.map PyData.str)) = decide (xs = ys) := by
  simp only [PyData.eqv]; exact eqvA_strs xs ys
theorem any_strs (n : Str) (ts : List Str) : ((ts.map PyData.str).any fun z => PyData.eqv z (.str n)) = decide (n ∈ ts) := by
  rw [List.any_map]
  apply Bool.eq_iff_iff.mpr
  rw [List.any_eq_true, decide_eq_true_iff]
  have e : ∀ x, PyData.eqv (.str x) (.str n) = decide (x = n) := fun x => by
    simp only [PyData.eqv]
    by_cases h : x = n <;> simp [h]
  exact ⟨fun ⟨x, hx, q⟩ => by
    have q2 : x = n := by
      have := q
      simp only [Function.comp, e, decide_eq_true_eq] at this
      exact this
    subst q2; exact hx, fun h => ⟨n, h, by simp only [Function.comp, e, decide_true]⟩⟩
end Cm
namespace Cm
open PySem PySem.Spec PyProof.Rows
open L2 hiding Same
section
variable {X : Cx} {j k : Nat} {m : Str} {C : Addr} {sp : Sp} {e o : Expr} {es : List Expr} {pos apos : Pos} {t : TA} {ta : TE}
theorem pe_mcalA {pl : Sem Bool} (c : MCal X.prog X.w X.K X.mg X.base k C m sp) (hr : Room j X.A) (hk : k ≤ j) (ho : PE X o ta) (ha : PA X (e :: es) t)
    (hst : starEach (e :: es) X.env = (false, eval e X.env) :: starEach es X.env := by rfl) (hpl : (backTo pos (starEach es X.env)).any (·.1) = false := by rfl)
    (ht : eval (.Call (.Attribute o m apos) (e :: es) [] pos) X.env = (do
      let ov ← eval o X.env
      standAt apos.atName
      let (f, first) ← holding [ov] (getMethod ov m pl)
      callWith pos f first (backTo pos (starEach (e :: es) X.env)) (backToKw pos (keywordEach [] X.env))) := by rfl) : PE X (.Call (.Attribute o m apos) (e :: es) [] pos) (tMeth C m sp [] E0 ta t) := by
  obtain ⟨cl, f, fd, ps, F, b, M⟩ := c
  exact pe_meth (pl := pl) ho cl M F (hr.mono hk) b .nil pass0 ha hst hpl ht
/-- x == t, by x's own __eq__, t a tuple -/
def rOwnGT (P : Program) (w : World) (K : PySem.W.Frag) (mg : Str → Option Value) (base : Heap) (k : Nat) : R2 := fun x y H Q =>
  ∃ a C dx fs sp t xs, x = .ref a ∧ y = .ref t ∧ H a = some (.ins C dx fs) ∧ SqT K H t xs ∧ MCal P w K mg base k C "__eq__" sp ∧ PySem.W.notFirst K C (.type "tuple") = true ∧ sp [x, y] H Q E0
theorem op_ownGT (hr : Room j X.A) (hk : k ≤ j) : OpR X (compareOp .Eq) (rOwnGT X.prog X.w X.K X.mg X.base k) := by
  intro pins s σ H x y v u Q I rx ry h
  obtain ⟨a, C, dx, fs, sp, t, xs, ex, ey, ha, ht, ⟨c, f, fd, ps, F, b, M⟩, hn, q⟩ := h
  subst ex ey
  cases (show v = Value.ref a from rx)
  cases (show u = Value.ref t from ry)
  obtain ⟨mA, O, _⟩ := ins_get I.hok ha
  obtain ⟨od, J, _⟩ := O.look
  obtain ⟨mm, hF⟩ := I.fr
  obtain ⟨its, rv, ⟨o, ho, hc, _⟩, _⟩ := I.tuple ht
  have hb : PySem.W.Looks (model X.prog X.w) s.heap (typeOf (.ref t)) (.type "tuple") := by
    have z := (PySem.W.Looks.ld (M := model X.prog X.w) (part := none) ho)
    intro A Q E s k q
    exact wpAny_typeOf_ref (k _ _ ho) (by rw [hc]; exact q)
  show wpAny _ X.A (richCompare .Eq (.ref a) (.ref t)) _ _ s
  refine PySem.W.cmp_K (op := .Eq) hr.units0 hF I.ok.mod.kin J hb hn M.at_ M.fn ?_
  refine wpAny_mono (run_fn (us := [.ref a, .ref t]) (vs := [.ref a, .ref t]) F (hr.mono hk) b .nil pass0 I (.cons rfl (.cons rfl .nil)) q) ?_ fun _ _ z => z
  rintro r s' ⟨z, H', I', rz, qz⟩
  exact SlX.cmpback rz ⟨z, H', I', rz, qz⟩
end
theorem cutT (xs : List V) (c : Nat) : cutV xs none (some (c : Int)) = xs.take c := by
  unfold cutV
  rw [HT.sIx_none, HT.sIx_nat, List.drop_zero, Nat.sub_zero]
  by_cases h : c ≤ xs.length
  · rw [Nat.min_eq_left h]
  · rw [Nat.min_eq_right (by omega), List.take_length, List.take_of_length_le (by omega)]
theorem cutD (xs : List V) (c : Nat) : cutV xs (some (c : Int)) none = xs.drop c := by
  unfold cutV
  rw [HT.sIx_none, HT.sIx_nat]
  by_cases h : c ≤ xs.length
  · rw [Nat.min_eq_left h, List.take_of_length_le (by rw [List.length_drop]; omega)]
  · rw [Nat.min_eq_right (by omega), Nat.sub_self, List.take_zero, List.drop_of_length_le (by omega)]
end Cm
namespace K29
open PySem PySem.Spec PyProof.Rows Cm
open L2 hiding Same
def top (i : Nat) : Stmt := PySem.Challenge.pw_quietedition_k29_renamings_made.main.body.getD i (.Pass ⟨0, 0, 0, 0⟩)
abbrev s_ascending : Stmt := top 5
theorem sc_ascending : FnScope ["things"] ["things"] (defScope s_ascending) := ⟨rfl, rfl, rfl, by decide +kernel, rfl, by decide +kernel, by decide +kernel⟩
abbrev s_is_short : Stmt := top 8
theorem sc_is_short : FnScope ["thing"] ["thing"] (defScope s_is_short) := ⟨rfl, rfl, rfl, by decide +kernel, rfl, by decide +kernel, by decide +kernel⟩
abbrev s_is_pair : Stmt := top 9
theorem sc_is_pair : FnScope ["thing", "part"] ["thing"] (defScope s_is_pair) := ⟨rfl, rfl, rfl, by decide +kernel, rfl, by decide +kernel, by decide +kernel⟩
abbrev s_check_pairs : Stmt := top 10
theorem sc_check_pairs : FnScope ["pairs", "firsts", "seconds", "at", "pair", "second"] ["pairs"] (defScope s_check_pairs) := ⟨rfl, rfl, rfl, by decide +kernel, rfl, by decide +kernel, by decide +kernel⟩
abbrev s_Renaming_init : Stmt := inClass (top 11) 0
theorem sc_Renaming_init : FnScope ["self", "pairs", "n", "m"] ["self", "pairs"] (defScope s_Renaming_init) := ⟨rfl, rfl, rfl, by decide +kernel, rfl, by decide +kernel, by decide +kernel⟩
abbrev s_Renaming_renamed : Stmt := inClass (top 11) 2
theorem sc_Renaming_renamed : FnScope ["self", "n"] ["self", "n"] (defScope s_Renaming_renamed) := ⟨rfl, rfl, rfl, by decide +kernel, rfl, by decide +kernel, by decide +kernel⟩
abbrev s_Renaming_call : Stmt := inClass (top 11) 3
theorem sc_Renaming_call : FnScope ["self", "n"] ["self", "n"] (defScope s_Renaming_call) := ⟨rfl, rfl, rfl, by decide +kernel, rfl, by decide +kernel, by decide +kernel⟩
abbrev s_Renaming_len : Stmt := inClass (top 11) 4
theorem sc_Renaming_len : FnScope ["self"] ["self"] (defScope s_Renaming_len) := ⟨rfl, rfl, rfl, by decide +kernel, rfl, by decide +kernel, by decide +kernel⟩
abbrev s_Renaming_eq : Stmt := inClass (top 11) 5
theorem sc_Renaming_eq : FnScope ["self", "other"] ["self", "other"] (defScope s_Renaming_eq) := ⟨rfl, rfl, rfl, by decide +kernel, rfl, by decide +kernel, by decide +kernel⟩
abbrev s_Renaming_mul : Stmt := inClass (top 11) 6
theorem sc_Renaming_mul : FnScope ["self", "other", "numbers", "n", "_"] ["self", "other"] (defScope s_Renaming_mul) := ⟨rfl, rfl, rfl, by decide +kernel, rfl, by decide +kernel, by decide +kernel⟩
abbrev s_Renaming_keeps : Stmt := inClass (top 11) 7
theorem sc_Renaming_keeps : FnScope ["self", "numbers", "n"] ["self", "numbers"] (defScope s_Renaming_keeps) := ⟨rfl, rfl, rfl, by decide +kernel, rfl, by decide +kernel, by decide +kernel⟩
abbrev s_Renaming_inverse : Stmt := inClass (top 11) 8
theorem sc_Renaming_inverse : FnScope ["self", "n", "m"] ["self"] (defScope s_Renaming_inverse) := ⟨rfl, rfl, rfl, by decide +kernel, rfl, by decide +kernel, by decide +kernel⟩
abbrev s_l_bag : Stmt := top 13
theorem sc_l_bag : FnScope ["_law_script", "_law_at", "_law_cell", "_law_blend", "_law_k", "_law_each"] ["_law_script", "_law_at"] (defScope s_l_bag) := ⟨rfl, rfl, rfl, by decide +kernel, rfl, by decide +kernel, by decide +kernel⟩
abbrev s_l_take : Stmt := top 14
theorem sc_l_take : FnScope ["_law_bag_here", "_law_many", "_law_digit"] ["_law_bag_here", "_law_many"] (defScope s_l_take) := ⟨rfl, rfl, rfl, by decide +kernel, rfl, by decide +kernel, by decide +kernel⟩
abbrev s_l_of : Stmt := top 15
theorem sc_l_of : FnScope ["_law_bag_here", "_law_some"] ["_law_bag_here", "_law_some"] (defScope s_l_of) := ⟨rfl, rfl, rfl, by decide +kernel, rfl, by decide +kernel, by decide +kernel⟩
abbrev s_l_numbers : Stmt := top 16
theorem sc_l_numbers : FnScope ["_law_bag_here", "_law_many", "_law_found", "_law_k", "_law_number", "_law_spare", "_law_one"] ["_law_bag_here", "_law_many"] (defScope s_l_numbers) := ⟨rfl, rfl, rfl, by decide +kernel, rfl, by decide +kernel, by decide +kernel⟩
abbrev s_l_pairs : Stmt := top 17
theorem sc_l_pairs : FnScope ["_law_bag_here", "_law_nums", "_law_left", "_law_n", "_law_firsts", "_law_seconds", "_law_pairs_here", "_law_k"] ["_law_bag_here", "_law_nums"] (defScope s_l_pairs) := ⟨rfl, rfl, rfl, by decide +kernel, rfl, by decide +kernel, by decide +kernel⟩
abbrev s_l_spoilt : Stmt := top 18
theorem sc_l_spoilt : FnScope ["_law_bag_here", "_law_pairs_here", "_law_nums", "_law_one", "_law_two", "_law_far", "_law_odds", "_law_item", "_law_spot"] ["_law_bag_here", "_law_pairs_here", "_law_nums"] (defScope s_l_spoilt) := ⟨rfl, rfl, rfl, by decide +kernel, rfl, by decide +kernel, by decide +kernel⟩
abbrev s_l_is_short : Stmt := top 19
theorem sc_l_is_short : FnScope ["_law_n"] ["_law_n"] (defScope s_l_is_short) := ⟨rfl, rfl, rfl, by decide +kernel, rfl, by decide +kernel, by decide +kernel⟩
abbrev s_l_wrong : Stmt := top 20
theorem sc_l_wrong : FnScope ["_law_things", "_law_firsts", "_law_seconds", "_law_k", "_law_thing", "_law_second"] ["_law_things"] (defScope s_l_wrong) := ⟨rfl, rfl, rfl, by decide +kernel, rfl, by decide +kernel, by decide +kernel⟩
abbrev s_l_made : Stmt := top 21
theorem sc_l_made : FnScope ["_law_things", "_law_made_here", "e"] ["_law_things"] (defScope s_l_made) := ⟨rfl, rfl, rfl, by decide +kernel, rfl, by decide +kernel, by decide +kernel⟩
abbrev s_l_swapped : Stmt := top 22
theorem sc_l_swapped : FnScope ["_law_n", "_law_m", "_law_made_here", "e"] ["_law_n", "_law_m"] (defScope s_l_swapped) := ⟨rfl, rfl, rfl, by decide +kernel, rfl, by decide +kernel, by decide +kernel⟩
abbrev s_l_is_right : Stmt := top 23
theorem sc_l_is_right : FnScope ["_law_made_here", "_law_things", "_law_nums", "_law_table", "_law_thing", "_law_due", "_law_n", "_law_some", "_law_back"] ["_law_made_here", "_law_things", "_law_nums"] (defScope s_l_is_right) := ⟨rfl, rfl, rfl, by decide +kernel, rfl, by decide +kernel, by decide +kernel⟩
abbrev s_law : Stmt := top 24
theorem sc_law : FnScope ["_law_script", "_law_at", "_law_bag_here", "_law_nums", "_law_turn", "_law_pairs_here", "_law_things", "_law_told", "_law_wrong_here", "_law_one", "_law_two", "_law_both", "_law_n", "_law_m", "_law_odd", "_law_swap"] ["_law_script"] (defScope s_law) := ⟨rfl, rfl, rfl, by decide +kernel, rfl, by decide +kernel, by decide +kernel⟩
abbrev s_BadRenaming_init : Stmt := inClass (top 3) 0
abbrev s_Renaming_swap : Stmt := inClass (top 11) 1
theorem sc_Renaming_swap : FnScope ["cls", "n", "m"] ["cls", "n", "m"] (defScope s_Renaming_swap) := ⟨rfl, rfl, rfl, by decide +kernel, rfl, by decide +kernel, by decide +kernel⟩
def d_ascending : He.DefD := ⟨("ascending", none), "ascending", "ascending", defArgs s_ascending, defBody s_ascending, defScope s_ascending, [], []⟩
def d_is_short : He.DefD := ⟨("is_short", none), "is_short", "is_short", defArgs s_is_short, defBody s_is_short, defScope s_is_short, [], []⟩
def d_is_pair : He.DefD := ⟨("is_pair", none), "is_pair", "is_pair", defArgs s_is_pair, defBody s_is_pair, defScope s_is_pair, [], []⟩
def d_check_pairs : He.DefD := ⟨("check_pairs", none), "check_pairs", "check_pairs", defArgs s_check_pairs, defBody s_check_pairs, defScope s_check_pairs, [], []⟩
def d_Renaming_init : He.DefD := ⟨("Renaming", some "__init__"), "__init__", "Renaming.__init__", defArgs s_Renaming_init, defBody s_Renaming_init, defScope s_Renaming_init, [.adr (He.dflAt ("Renaming", some "__init__") 0)], []⟩
def d_Renaming_renamed : He.DefD := ⟨("Renaming", some "renamed"), "renamed", "Renaming.renamed", defArgs s_Renaming_renamed, defBody s_Renaming_renamed, defScope s_Renaming_renamed, [], []⟩
def d_Renaming_call : He.DefD := ⟨("Renaming", some "__call__"), "__call__", "Renaming.__call__", defArgs s_Renaming_call, defBody s_Renaming_call, defScope s_Renaming_call, [], []⟩
def d_Renaming_len : He.DefD := ⟨("Renaming", some "__len__"), "__len__", "Renaming.__len__", defArgs s_Renaming_len, defBody s_Renaming_len, defScope s_Renaming_len, [], []⟩
def d_Renaming_eq : He.DefD := ⟨("Renaming", some "__eq__"), "__eq__", "Renaming.__eq__", defArgs s_Renaming_eq, defBody s_Renaming_eq, defScope s_Renaming_eq, [], []⟩
def d_Renaming_mul : He.DefD := ⟨("Renaming", some "__mul__"), "__mul__", "Renaming.__mul__", defArgs s_Renaming_mul, defBody s_Renaming_mul, defScope s_Renaming_mul, [], []⟩
def d_Renaming_keeps : He.DefD := ⟨("Renaming", some "keeps"), "keeps", "Renaming.keeps", defArgs s_Renaming_keeps, defBody s_Renaming_keeps, defScope s_Renaming_keeps, [], []⟩
def d_Renaming_inverse : He.DefD := ⟨("Renaming", some "inverse"), "inverse", "Renaming.inverse", defArgs s_Renaming_inverse, defBody s_Renaming_inverse, defScope s_Renaming_inverse, [], []⟩
def d_l_bag : He.DefD := ⟨("_law_bag", none), "_law_bag", "_law_bag", defArgs s_l_bag, defBody s_l_bag, defScope s_l_bag, [], []⟩
def d_l_take : He.DefD := ⟨("_law_take", none), "_law_take", "_law_take", defArgs s_l_take, defBody s_l_take, defScope s_l_take, [], []⟩
def d_l_of : He.DefD := ⟨("_law_of", none), "_law_of", "_law_of", defArgs s_l_of, defBody s_l_of, defScope s_l_of, [], []⟩
def d_l_numbers : He.DefD := ⟨("_law_numbers", none), "_law_numbers", "_law_numbers", defArgs s_l_numbers, defBody s_l_numbers, defScope s_l_numbers, [], []⟩
def d_l_pairs : He.DefD := ⟨("_law_pairs", none), "_law_pairs", "_law_pairs", defArgs s_l_pairs, defBody s_l_pairs, defScope s_l_pairs, [], []⟩
def d_l_spoilt : He.DefD := ⟨("_law_spoilt", none), "_law_spoilt", "_law_spoilt", defArgs s_l_spoilt, defBody s_l_spoilt, defScope s_l_spoilt, [], []⟩
def d_l_is_short : He.DefD := ⟨("_law_is_short", none), "_law_is_short", "_law_is_short", defArgs s_l_is_short, defBody s_l_is_short, defScope s_l_is_short, [], []⟩
def d_l_wrong : He.DefD := ⟨("_law_wrong", none), "_law_wrong", "_law_wrong", defArgs s_l_wrong, defBody s_l_wrong, defScope s_l_wrong, [], []⟩
def d_l_made : He.DefD := ⟨("_law_made", none), "_law_made", "_law_made", defArgs s_l_made, defBody s_l_made, defScope s_l_made, [], []⟩
def d_l_swapped : He.DefD := ⟨("_law_swapped", none), "_law_swapped", "_law_swapped", defArgs s_l_swapped, defBody s_l_swapped, defScope s_l_swapped, [], []⟩
def d_l_is_right : He.DefD := ⟨("_law_is_right", none), "_law_is_right", "_law_is_right", defArgs s_l_is_right, defBody s_l_is_right, defScope s_l_is_right, [], []⟩
def d_law : He.DefD := ⟨("law", none), "law", "law", defArgs s_law, defBody s_law, defScope s_law, [], []⟩
def fn : List He.DefD := [d_ascending, d_is_short, d_is_pair, d_check_pairs, d_Renaming_init, d_Renaming_renamed, d_Renaming_call, d_Renaming_len, d_Renaming_eq, d_Renaming_mul, d_Renaming_keeps, d_Renaming_inverse, d_l_bag, d_l_take, d_l_of, d_l_numbers, d_l_pairs, d_l_spoilt, d_l_is_short, d_l_wrong, d_l_made, d_l_swapped, d_l_is_right, d_law]
def fa : List He.Fa := [.glo "ascending",
  .glo "is_short",
  .glo "is_pair",
  .glo "check_pairs",
  .glo "_law_bag",
  .glo "_law_take",
  .glo "_law_of",
  .glo "_law_numbers",
  .glo "_law_pairs",
  .glo "_law_spoilt",
  .glo "_law_is_short",
  .glo "_law_wrong",
  .glo "_law_made",
  .glo "_law_swapped",
  .glo "_law_is_right",
  .glo "law",
  .glo "Renaming",
  .glo "BadRenaming",
  .glo "QuietError",
  .free "len",
  .free "range",
  .free "int",
  .free "bool",
  .free "tuple",
  .free "list",
  .free "isinstance",
  .free "all",
  .free "abs",
  .free "sorted",
  .free "set",
  .free "enumerate",
  .free "dict",
  .free "min",
  .free "max",
  .free "str",
  .free "super",
  .free "ValueError",
  .cls "Renaming",
  .mkr "Renaming",
  .meth "Renaming" "renamed",
  .meth "Renaming" "__call__",
  .meth "Renaming" "__len__",
  .meth "Renaming" "__eq__",
  .meth "Renaming" "__mul__",
  .meth "Renaming" "keeps",
  .meth "Renaming" "inverse",
  .noat "Renaming" "moved",
  .noat "Renaming" "becomes",
  .int "GREATEST" 999999999]
def exs (K : PySem.W.Frag) : List Bool := [decide (PySem.W.specialIn K (.builtin "object.__class__") "__get__" = some (some (.builtin "getset_descriptor.__get__"))),
  decide (PySem.W.takesIn K (.builtin "object.__class__") = some true),
  decide (PySem.W.findIn K (.ref (He.ga K "Renaming")) "__class__" = some (some (.builtin "object.__class__"))),
  decide (PySem.W.mroIn K (He.ga K "Renaming") (.type "object") = some true),
  decide (PySem.W.kitOne K (.ref (He.ga K "Renaming")) (.ref (He.ga K "Renaming")) = some true),
  decide (PySem.W.kitOne K (.type "tuple") (.ref (He.ga K "Renaming")) = some false),
  decide (PySem.W.kitOne K (.type "list") (.ref (He.ga K "Renaming")) = some false),
  decide (PySem.W.kitOne K (.ref (He.ga K "BadRenaming")) (.ref (He.ga K "QuietError")) = some true),
  decide (PySem.W.kitOne K (.ref (He.ga K "BadRenaming")) (.type "ValueError") = some true),
  decide (PySem.W.notFirst K (He.ga K "Renaming") (.ref (He.ga K "Renaming")) = true),
  decide (PySem.W.notFirst K (He.ga K "Renaming") (.type "tuple") = true),
  decide (PySem.W.selfFirst K (He.ga K "Renaming") = true),
  decide ((exB K (He.ga K "BadRenaming") (He.ma K (He.ga K "BadRenaming") "__init__")).all id = true),
  decide (supB PySem.Challenge.pw_quietedition_k29_renamings_made.main.file K (He.ga K "BadRenaming") (He.ma K (He.ga K "BadRenaming") "__init__") "BadRenaming.__init__" = true),
  decide (PySem.W.readsIn K (He.ga K "Renaming") (.type "type") = true),
  decide (PySem.W.specialIn K (.ref (He.ga K "Renaming")) "__getattribute__" = some (some (.builtin "type.__getattribute__"))),
  decide (cmB K (He.ga K "Renaming") (.type "type") "swap" = true),
  decide (starB K (cmG K (He.ga K "Renaming") (.type "type") "swap") "Renaming.swap" = true),
  decide (dfN K (He.ma K (He.ga K "BadRenaming") "__init__") = true),
  decide (tsB K (He.dflAt ("Renaming", some "__init__") 0 K) [] = true),
  decide (PySem.W.findIn K (.ref (He.ga K "BadRenaming")) "at" = some none)]
def wsl (K : PySem.W.Frag) : List FnWS := [fnWS K (He.ma K (He.ga K "BadRenaming") "__init__"), fnWS K (cmG K (He.ga K "Renaming") (.type "type") "swap")]
def wsv : List FnWS := [some ("__init__", "BadRenaming.__init__", defArgs s_BadRenaming_init, FuncBody.stmts (defBody s_BadRenaming_init), defScope s_BadRenaming_init, mainGlobals, ["__class__"], builtinsNs), some ("swap", "Renaming.swap", defArgs s_Renaming_swap, FuncBody.stmts (defBody s_Renaming_swap), defScope s_Renaming_swap, mainGlobals, [], builtinsNs)]
structure Tx (K : PySem.W.Frag) (mg : Str → Option Value) (sa : Addr) (sx : List Int) : Prop where
  c : He.SaysD fa fn K
  k : (exs K).all id = true
  w : wsl K = wsv
  g0 : mg "ascending" = some (.ref (He.ga K "ascending"))
  g1 : mg "is_short" = some (.ref (He.ga K "is_short"))
  g2 : mg "is_pair" = some (.ref (He.ga K "is_pair"))
  g3 : mg "check_pairs" = some (.ref (He.ga K "check_pairs"))
  g4 : mg "_law_bag" = some (.ref (He.ga K "_law_bag"))
  g5 : mg "_law_take" = some (.ref (He.ga K "_law_take"))
  g6 : mg "_law_of" = some (.ref (He.ga K "_law_of"))
  g7 : mg "_law_numbers" = some (.ref (He.ga K "_law_numbers"))
  g8 : mg "_law_pairs" = some (.ref (He.ga K "_law_pairs"))
  g9 : mg "_law_spoilt" = some (.ref (He.ga K "_law_spoilt"))
  g10 : mg "_law_is_short" = some (.ref (He.ga K "_law_is_short"))
  g11 : mg "_law_wrong" = some (.ref (He.ga K "_law_wrong"))
  g12 : mg "_law_made" = some (.ref (He.ga K "_law_made"))
  g13 : mg "_law_swapped" = some (.ref (He.ga K "_law_swapped"))
  g14 : mg "_law_is_right" = some (.ref (He.ga K "_law_is_right"))
  g15 : mg "law" = some (.ref (He.ga K "law"))
  g16 : mg "Renaming" = some (.ref (He.ga K "Renaming"))
  g17 : mg "BadRenaming" = some (.ref (He.ga K "BadRenaming"))
  g18 : mg "QuietError" = some (.ref (He.ga K "QuietError"))
  n0 : mg "len" = none
  n1 : mg "range" = none
  n2 : mg "int" = none
  n3 : mg "bool" = none
  n4 : mg "tuple" = none
  n5 : mg "list" = none
  n6 : mg "isinstance" = none
  n7 : mg "all" = none
  n8 : mg "abs" = none
  n9 : mg "sorted" = none
  n10 : mg "set" = none
  n11 : mg "enumerate" = none
  n12 : mg "dict" = none
  n13 : mg "min" = none
  n14 : mg "max" = none
  n15 : mg "str" = none
  n16 : mg "super" = none
  n17 : mg "ValueError" = none
  i0 : ∃ t, mg "GREATEST" = some (.int 999999999 t)
section
variable {K : PySem.W.Frag} {mg : Str → Option Value} {sa : Addr} {sx : List Int}
theorem tx_of {h : Heap} (X : K.In h) (G : h.Ns mainGlobals mg) (c : He.SaysD fa fn K) (k : (exs K).all id = true) (w : wsl K = wsv) : Tx K mg sa sx :=
  ⟨c, k, w,
    He.glo_ok X G (c.fact 0 (f := .glo "ascending") rfl),
    He.glo_ok X G (c.fact 1 (f := .glo "is_short") rfl),
    He.glo_ok X G (c.fact 2 (f := .glo "is_pair") rfl),
    He.glo_ok X G (c.fact 3 (f := .glo "check_pairs") rfl),
    He.glo_ok X G (c.fact 4 (f := .glo "_law_bag") rfl),
    He.glo_ok X G (c.fact 5 (f := .glo "_law_take") rfl),
    He.glo_ok X G (c.fact 6 (f := .glo "_law_of") rfl),
    He.glo_ok X G (c.fact 7 (f := .glo "_law_numbers") rfl),
    He.glo_ok X G (c.fact 8 (f := .glo "_law_pairs") rfl),
    He.glo_ok X G (c.fact 9 (f := .glo "_law_spoilt") rfl),
    He.glo_ok X G (c.fact 10 (f := .glo "_law_is_short") rfl),
    He.glo_ok X G (c.fact 11 (f := .glo "_law_wrong") rfl),
    He.glo_ok X G (c.fact 12 (f := .glo "_law_made") rfl),
    He.glo_ok X G (c.fact 13 (f := .glo "_law_swapped") rfl),
    He.glo_ok X G (c.fact 14 (f := .glo "_law_is_right") rfl),
    He.glo_ok X G (c.fact 15 (f := .glo "law") rfl),
    He.glo_ok X G (c.fact 16 (f := .glo "Renaming") rfl),
    He.glo_ok X G (c.fact 17 (f := .glo "BadRenaming") rfl),
    He.glo_ok X G (c.fact 18 (f := .glo "QuietError") rfl),
    He.free_ok X G (c.fact 19 (f := .free "len") rfl),
    He.free_ok X G (c.fact 20 (f := .free "range") rfl),
    He.free_ok X G (c.fact 21 (f := .free "int") rfl),
    He.free_ok X G (c.fact 22 (f := .free "bool") rfl),
    He.free_ok X G (c.fact 23 (f := .free "tuple") rfl),
    He.free_ok X G (c.fact 24 (f := .free "list") rfl),
    He.free_ok X G (c.fact 25 (f := .free "isinstance") rfl),
    He.free_ok X G (c.fact 26 (f := .free "all") rfl),
    He.free_ok X G (c.fact 27 (f := .free "abs") rfl),
    He.free_ok X G (c.fact 28 (f := .free "sorted") rfl),
    He.free_ok X G (c.fact 29 (f := .free "set") rfl),
    He.free_ok X G (c.fact 30 (f := .free "enumerate") rfl),
    He.free_ok X G (c.fact 31 (f := .free "dict") rfl),
    He.free_ok X G (c.fact 32 (f := .free "min") rfl),
    He.free_ok X G (c.fact 33 (f := .free "max") rfl),
    He.free_ok X G (c.fact 34 (f := .free "str") rfl),
    He.free_ok X G (c.fact 35 (f := .free "super") rfl),
    He.free_ok X G (c.fact 36 (f := .free "ValueError") rfl),
    He.int_ok X G (c.fact 48 (f := .int "GREATEST" 999999999) rfl)⟩
theorem i_GREATEST (T : Tx K mg sa sx) : ∃ t, mg "GREATEST" = some (.int 999999999 t) := T.i0
theorem g_ascending (T : Tx K mg sa sx) : mg "ascending" = some (.ref (He.ga K "ascending")) := T.g0
theorem g_is_short (T : Tx K mg sa sx) : mg "is_short" = some (.ref (He.ga K "is_short")) := T.g1
theorem g_is_pair (T : Tx K mg sa sx) : mg "is_pair" = some (.ref (He.ga K "is_pair")) := T.g2
theorem g_check_pairs (T : Tx K mg sa sx) : mg "check_pairs" = some (.ref (He.ga K "check_pairs")) := T.g3
theorem g__law_bag (T : Tx K mg sa sx) : mg "_law_bag" = some (.ref (He.ga K "_law_bag")) := T.g4
theorem g__law_take (T : Tx K mg sa sx) : mg "_law_take" = some (.ref (He.ga K "_law_take")) := T.g5
theorem g__law_of (T : Tx K mg sa sx) : mg "_law_of" = some (.ref (He.ga K "_law_of")) := T.g6
theorem g__law_numbers (T : Tx K mg sa sx) : mg "_law_numbers" = some (.ref (He.ga K "_law_numbers")) := T.g7
theorem g__law_pairs (T : Tx K mg sa sx) : mg "_law_pairs" = some (.ref (He.ga K "_law_pairs")) := T.g8
theorem g__law_spoilt (T : Tx K mg sa sx) : mg "_law_spoilt" = some (.ref (He.ga K "_law_spoilt")) := T.g9
theorem g__law_is_short (T : Tx K mg sa sx) : mg "_law_is_short" = some (.ref (He.ga K "_law_is_short")) := T.g10
theorem g__law_wrong (T : Tx K mg sa sx) : mg "_law_wrong" = some (.ref (He.ga K "_law_wrong")) := T.g11
theorem g__law_made (T : Tx K mg sa sx) : mg "_law_made" = some (.ref (He.ga K "_law_made")) := T.g12
theorem g__law_swapped (T : Tx K mg sa sx) : mg "_law_swapped" = some (.ref (He.ga K "_law_swapped")) := T.g13
theorem g__law_is_right (T : Tx K mg sa sx) : mg "_law_is_right" = some (.ref (He.ga K "_law_is_right")) := T.g14
theorem g_law (T : Tx K mg sa sx) : mg "law" = some (.ref (He.ga K "law")) := T.g15
theorem g_Renaming (T : Tx K mg sa sx) : mg "Renaming" = some (.ref (He.ga K "Renaming")) := T.g16
theorem g_BadRenaming (T : Tx K mg sa sx) : mg "BadRenaming" = some (.ref (He.ga K "BadRenaming")) := T.g17
theorem g_QuietError (T : Tx K mg sa sx) : mg "QuietError" = some (.ref (He.ga K "QuietError")) := T.g18
theorem n_len (T : Tx K mg sa sx) : mg "len" = none := T.n0
theorem n_range (T : Tx K mg sa sx) : mg "range" = none := T.n1
theorem n_int (T : Tx K mg sa sx) : mg "int" = none := T.n2
theorem n_bool (T : Tx K mg sa sx) : mg "bool" = none := T.n3
theorem n_tuple (T : Tx K mg sa sx) : mg "tuple" = none := T.n4
theorem n_list (T : Tx K mg sa sx) : mg "list" = none := T.n5
theorem n_isinstance (T : Tx K mg sa sx) : mg "isinstance" = none := T.n6
theorem n_all (T : Tx K mg sa sx) : mg "all" = none := T.n7
theorem n_abs (T : Tx K mg sa sx) : mg "abs" = none := T.n8
theorem n_sorted (T : Tx K mg sa sx) : mg "sorted" = none := T.n9
theorem n_set (T : Tx K mg sa sx) : mg "set" = none := T.n10
theorem n_enumerate (T : Tx K mg sa sx) : mg "enumerate" = none := T.n11
theorem n_dict (T : Tx K mg sa sx) : mg "dict" = none := T.n12
theorem n_min (T : Tx K mg sa sx) : mg "min" = none := T.n13
theorem n_max (T : Tx K mg sa sx) : mg "max" = none := T.n14
theorem n_str (T : Tx K mg sa sx) : mg "str" = none := T.n15
theorem n_super (T : Tx K mg sa sx) : mg "super" = none := T.n16
theorem n_ValueError (T : Tx K mg sa sx) : mg "ValueError" = none := T.n17
theorem exs_at (T : Tx K mg sa sx) (i : Nat) {b : Bool} (h : (exs K)[i]? = some b := by rfl) : b = true := List.all_eq_true.mp T.k b (List.mem_of_getElem? h)
theorem x_cget (T : Tx K mg sa sx) : PySem.W.specialIn K (.builtin "object.__class__") "__get__" = some (some (.builtin "getset_descriptor.__get__")) := of_decide_eq_true (exs_at T 0)
theorem x_ctak (T : Tx K mg sa sx) : PySem.W.takesIn K (.builtin "object.__class__") = some true := of_decide_eq_true (exs_at T 1)
theorem x_cc (T : Tx K mg sa sx) : PySem.W.findIn K (.ref (He.ga K "Renaming")) "__class__" = some (some (.builtin "object.__class__")) := of_decide_eq_true (exs_at T 2)
theorem x_mro (T : Tx K mg sa sx) : PySem.W.mroIn K (He.ga K "Renaming") (.type "object") = some true := of_decide_eq_true (exs_at T 3)
theorem x_kit (T : Tx K mg sa sx) : PySem.W.kitOne K (.ref (He.ga K "Renaming")) (.ref (He.ga K "Renaming")) = some true := of_decide_eq_true (exs_at T 4)
theorem x_kitt (T : Tx K mg sa sx) : PySem.W.kitOne K (.type "tuple") (.ref (He.ga K "Renaming")) = some false := of_decide_eq_true (exs_at T 5)
theorem x_kitl (T : Tx K mg sa sx) : PySem.W.kitOne K (.type "list") (.ref (He.ga K "Renaming")) = some false := of_decide_eq_true (exs_at T 6)
theorem x_kitq (T : Tx K mg sa sx) : PySem.W.kitOne K (.ref (He.ga K "BadRenaming")) (.ref (He.ga K "QuietError")) = some true := of_decide_eq_true (exs_at T 7)
theorem x_kitv (T : Tx K mg sa sx) : PySem.W.kitOne K (.ref (He.ga K "BadRenaming")) (.type "ValueError") = some true := of_decide_eq_true (exs_at T 8)
theorem x_nf (T : Tx K mg sa sx) : PySem.W.notFirst K (He.ga K "Renaming") (.ref (He.ga K "Renaming")) = true := of_decide_eq_true (exs_at T 9)
theorem x_nft (T : Tx K mg sa sx) : PySem.W.notFirst K (He.ga K "Renaming") (.type "tuple") = true := of_decide_eq_true (exs_at T 10)
theorem x_first (T : Tx K mg sa sx) : PySem.W.selfFirst K (He.ga K "Renaming") = true := of_decide_eq_true (exs_at T 11)
theorem x_ebm (T : Tx K mg sa sx) : (exB K (He.ga K "BadRenaming") (He.ma K (He.ga K "BadRenaming") "__init__")).all id = true := of_decide_eq_true (exs_at T 12)
theorem x_sbm (T : Tx K mg sa sx) : supB PySem.Challenge.pw_quietedition_k29_renamings_made.main.file K (He.ga K "BadRenaming") (He.ma K (He.ga K "BadRenaming") "__init__") "BadRenaming.__init__" = true := of_decide_eq_true (exs_at T 13)
theorem x_crd (T : Tx K mg sa sx) : PySem.W.readsIn K (He.ga K "Renaming") (.type "type") = true := of_decide_eq_true (exs_at T 14)
theorem x_cga (T : Tx K mg sa sx) : PySem.W.specialIn K (.ref (He.ga K "Renaming")) "__getattribute__" = some (some (.builtin "type.__getattribute__")) := of_decide_eq_true (exs_at T 15)
theorem x_of (T : Tx K mg sa sx) : cmB K (He.ga K "Renaming") (.type "type") "swap" = true := of_decide_eq_true (exs_at T 16)
theorem x_ofst (T : Tx K mg sa sx) : starB K (cmG K (He.ga K "Renaming") (.type "type") "swap") "Renaming.swap" = true := of_decide_eq_true (exs_at T 17)
theorem x_dbm (T : Tx K mg sa sx) : dfN K (He.ma K (He.ga K "BadRenaming") "__init__") = true := of_decide_eq_true (exs_at T 18)
theorem x_dfl (T : Tx K mg sa sx) : tsB K (He.dflAt ("Renaming", some "__init__") 0 K) [] = true := of_decide_eq_true (exs_at T 19)
theorem x_nob (T : Tx K mg sa sx) : PySem.W.findIn K (.ref (He.ga K "BadRenaming")) "at" = some none := of_decide_eq_true (exs_at T 20)
theorem c_Renaming (T : Tx K mg sa sx) : Cls K (He.ga K "Renaming") := He.cls_ok (T.c.fact 37 (f := .cls "Renaming") rfl)
theorem m_Renaming (T : Tx K mg sa sx) : Mk K (He.ga K "Renaming") (He.ma K (He.ga K "Renaming") "__init__") := He.mkr_ok (T.c.fact 38 (f := .mkr "Renaming") rfl)
theorem me_Renaming_renamed (T : Tx K mg sa sx) : Meth K (He.ga K "Renaming") "renamed" (He.ma K (He.ga K "Renaming") "renamed") := He.meth_ok (T.c.fact 39 (f := .meth "Renaming" "renamed") rfl)
theorem me_Renaming_call (T : Tx K mg sa sx) : Meth K (He.ga K "Renaming") "__call__" (He.ma K (He.ga K "Renaming") "__call__") := He.meth_ok (T.c.fact 40 (f := .meth "Renaming" "__call__") rfl)
theorem me_Renaming_len (T : Tx K mg sa sx) : Meth K (He.ga K "Renaming") "__len__" (He.ma K (He.ga K "Renaming") "__len__") := He.meth_ok (T.c.fact 41 (f := .meth "Renaming" "__len__") rfl)
theorem me_Renaming_eq (T : Tx K mg sa sx) : Meth K (He.ga K "Renaming") "__eq__" (He.ma K (He.ga K "Renaming") "__eq__") := He.meth_ok (T.c.fact 42 (f := .meth "Renaming" "__eq__") rfl)
theorem me_Renaming_mul (T : Tx K mg sa sx) : Meth K (He.ga K "Renaming") "__mul__" (He.ma K (He.ga K "Renaming") "__mul__") := He.meth_ok (T.c.fact 43 (f := .meth "Renaming" "__mul__") rfl)
theorem me_Renaming_keeps (T : Tx K mg sa sx) : Meth K (He.ga K "Renaming") "keeps" (He.ma K (He.ga K "Renaming") "keeps") := He.meth_ok (T.c.fact 44 (f := .meth "Renaming" "keeps") rfl)
theorem me_Renaming_inverse (T : Tx K mg sa sx) : Meth K (He.ga K "Renaming") "inverse" (He.ma K (He.ga K "Renaming") "inverse") := He.meth_ok (T.c.fact 45 (f := .meth "Renaming" "inverse") rfl)
theorem na_Renaming_moved (T : Tx K mg sa sx) : NoAttr K (He.ga K "Renaming") "moved" := He.noat_ok (T.c.fact 46 (f := .noat "Renaming" "moved") rfl)
theorem na_Renaming_becomes (T : Tx K mg sa sx) : NoAttr K (He.ga K "Renaming") "becomes" := He.noat_ok (T.c.fact 47 (f := .noat "Renaming" "becomes") rfl)
theorem f_ascending (T : Tx K mg sa sx) : ∃ fd, FunD K "ascending" "ascending" (defArgs s_ascending) (defBody s_ascending) (defScope s_ascending) [] [] (He.ga K "ascending") fd := T.c.def_ 0 (d := d_ascending) rfl
theorem f_is_short (T : Tx K mg sa sx) : ∃ fd, FunD K "is_short" "is_short" (defArgs s_is_short) (defBody s_is_short) (defScope s_is_short) [] [] (He.ga K "is_short") fd := T.c.def_ 1 (d := d_is_short) rfl
theorem f_is_pair (T : Tx K mg sa sx) : ∃ fd, FunD K "is_pair" "is_pair" (defArgs s_is_pair) (defBody s_is_pair) (defScope s_is_pair) [] [] (He.ga K "is_pair") fd := T.c.def_ 2 (d := d_is_pair) rfl
theorem f_check_pairs (T : Tx K mg sa sx) : ∃ fd, FunD K "check_pairs" "check_pairs" (defArgs s_check_pairs) (defBody s_check_pairs) (defScope s_check_pairs) [] [] (He.ga K "check_pairs") fd := T.c.def_ 3 (d := d_check_pairs) rfl
theorem f_Renaming_init (T : Tx K mg sa sx) : ∃ fd, FunD K "__init__" "Renaming.__init__" (defArgs s_Renaming_init) (defBody s_Renaming_init) (defScope s_Renaming_init) [V.ref (He.dflAt ("Renaming", some "__init__") 0 K)] [] (He.ma K (He.ga K "Renaming") "__init__") fd := T.c.def_ 4 (d := d_Renaming_init) rfl
theorem f_Renaming_renamed (T : Tx K mg sa sx) : ∃ fd, FunD K "renamed" "Renaming.renamed" (defArgs s_Renaming_renamed) (defBody s_Renaming_renamed) (defScope s_Renaming_renamed) [] [] (He.ma K (He.ga K "Renaming") "renamed") fd := T.c.def_ 5 (d := d_Renaming_renamed) rfl
theorem f_Renaming_call (T : Tx K mg sa sx) : ∃ fd, FunD K "__call__" "Renaming.__call__" (defArgs s_Renaming_call) (defBody s_Renaming_call) (defScope s_Renaming_call) [] [] (He.ma K (He.ga K "Renaming") "__call__") fd := T.c.def_ 6 (d := d_Renaming_call) rfl
theorem f_Renaming_len (T : Tx K mg sa sx) : ∃ fd, FunD K "__len__" "Renaming.__len__" (defArgs s_Renaming_len) (defBody s_Renaming_len) (defScope s_Renaming_len) [] [] (He.ma K (He.ga K "Renaming") "__len__") fd := T.c.def_ 7 (d := d_Renaming_len) rfl
theorem f_Renaming_eq (T : Tx K mg sa sx) : ∃ fd, FunD K "__eq__" "Renaming.__eq__" (defArgs s_Renaming_eq) (defBody s_Renaming_eq) (defScope s_Renaming_eq) [] [] (He.ma K (He.ga K "Renaming") "__eq__") fd := T.c.def_ 8 (d := d_Renaming_eq) rfl
theorem f_Renaming_mul (T : Tx K mg sa sx) : ∃ fd, FunD K "__mul__" "Renaming.__mul__" (defArgs s_Renaming_mul) (defBody s_Renaming_mul) (defScope s_Renaming_mul) [] [] (He.ma K (He.ga K "Renaming") "__mul__") fd := T.c.def_ 9 (d := d_Renaming_mul) rfl
theorem f_Renaming_keeps (T : Tx K mg sa sx) : ∃ fd, FunD K "keeps" "Renaming.keeps" (defArgs s_Renaming_keeps) (defBody s_Renaming_keeps) (defScope s_Renaming_keeps) [] [] (He.ma K (He.ga K "Renaming") "keeps") fd := T.c.def_ 10 (d := d_Renaming_keeps) rfl
theorem f_Renaming_inverse (T : Tx K mg sa sx) : ∃ fd, FunD K "inverse" "Renaming.inverse" (defArgs s_Renaming_inverse) (defBody s_Renaming_inverse) (defScope s_Renaming_inverse) [] [] (He.ma K (He.ga K "Renaming") "inverse") fd := T.c.def_ 11 (d := d_Renaming_inverse) rfl
theorem f_l_bag (T : Tx K mg sa sx) : ∃ fd, FunD K "_law_bag" "_law_bag" (defArgs s_l_bag) (defBody s_l_bag) (defScope s_l_bag) [] [] (He.ga K "_law_bag") fd := T.c.def_ 12 (d := d_l_bag) rfl
theorem f_l_take (T : Tx K mg sa sx) : ∃ fd, FunD K "_law_take" "_law_take" (defArgs s_l_take) (defBody s_l_take) (defScope s_l_take) [] [] (He.ga K "_law_take") fd := T.c.def_ 13 (d := d_l_take) rfl
theorem f_l_of (T : Tx K mg sa sx) : ∃ fd, FunD K "_law_of" "_law_of" (defArgs s_l_of) (defBody s_l_of) (defScope s_l_of) [] [] (He.ga K "_law_of") fd := T.c.def_ 14 (d := d_l_of) rfl
theorem f_l_numbers (T : Tx K mg sa sx) : ∃ fd, FunD K "_law_numbers" "_law_numbers" (defArgs s_l_numbers) (defBody s_l_numbers) (defScope s_l_numbers) [] [] (He.ga K "_law_numbers") fd := T.c.def_ 15 (d := d_l_numbers) rfl
theorem f_l_pairs (T : Tx K mg sa sx) : ∃ fd, FunD K "_law_pairs" "_law_pairs" (defArgs s_l_pairs) (defBody s_l_pairs) (defScope s_l_pairs) [] [] (He.ga K "_law_pairs") fd := T.c.def_ 16 (d := d_l_pairs) rfl
theorem f_l_spoilt (T : Tx K mg sa sx) : ∃ fd, FunD K "_law_spoilt" "_law_spoilt" (defArgs s_l_spoilt) (defBody s_l_spoilt) (defScope s_l_spoilt) [] [] (He.ga K "_law_spoilt") fd := T.c.def_ 17 (d := d_l_spoilt) rfl
theorem f_l_is_short (T : Tx K mg sa sx) : ∃ fd, FunD K "_law_is_short" "_law_is_short" (defArgs s_l_is_short) (defBody s_l_is_short) (defScope s_l_is_short) [] [] (He.ga K "_law_is_short") fd := T.c.def_ 18 (d := d_l_is_short) rfl
theorem f_l_wrong (T : Tx K mg sa sx) : ∃ fd, FunD K "_law_wrong" "_law_wrong" (defArgs s_l_wrong) (defBody s_l_wrong) (defScope s_l_wrong) [] [] (He.ga K "_law_wrong") fd := T.c.def_ 19 (d := d_l_wrong) rfl
theorem f_l_made (T : Tx K mg sa sx) : ∃ fd, FunD K "_law_made" "_law_made" (defArgs s_l_made) (defBody s_l_made) (defScope s_l_made) [] [] (He.ga K "_law_made") fd := T.c.def_ 20 (d := d_l_made) rfl
theorem f_l_swapped (T : Tx K mg sa sx) : ∃ fd, FunD K "_law_swapped" "_law_swapped" (defArgs s_l_swapped) (defBody s_l_swapped) (defScope s_l_swapped) [] [] (He.ga K "_law_swapped") fd := T.c.def_ 21 (d := d_l_swapped) rfl
theorem f_l_is_right (T : Tx K mg sa sx) : ∃ fd, FunD K "_law_is_right" "_law_is_right" (defArgs s_l_is_right) (defBody s_l_is_right) (defScope s_l_is_right) [] [] (He.ga K "_law_is_right") fd := T.c.def_ 22 (d := d_l_is_right) rfl
theorem f_law (T : Tx K mg sa sx) : ∃ fd, FunD K "law" "law" (defArgs s_law) (defBody s_law) (defScope s_law) [] [] (He.ga K "law") fd := T.c.def_ 23 (d := d_law) rfl
end
end K29
namespace K29
open PySem PySem.Spec PyProof.Rows Cm
open L2 hiding Same
abbrev R : PySem.W.OpenRow := PySem.W.OpenLaw.row PySem.Challenge.rw_quietedition_k29_renamings_made
def part (n : Nat) (g : Addr → Option Obj) : PySem.W.Frag := He.frG g (cStatics :: He.asD g n)
def seen (n : Nat) (g : Addr → Option Obj) : He.AlD × List FnWS × Bool := (He.obsD fa fn (part n g), wsl (part n g), (exs (part n g)).all id)
def hkz (n : Nat) : PySem.W.Hook where
  α := He.AlD × List FnWS × Bool
  obs s := seen n s.heap.get?
  val _ := (He.valD fn, wsv, true)
  says _ h := ∃ K : PySem.W.Frag, K.In h ∧ He.SaysD fa fn K ∧ wsl K = wsv ∧ (exs K).all id = true
  of _ _ e := ⟨_, He.frG_in, congrArg Prod.fst e, congrArg (fun z => z.2.1) e, congrArg (fun z => z.2.2) e⟩
  keeps _ _ _ := fun ⟨K, i, c⟩ k => ⟨K, PySem.W.Frag.In.keeps i k, c⟩
def ob (s : PySem.W.SharedT) : He.AlD × List FnWS × Bool := seen 5 (HandSHeadRun.getT s)
theorem ob_eq (s : PySem.W.SharedT) : ob s = (hkz 5).obs s.abs := by
  have e : HandSHeadRun.getT s = s.abs.heap.get? := funext (HandSHeadRun.getT_eq s)
  show seen 5 _ = seen 5 _
  rw [e]
def loose0 : List Str := ["_wall", "QuietError", "BadRenaming", "ascending", "is_short", "is_pair", "check_pairs", "Renaming", "_law_bag", "_law_take", "_law_of", "_law_numbers", "_law_pairs", "_law_spoilt", "_law_is_short", "_law_wrong", "_law_made", "_law_swapped", "_law_is_right", "GREATEST"]
def loose : List Str := loose0
theorem run (w : World) : HandSHeadRun.RunEq R (PySem.W.view R.prog [24]) (hkz 5) ob 3000 loose w := by
  intro os
  kernel_rfl
end K29
namespace K29
open PySem PySem.Spec PyProof.Rows Cm
open L2 hiding Same
open NdefX
/-! ### BadRenaming -/
structure PF (P : Program) : Prop where
  file : P.main.file = PySem.Challenge.pw_quietedition_k29_renamings_made.main.file
  top : (P.main.scope.names.lookup ("super" : Str)).isSome = false
abbrev BC (K : PySem.W.Frag) : Addr := He.ga K "BadRenaming"
def spBad (K : PySem.W.Frag) : Sp := fun vs H Q _ => ∃ (a : Addr) (i : Int), vs = [.ref a, .int i] ∧ -1 ≤ i ∧ i ≤ 20 ∧ H a = some (exo a (BC K) none) ∧
  ∀ (dx : Addr), H dx = none → dx ≠ a → Q .non (upd (upd H dx (exd dx [("at", .int i)])) a (exo a (BC K) (some dx)))
theorem at_len {i : Int} (h1 : -1 ≤ i) (h2 : i ≤ 20) : ((toString i : String) : Str).length ≤ 5 := by
  have h : ∀ n ≤ 21, ((toString ((n : Nat) - 1 : Int) : String) : Str).length ≤ 5 := by decide +kernel
  have e : i = (((i + 1).toNat : Nat) : Int) - 1 := by omega
  rw [e]
  exact h _ (by omega)
section
variable {P : Program} {w : World} {K : PySem.W.Frag} {mg : Str → Option Value} {base : Heap} {sa : Addr} {sx : List Int}
theorem exb (T : Tx K mg sa sx) : ExB K (BC K) (He.ma K (BC K) "__init__") := exB_ok (x_ebm T)
theorem ws0 (T : Tx K mg sa sx) : fnWS K (He.ma K (BC K) "__init__") = some (("__init__" : Str), ("BadRenaming.__init__" : Str), defArgs s_BadRenaming_init, FuncBody.stmts (defBody s_BadRenaming_init), defScope s_BadRenaming_init, mainGlobals, [("__class__" : Str)], builtinsNs) :=
  congrArg (fun z : List FnWS => z.headD none) T.w
theorem ws1 (T : Tx K mg sa sx) : fnWS K (cmG K (He.ga K "Renaming") (.type "type") "swap") = some (("swap" : Str), ("Renaming.swap" : Str), defArgs s_Renaming_swap, FuncBody.stmts (defBody s_Renaming_swap), defScope s_Renaming_swap, mainGlobals, ([] : List Str), builtinsNs) :=
  congrArg (fun z : List FnWS => z.tail.headD none) T.w
theorem ok_bad (T : Tx K mg sa sx) (hP : PF P) : ∃ fd, FnOk P w K mg base CX0 2 (He.ma K (BC K) "__init__") fd ["self", "at"] (spBad K) ∧ Binds K fd ["self", "at"] [] := by
  obtain ⟨cc, c, fd, S⟩ := supC_of (P := P) (exb T) (ws0 T) (by rw [hP.file]; exact x_sbm T) (n_super T)
  refine ⟨fd, sup_ok S (N := ["self", "at", "__class__"]) (ps := ["self", "at"]) (nscope_by (by decide +kernel)) (by rfl) (by rfl) (by rfl) hP.top (fun vs H Q E h => ?_) (fun A outer s H vs Q E hr h => ?_) (fun L env he => ?_) (fun L => ?_) (fun L => ?_) (fun L env he => ?_), ?_⟩
  · obtain ⟨a, i, rfl, _⟩ := h; rfl
  · obtain ⟨a, i, rfl, hi, hi2, ha, q⟩ := h
    refine ⟨_, _, a, pe_joined (PJ.cons pe_str (PJ.cons (pe_fmt (pv 1)) PJ.nil)), (pss_one (ps_ost (pv 0) (pv 1))), rfl, ha, ?_⟩
    refine ⟨_, rfl, by rw [emp_app]; exact sz1 (by decide +kernel), _, rfl, .inr ⟨i, rfl, log_of (Nat.lt_of_le_of_lt (show i.natAbs ≤ 20 by omega) (by decide)), _, rfl, ?_, Nat.le_refl _, ha, ?_⟩⟩
    · rw [app_len, emp_app]
      have := at_len hi hi2
      have h2 : (("no renaming: pair " : Str)).length = 18 := by decide +kernel
      rw [h2]
      exact sz1 (by omega)
    · exact ⟨_, rfl, _, rfl, a, _, rfl, (exb T).oex, x_nob T, .inl ⟨ha, fun dx hd hne => q dx hd hne⟩⟩
  · subst he; exact ⟨_, rfl⟩
  · rfl
  · rfl
  · subst he; rfl
  · obtain ⟨dV, kV, doc, pm, an, ct, e⟩ := S.fdE
    obtain ⟨oc, od, osl, lk⟩ := S.lk
    have hd := dfN_ok lk (x_dbm T)
    subst e
    obtain rfl : dV = Value.none := hd
    exact .all fun us hl => match us, hl with | [_, _], _ => rfl
end
end K29
/-! tables of pairs as permutations -/
namespace K29
abbrev Pr := Int × Int
def lk : List Pr → Int → Int
  | [], n => n
  | p :: ps, n => if p.1 = n then p.2 else lk ps n
abbrev f1 (ps : List Pr) : List Int := ps.map Prod.fst
abbrev f2 (ps : List Pr) : List Int := ps.map Prod.snd
structure Val (ps : List Pr) : Prop where
  n1 : (f1 ps).Nodup
  n2 : (f2 ps).Nodup
  cl : ∀ p ∈ ps, p.2 ∈ f1 ps
theorem f1_mem {ps : List Pr} {p : Pr} (h : p ∈ ps) : p.1 ∈ f1 ps := List.mem_map_of_mem (f := Prod.fst) h
theorem f2_mem {ps : List Pr} {p : Pr} (h : p ∈ ps) : p.2 ∈ f2 ps := List.mem_map_of_mem (f := Prod.snd) h
theorem mem_f1 {ps : List Pr} {a : Int} (h : a ∈ f1 ps) : ∃ b, (a, b) ∈ ps := by
  obtain ⟨⟨x, b⟩, hp, rfl⟩ := List.mem_map.mp h
  exact ⟨b, hp⟩
theorem mem_f2 {ps : List Pr} {b : Int} (h : b ∈ f2 ps) : ∃ a, (a, b) ∈ ps := by
  obtain ⟨⟨a, x⟩, hp, rfl⟩ := List.mem_map.mp h
  exact ⟨a, hp⟩
theorem lk_mem {a b : Int} : ∀ {ps : List Pr}, (f1 ps).Nodup → (a, b) ∈ ps → lk ps a = b
  | [], _, h => by cases h
  | p :: ps, n, h => by
    unfold f1 at n
    rw [List.map_cons, List.nodup_cons] at n
    rw [lk]
    rcases List.mem_cons.mp h with e | h
    · rw [← e, if_pos rfl]
    · have : p.1 ≠ a := fun e => n.1 (e ▸ f1_mem h)
      rw [if_neg this, lk_mem n.2 h]
theorem lk_no {a : Int} : ∀ {ps : List Pr}, a ∉ f1 ps → lk ps a = a
  | [], _ => rfl
  | p :: ps, h => by
    unfold f1 at h
    rw [List.map_cons, List.mem_cons] at h
    rw [lk, if_neg (fun e => h (.inl e.symm)), lk_no fun z => h (.inr z)]
theorem lk_or (ps : List Pr) (n1 : (f1 ps).Nodup) (a : Int) : (∃ b, (a, b) ∈ ps ∧ lk ps a = b) ∨ (a ∉ f1 ps ∧ lk ps a = a) := by
  by_cases h : a ∈ f1 ps
  · obtain ⟨b, hb⟩ := mem_f1 h
    exact .inl ⟨b, hb, lk_mem n1 hb⟩
  · exact .inr ⟨h, lk_no h⟩
/-- two tables of the same members -/
theorem lk_ext {ps qs : List Pr} (h1 : (f1 ps).Nodup) (h2 : (f1 qs).Nodup) (h : ∀ a b, a ≠ b → ((a, b) ∈ ps ↔ (a, b) ∈ qs)) (n : Int) : lk ps n = lk qs n := by
  rcases lk_or ps h1 n with ⟨b, hb, e⟩ | ⟨hn, e⟩
  · rw [e]
    by_cases z : n = b
    · subst z
      rcases lk_or qs h2 n with ⟨c, hc, e2⟩ | ⟨_, e2⟩
      · by_cases y : n = c
        · rw [e2]; exact y
        · have := lk_mem h1 ((h n c y).mpr hc)
          rw [e2, ← this, e]
      · exact e2.symm
    · exact (lk_mem h2 ((h n b z).mp hb)).symm
  · rw [e]
    rcases lk_or qs h2 n with ⟨c, hc, e2⟩ | ⟨_, e2⟩
    · by_cases y : n = c
      · rw [e2]; exact y
      · exact absurd (f1_mem ((h n c y).mpr hc)) hn
    · exact e2.symm
/-! ### in order -/
def ple (a b : Pr) : Bool := decide (a.1 < b.1) || (decide (a.1 = b.1) && decide (a.2 ≤ b.2))
theorem ple_iff {a b : Pr} : ple a b = true ↔ a.1 < b.1 ∨ (a.1 = b.1 ∧ a.2 ≤ b.2) := by simp [ple]
theorem ple_trans (a b c : Pr) (h1 : ple a b = true) (h2 : ple b c = true) : ple a c = true := by rw [ple_iff] at *; omega
theorem ple_total (a b : Pr) : (ple a b || ple b a) = true := by rw [Bool.or_eq_true, ple_iff, ple_iff]; omega
theorem ple_anti {a b : Pr} (h1 : ple a b = true) (h2 : ple b a = true) : a = b := by
  rw [ple_iff] at *
  have e1 : a.1 = b.1 := by omega
  have e2 : a.2 = b.2 := by omega
  exact Prod.ext e1 e2
def so (ps : List Pr) : List Pr := ps.mergeSort ple
theorem so_perm (ps : List Pr) : (so ps).Perm ps := List.mergeSort_perm ps _
theorem so_pw (ps : List Pr) : (so ps).Pairwise fun a b => ple a b = true := List.pairwise_mergeSort ple_trans ple_total ps
theorem so_uniq {ps qs : List Pr} (h : ps.Perm qs) : so ps = so qs :=
  List.Perm.eq_of_pairwise (le := fun a b => ple a b = true) (fun _ _ _ _ h1 h2 => ple_anti h1 h2) (so_pw ps) (so_pw qs) ((so_perm ps).trans (h.trans (so_perm qs).symm))
theorem so_so (ps : List Pr) : so (so ps) = so ps := so_uniq (so_perm ps)
def moves (ps : List Pr) : List Pr := ps.filter fun p => decide (p.1 ≠ p.2)
def mv (ps : List Pr) : List Pr := so (moves ps)
theorem mem_moves {ps : List Pr} {p : Pr} : p ∈ moves ps ↔ p ∈ ps ∧ p.1 ≠ p.2 := by unfold moves; rw [List.mem_filter, decide_eq_true_iff]
theorem mem_mv {ps : List Pr} {p : Pr} : p ∈ mv ps ↔ p ∈ ps ∧ p.1 ≠ p.2 := (so_perm _).mem_iff.trans mem_moves
theorem nd_perm {ps qs : List Pr} (h : ps.Perm qs) (n : (f1 qs).Nodup) : (f1 ps).Nodup := (h.map Prod.fst).nodup_iff.mpr n
theorem nd_moves {ps : List Pr} (n : (f1 ps).Nodup) : (f1 (moves ps)).Nodup := ((List.filter_sublist (l := ps)).map Prod.fst).nodup n
theorem nd2_moves {ps : List Pr} (n : (f2 ps).Nodup) : (f2 (moves ps)).Nodup := ((List.filter_sublist (l := ps)).map Prod.snd).nodup n
theorem nd_mv {ps : List Pr} (n : (f1 ps).Nodup) : (f1 (mv ps)).Nodup := nd_perm (so_perm _) (nd_moves n)
theorem nd2_mv {ps : List Pr} (n : (f2 ps).Nodup) : (f2 (mv ps)).Nodup := ((so_perm (moves ps)).map Prod.snd).nodup_iff.mpr (nd2_moves n)
theorem lk_mv {ps : List Pr} (n1 : (f1 ps).Nodup) (n : Int) : lk (mv ps) n = lk ps n :=
  lk_ext (nd_mv n1) n1 (fun a b h => by rw [mem_mv]; exact ⟨fun z => z.1, fun z => ⟨z, h⟩⟩) n
theorem inj2 {ps : List Pr} {p q : Pr} : (f2 ps).Nodup → p ∈ ps → q ∈ ps → p.2 = q.2 → p = q := by
  induction ps with
  | nil => intro _ h; cases h
  | cons x xs ih =>
    intro n hp hq e
    unfold f2 at n
    rw [List.map_cons, List.nodup_cons] at n
    rcases List.mem_cons.mp hp with a1 | a1 <;> rcases List.mem_cons.mp hq with a2 | a2
    · rw [a1, a2]
    · exact absurd (show x.2 ∈ xs.map Prod.snd by rw [← a1, e]; exact f2_mem a2) n.1
    · exact absurd (show x.2 ∈ xs.map Prod.snd by rw [← a2, ← e]; exact f2_mem a1) n.1
    · exact ih n.2 a1 a2 e
theorem val_mv {ps : List Pr} (h : Val ps) : Val (mv ps) := by
  refine ⟨nd_mv h.n1, nd2_mv h.n2, fun p hp => ?_⟩
  obtain ⟨h1, h2⟩ := mem_mv.mp hp
  obtain ⟨c, hc⟩ := mem_f1 (h.cl p h1)
  refine f1_mem (p := (p.2, c)) (mem_mv.mpr ⟨hc, fun e => ?_⟩)
  have e2 : p = (p.2, c) := inj2 h.n2 h1 hc e
  exact h2 (congrArg Prod.fst e2)
/-! ### the inverse -/
def fl2 (ps : List Pr) : List Pr := ps.map fun p => (p.2, p.1)
theorem f1_fl (ps : List Pr) : f1 (fl2 ps) = f2 ps := by unfold fl2 f1 f2; rw [List.map_map]; rfl
theorem f2_fl (ps : List Pr) : f2 (fl2 ps) = f1 ps := by unfold fl2 f1 f2; rw [List.map_map]; rfl
theorem mem_fl {ps : List Pr} {a b : Int} : (a, b) ∈ fl2 ps ↔ (b, a) ∈ ps := by
  unfold fl2
  rw [List.mem_map]
  constructor
  · rintro ⟨⟨x, y⟩, h, e⟩
    cases e
    exact h
  · intro h; exact ⟨(b, a), h, rfl⟩
theorem sub_len : ∀ {xs ys : List Int}, xs.Nodup → (∀ x ∈ xs, x ∈ ys) → xs.length ≤ ys.length
  | [], _, _, _ => Nat.zero_le _
  | x :: xs, ys, n, h => by
    rw [List.nodup_cons] at n
    have hx := h x List.mem_cons_self
    have := sub_len (xs := xs) (ys := ys.erase x) n.2 fun y hy => (List.mem_erase_of_ne (fun e => n.1 (by rw [← e]; exact hy))).mpr (h y (List.mem_cons_of_mem _ hy))
    rw [List.length_erase_of_mem hx] at this
    have := List.length_pos_of_mem hx
    simp only [List.length_cons]; omega
theorem sub_back {xs ys : List Int} (nx : xs.Nodup) (h : ∀ x ∈ xs, x ∈ ys) (l : ys.length ≤ xs.length) : ∀ y ∈ ys, y ∈ xs := by
  intro y hy
  by_cases c : y ∈ xs
  · exact c
  · have := sub_len (xs := y :: xs) (ys := ys) (List.nodup_cons.mpr ⟨c, nx⟩) fun z hz => (List.mem_cons.mp hz).elim (fun e => e ▸ hy) (h z)
    simp only [List.length_cons] at this; omega
theorem Val.back {ps : List Pr} (h : Val ps) : ∀ p ∈ ps, p.1 ∈ f2 ps := fun p hp =>
  sub_back h.n2 (fun x hx => by obtain ⟨a, ha⟩ := mem_f2 hx; exact h.cl _ ha) (by simp [f1, f2]) _ (f1_mem hp)
theorem val_fl {ps : List Pr} (h : Val ps) : Val (fl2 ps) := by
  refine ⟨by rw [f1_fl]; exact h.n2, by rw [f2_fl]; exact h.n1, fun p hp => ?_⟩
  obtain ⟨a, b⟩ := p
  rw [f1_fl]
  exact h.back _ (mem_fl.mp hp)
theorem lk_fl {ps : List Pr} (h : Val ps) (n : Int) : lk (fl2 ps) (lk ps n) = n := by
  rcases lk_or ps h.n1 n with ⟨b, hb, e⟩ | ⟨hn, e⟩
  · rw [e]; exact lk_mem (val_fl h).n1 (mem_fl.mpr hb)
  · rw [e]
    refine lk_no fun z => hn ?_
    rw [f1_fl] at z
    obtain ⟨a, ha⟩ := mem_f2 z
    exact h.cl _ ha
theorem fl_fl (ps : List Pr) : fl2 (fl2 ps) = ps := by
  unfold fl2
  rw [List.map_map, show ((fun p : Pr => (p.2, p.1)) ∘ fun p : Pr => (p.2, p.1)) = id from rfl, List.map_id]
theorem moves_id {ps : List Pr} (h : ∀ p ∈ ps, p.1 ≠ p.2) : moves ps = ps := List.filter_eq_self.mpr fun p hp => decide_eq_true (h p hp)
theorem mv_ne {ps : List Pr} : ∀ p ∈ mv ps, p.1 ≠ p.2 := fun p hp => (mem_mv.mp hp).2
theorem fl_ne {ps : List Pr} (h : ∀ p ∈ ps, p.1 ≠ p.2) : ∀ p ∈ fl2 ps, p.1 ≠ p.2 := fun p hp e => by
  obtain ⟨a, b⟩ := p
  exact h _ (mem_fl.mp hp) e.symm
theorem mv_fl {ps : List Pr} : mv (fl2 (mv ps)) = so (fl2 (mv ps)) := by unfold mv; rw [moves_id (fl_ne (ps := so (moves ps)) mv_ne)]
theorem mv_twice (ps : List Pr) : mv (fl2 (mv (fl2 (mv ps)))) = mv ps := by
  rw [mv_fl (ps := fl2 (mv ps)), mv_fl]
  have h : (fl2 (so (fl2 (mv ps)))).Perm (mv ps) := by
    have := (so_perm (fl2 (mv ps))).map fun p : Pr => (p.2, p.1)
    have e := fl_fl (mv ps)
    exact this.trans (by rw [show (fl2 (mv ps)).map (fun p : Pr => (p.2, p.1)) = fl2 (fl2 (mv ps)) from rfl, e])
  rw [so_uniq h]
  exact so_so _
theorem lk_inv {ps : List Pr} (h : Val ps) (n : Int) : lk (mv (fl2 (mv ps))) (lk (mv ps) n) = n := by
  have v := val_fl (val_mv h)
  rw [lk_mv v.n1]
  exact lk_fl (val_mv h) n
theorem lk_inv2 {ps : List Pr} (h : Val ps) (n : Int) : lk (mv ps) (lk (mv (fl2 (mv ps))) n) = n := by
  have v := val_fl (val_mv h)
  have e := lk_fl (ps := fl2 (mv ps)) v n
  rw [fl_fl] at e
  rw [lk_mv v.n1]
  exact e
theorem lk_inj {ps : List Pr} (h : Val ps) {a b : Int} (e : lk ps a = lk ps b) : a = b := by
  rw [← lk_fl h a, e, lk_fl h b]
/-! ### one behind the other -/
def cmp (A B : List Pr) (ns : List Int) : List Pr := ns.map fun n => (n, lk A (lk B n))
theorem f1_cmp (A B : List Pr) (ns : List Int) : f1 (cmp A B ns) = ns := by unfold cmp f1; rw [List.map_map]; exact List.map_id ns
theorem f2_cmp (A B : List Pr) (ns : List Int) : f2 (cmp A B ns) = ns.map fun n => lk A (lk B n) := by unfold cmp f2; rw [List.map_map]; rfl
theorem lk_in {A : List Pr} (h : Val A) {ns : List Int} (hs : ∀ a ∈ f1 A, a ∈ ns) {n : Int} (hn : n ∈ ns) : lk A n ∈ ns := by
  rcases lk_or A h.n1 n with ⟨b, hb, e⟩ | ⟨_, e⟩
  · rw [e]; exact hs _ (h.cl _ hb)
  · rw [e]; exact hn
theorem nd_map_inj {f : Int → Int} (hf : ∀ a b, f a = f b → a = b) : ∀ {ns : List Int}, ns.Nodup → (ns.map f).Nodup
  | [], _ => List.nodup_nil
  | n :: ns, h => by
    rw [List.nodup_cons] at h
    rw [List.map_cons, List.nodup_cons]
    refine ⟨fun z => ?_, nd_map_inj hf h.2⟩
    obtain ⟨m, hm, e⟩ := List.mem_map.mp z
    exact h.1 (hf _ _ e ▸ hm)
theorem val_cmp {A B : List Pr} (hA : Val A) (hB : Val B) {ns : List Int} (nd : ns.Nodup) (sA : ∀ a ∈ f1 A, a ∈ ns) (sB : ∀ a ∈ f1 B, a ∈ ns) : Val (cmp A B ns) := by
  refine ⟨by rw [f1_cmp]; exact nd, by rw [f2_cmp]; exact nd_map_inj (fun a b e => lk_inj hB (lk_inj hA e)) nd, fun p hp => ?_⟩
  rw [f1_cmp]
  obtain ⟨n, hn, rfl⟩ := List.mem_map.mp hp
  exact lk_in hA sA (lk_in hB sB hn)
theorem lk_cmp {A B : List Pr} {ns : List Int} (nd : ns.Nodup) (sA : ∀ a ∈ f1 A, a ∈ ns) (sB : ∀ a ∈ f1 B, a ∈ ns) (n : Int) : lk (mv (cmp A B ns)) n = lk A (lk B n) := by
  have n1 : (f1 (cmp A B ns)).Nodup := by rw [f1_cmp]; exact nd
  rw [lk_mv n1]
  by_cases h : n ∈ ns
  · exact lk_mem n1 (List.mem_map.mpr ⟨n, h, rfl⟩)
  · rw [lk_no (by rw [f1_cmp]; exact h), lk_no fun z => h (sB _ z), lk_no fun z => h (sA _ z)]
theorem cmp_nil {A B : List Pr} {ns : List Int} (h : ∀ n, lk A (lk B n) = n) : mv (cmp A B ns) = [] := by
  have e : moves (cmp A B ns) = [] := by
    unfold moves
    rw [List.filter_eq_nil_iff]
    intro p hp
    obtain ⟨n, _, rfl⟩ := List.mem_map.mp hp
    simp [h n]
  unfold mv so
  rw [e, List.mergeSort_nil]
end K29
/-! (a, b) = a list or a tuple of that length; a def that may raise, where it does not -/
namespace Cm
open PySem PySem.Spec PyProof.Rows
open L2 hiding Same
section
variable {P : Program} {w : World} {A : Around} {E : Value → Shared → Prop} {s : Shared} {l : Addr} {xs : Array Value}
theorem draw_lst {it : Addr} (ne : l ≠ it) : ∀ (n i : Nat) (s : Shared) (Q : List Value → Shared → Prop), s.heap.IsListIter it l i → s.heap.IsList l xs → i + n ≤ xs.size →
    (∀ h', h'.IsListIter it l (i + n) → Heap.SameBut it s.heap h' → Q ((xs.toList.drop i).take n) { s with heap := h' }) → wpAny (model P w) A (draw (.ref it) n) Q E s
  | 0, i, s, Q, k, _, _, q => wpAny_pure (by have := q s.heap k (Heap.SameBut.refl ..); rw [List.take_zero] at this; exact this)
  | n + 1, i, s, Q, k, h, le, q => by
    have lt : i < xs.size := by omega
    show wpAny _ _ (pyNext (.ref it) >>= _) Q E s
    refine wpAny_bind (wpAny_pyNext_list_item k h (x := xs[i]) (by simp [lt]) fun h1 k1 s1 => wpAny_bind (wpAny_holding (draw_lst ne n (i + 1) _ _ k1 (h.extBut s1.extBut ne) (by omega) fun h2 k2 s2 => wpAny_pure ?_)))
    have e : xs.toList.drop i = xs[i] :: xs.toList.drop (i + 1) := by simp [List.drop_eq_getElem_cons, lt]
    have z := q h2 (by rw [show i + (n + 1) = i + 1 + n by omega]; exact k2) (s1.trans s2)
    rw [e, List.take_succ_cons] at z; exact z
theorem unpackI_lst {Q : List Value → Shared → Prop} (hh : A.handled = none) (h : s.heap.IsList l xs)
    (q : ∀ h', Heap.ExtBut s.heap.objs.size s.heap h' → Q xs.toList { s with heap := h' }) : wpAny (model P w) A (unpackItems (.ref l) xs.size none) Q E s := by
  have lt : l ≠ s.heap.objs.size := let ⟨o, ho, _⟩ := h; Nat.ne_of_lt (Heap.lt_size ho)
  unfold unpackItems; refine wpAny_bind ?_
  unfold notIterableAtAll; refine wpAny_bind (wpAny_specialOf h.typeIs slot_list_iter.lookup (wpAny_pure ?_))
  simp only [Bool.false_eq_true, if_false]
  refine wpAny_bind (wpAny_holding (wpAny_pyIter_list h (wpAny_bind (wpAny_holding (draw_lst lt xs.size 0 _ _ ⟨_, Heap.get?_push_size _ rfl, rfl, rfl⟩ (h.push _) (by omega) fun h1 k1 s1 => ?_)))))
  have al : List.take xs.size (List.drop 0 xs.toList) = xs.toList := by rw [List.drop_zero, List.take_of_length_le (by simp)]
  rw [al, if_neg (by simp)]
  have l1 : h1.IsList l xs := (h.push _).extBut s1.extBut lt
  refine wpAny_bind (wpAny_holding (wpAny_pyNext_list_end hh k1 l1 (by simp) fun h2 e2 => ?_))
  simp only [Option.isSome_none, Bool.false_eq_true, if_false]
  exact wpAny_pure (q h2 fun b o hb e => e2 b o hb (s1.extBut b o hb (Heap.get?_push_of_some _ e)))
theorem assign_lst {env : Env} {es : List Expr} {x1} {pos : Pos} {Q : Unit → Shared → Prop} (hh : A.handled = none) (h : s.heap.IsList l xs)
    (hn : (assignEach es env).length = xs.size) (hst : (assignEach es env).findIdx? (·.1) = none)
    (q : ∀ h', Heap.ExtBut s.heap.objs.size s.heap h' → wpAny (model P w) A (assignInOrder ((assignEach es env).map (·.2)) xs.toList) Q E { s with heap := h' }) :
    wpAny (model P w) A (assign (.Tuple es x1 pos) env (.ref l)) Q E s := by
  rw [assign_Tuple]; refine wpAny_bind (wpAny_standAt ?_)
  unfold unpack; rw [hn, hst]; exact wpAny_bind (wpAny_holding (unpackI_lst hh h q))
end
/-- (a, b, ..) = a list or a tuple of that length -/
def gSeqT (K : PySem.W.Frag) (n : Nat) (t : TGs) : TG := fun v σ H Q => ∃ a xs, v = .ref a ∧ Sq K H a xs ∧ xs.length = n ∧ t xs σ H Q
theorem pg_seqT {X : Cx} {es : List Expr} {k : Nat} {pos : Pos} {t : TGs} {n : Nat} (hc : X.calm = true) (h : PGs X es t)
    (hn : (assignEach es X.env).length = n := by rfl) (hst : (assignEach es X.env).findIdx? (·.1) = none := by rfl) : PG X (.Tuple es k pos) (gSeqT X.K n t) := by
  refine ⟨fun pins s σ H v u Q I r hw => ?_⟩
  obtain ⟨a, xs, rfl, hq | hq, hl, hw⟩ := hw
  · cases r
    obtain ⟨its, rv, hz, _⟩ := I.list hq
    refine assign_lst (I.ok.hd hc) hz.isList (by simp [hn, ← hl, rv.length]) hst fun h' hx => ?_
    have I1 : Inv X pins σ H { s with heap := h' } := I.kept (t' := s.toks) fun b o e => hx b o (Nat.ne_of_lt (Heap.lt_size e)) e
    exact h.run pins _ σ H xs _ Q I1 (by simpa using rv) hw
  · exact (pg_tup hc h hn hst).run pins s σ H _ u Q I r ⟨a, xs, rfl, hq, hl, hw⟩
/-- a tuple (t) or a list -/
def SqB (K : PySem.W.Frag) (t : Bool) (H : Hp) (a : Addr) (xs : List V) : Prop := if t = true then SqT K H a xs else SqL K H a xs
theorem SqB.sq {K : PySem.W.Frag} {t : Bool} {H : Hp} {a : Addr} {xs : List V} (h : SqB K t H a xs) : Sq K H a xs := by
  cases t
  · exact .inl h
  · exact .inr h
theorem SqB.same {K : PySem.W.Frag} {t : Bool} {H H' : Hp} {a : Addr} {xs : List V} (k : Same H H') (h : SqB K t H a xs) : SqB K t H' a xs := by
  cases t
  · exact k.sl h
  · exact k.st h
/-- a comprehension over a list or a tuple; what stands is kept -/
theorem lc_seq {K : PySem.W.Frag} {a : Addr} {xs : List V} {g : TG} {tt : TT} {te tl : TE} {vs : List Nat} {σ : L2.St} {H : Hp} {Q : VK} (e : ∀ R : VK, R (.ref a) H → tl σ H R) (hn : Sq K H a xs)
    (b : ∀ D, H D = none → ∃ Pv : Nat → Hp → Prop, Pv 0 (upd H D (.lst [])) ∧ (∀ i H', Pv i H' → Same H H') ∧ (∀ i x H', xs[i]? = some x → Pv i H' → g x (wipe σ vs) H' fun σ2 H2 => wipe σ2 vs = wipe σ vs ∧ tt σ2 H2 fun b H3 =>
      if b = true then te σ2 H3 fun y H4 => ∃ acc, H4 D = some (.lst acc) ∧ acc.length < sizeLine ∧ Pv (i + 1) (upd H4 D (.lst (acc ++ [y]))) else Pv (i + 1) H3) ∧ ∀ H', Pv xs.length H' → Q (.ref D) H') : tLc (iSeq K tl) g tt te vs σ H Q := by
  rcases hn with hn | hn
  · refine .inl (e _ ⟨a, rfl, ⟨xs, hn⟩, fun D hD => ?_⟩)
    obtain ⟨Pv, h0, hl, hs, hd⟩ := b D hD
    exact lc_list Pv h0 (fun i H' _ p => (hl i H' p).sl hn) hs hd
  · refine .inr (e _ ⟨a, rfl, ⟨xs, hn⟩, fun D hD => ?_⟩)
    obtain ⟨Pv, h0, hl, hs, hd⟩ := b D hD
    exact lc_tup Pv h0 (fun i H' _ p => (hl i H' p).st hn) hs hd
/-- where nothing is raised -/
theorem FnOk.calm {P : Program} {w : World} {K : PySem.W.Frag} {mg : Str → Option Value} {base : Heap} {k : Nat} {f : Addr} {fd : FuncData} {ps : List Str} {sp : Sp} (F : FnOk P w K mg base (CX P w) k f fd ps sp) :
    FnOk P w K mg base CX0 k f fd ps (fun vs H Q _ => sp vs H Q fun _ _ _ => False) := by
  refine ⟨fun vs H Q E h => F.len vs H Q _ h, fun A outer s H args us vs Q E hr he hb hv hs => codeAny_mono (F.run A outer s H args us vs Q _ hr he hb hv hs) fun r s' z => ?_⟩
  match r, z with
  | .error e, z => obtain ⟨a, B, H', cls, d, z⟩ := z; exact z.2.2.2.2.2.2.2.elim
  | .ok (.ret u), z => exact z
  | .ok .next, z => exact z
  | .ok .brk, z => exact z
  | .ok .cont, z => exact z
end Cm
namespace K29
open PySem PySem.Spec PyProof.Rows Cm
open L2 hiding Same
/-! ### things that may be pairs, tables, neither -/
inductive Fl
  | st (z : Str)
  | nn
  | nu (k : Int)
  | bo (c : Bool)
def Fl.v : Fl → V
  | .st z => .str z
  | .nn => .non
  | .nu k => .int k
  | .bo c => .bl c
inductive It
  | fl (f : Fl)
  | sq (t : Bool) (fs : List Fl)
def tyn (t : Bool) : Value := if t = true then .type "tuple" else .type "list"
theorem _root_.Cm.SqB.ty {K : PySem.W.Frag} {t : Bool} {H : Hp} {a : Addr} {xs : List V} (h : SqB K t H a xs) : TyX K H (.ref a) (tyn t) := by
  cases t with
  | false =>
    rcases h with (h | ⟨o, h⟩) | ⟨o, its, n, e, c, _⟩
    · exact .base (.lst h)
    · exact .base (.frz h)
    · exact .kList e c
  | true =>
    rcases h with (h | ⟨o, h⟩) | ⟨o, its, n, e, c, _⟩
    · exact .base (.tup h)
    · exact .fTuple h
    · exact .kTuple e c
theorem tyn_int {K : PySem.W.Frag} (t : Bool) : PySem.W.kitOne K (tyn t) (.type "int") = some false := by
  cases t
  · exact kit_ty (by decide +kernel)
  · exact kit_ty (by decide +kernel)
theorem tyn_seq {K : PySem.W.Frag} (t : Bool) : PySem.W.kitAny K (tyn t) [.type "list", .type "tuple"] = some true := by
  cases t
  · exact kitAny_cons (b := true) (kit_ty (by decide +kernel)) (fun z => by cases z) (fun _ => rfl)
  · exact kitAny_cons (b := false) (kit_ty (by decide +kernel)) (fun _ => kitAny_cons (b := true) (kit_ty (by decide +kernel)) (fun z => by cases z) (fun _ => rfl)) (fun z => by cases z)
def Fl.ty : Fl → String
  | .st _ => "str"
  | .nn => "NoneType"
  | .nu _ => "int"
  | .bo _ => "bool"
theorem fl_tyx {K : PySem.W.Frag} {H : Hp} (f : Fl) : TyX K H f.v (.type f.ty) := by
  cases f with
  | st z => exact .base (.str z)
  | nn => exact .base .non
  | nu k => exact .base (.int k)
  | bo c => exact .base (.bl c)
theorem fl_seq {K : PySem.W.Frag} (f : Fl) : PySem.W.kitAny K (.type f.ty) [.type "list", .type "tuple"] = some false := by
  have h : ∀ x ∈ ["str", "NoneType", "int", "bool"], kitB x "list" = some false ∧ kitB x "tuple" = some false := by decide +kernel
  have m : f.ty ∈ ["str", "NoneType", "int", "bool"] := by cases f <;> simp [Fl.ty]
  obtain ⟨h1, h2⟩ := h _ m
  exact kitAny_cons (b := false) (kit_ty h1) (fun _ => kitAny_cons (b := false) (kit_ty h2) (fun _ => kitAny_nil) (fun z => by cases z)) (fun z => by cases z)
def ItAt (K : PySem.W.Frag) (H : Hp) (v : V) : It → Prop
  | .fl f => v = f.v
  | .sq t fs => ∃ a, v = .ref a ∧ SqB K t H a (fs.map Fl.v) ∧ fs.length ≤ 10
theorem ItAt.same {K : PySem.W.Frag} {H H' : Hp} {v : V} {it : It} (s : Same H H') (h : ItAt K H v it) : ItAt K H' v it := by
  cases it with
  | fl f => exact h
  | sq t fs => obtain ⟨a, e, h, r⟩ := h; exact ⟨a, e, h.same s, r⟩
def sh (k : Int) : Bool := decide ((if k < 0 then -k else k) ≤ 999999999)
def shF : Fl → Bool
  | .nu k => sh k
  | _ => false
def shI : It → Bool
  | .fl f => shF f
  | _ => false
def pairF : List Fl → Option Pr
  | [.nu a, .nu b] => if (sh a && sh b) = true then some (a, b) else none
  | _ => none
def pairI : It → Option Pr
  | .fl _ => none
  | .sq _ fs => pairF fs
theorem shF_nu {f : Fl} (h : shF f = true) : ∃ k, f = .nu k ∧ sh k = true := by
  cases f with
  | nu k => exact ⟨k, rfl, h⟩
  | _ => cases h
theorem pairF_eq (fs : List Fl) : (pairF fs).isSome = (decide (fs.length = 2) && fs.all shF) := by
  match fs with
  | [] => rfl
  | [x] => cases x <;> rfl
  | _ :: _ :: _ :: _ => simp [pairF]
  | [x, y] =>
    cases x <;> cases y <;> simp [pairF, shF]
    rename_i a b
    by_cases h : sh a = true ∧ sh b = true
    · simp [h]
    · rw [if_neg h]
      cases e : sh a <;> cases e2 : sh b <;> simp_all
theorem pairF_some {fs : List Fl} {p : Pr} (h : pairF fs = some p) : fs = [.nu p.1, .nu p.2] ∧ sh p.1 = true ∧ sh p.2 = true := by
  unfold pairF at h
  split at h
  · rename_i a b
    split at h
    · rename_i c
      cases h
      rw [Bool.and_eq_true] at c
      exact ⟨rfl, c.1, c.2⟩
    · cases h
  · cases h
def spShort (K : PySem.W.Frag) : Sp := fun vs H Q _ => ∃ (v : V) (it : It), vs = [v] ∧ ItAt K H v it ∧ Q (.bl (shI it)) H
def spPair (K : PySem.W.Frag) : Sp := fun vs H Q _ => ∃ (v : V) (it : It), vs = [v] ∧ ItAt K H v it ∧ ∀ H', Same H H' → Q (.bl (pairI it).isSome) H'
section
variable {P : Program} {w : World} {K : PySem.W.Frag} {mg : Str → Option Value} {base : Heap} {sa : Addr} {sx : List Int}
theorem ok_is_short (T : Tx K mg sa sx) : Cal P w K mg base 1 "is_short" (spShort K) := by
  obtain ⟨fd, F⟩ := f_is_short T
  refine ⟨_, fd, ["thing"], fnok F sc_is_short (fun vs H Q E h => ?_) (fun cdv A outer s H vs Q E hr h => ?_), F.bindsN fun _ _ _ _ _ _ us hl => match us, hl with | [_], _ => rfl, g_is_short T, F.kp⟩
  · obtain ⟨v, it, rfl, _⟩ := h; rfl
  · obtain ⟨v, it, rfl, hv, q⟩ := h
    refine ⟨_, (pss_one (ps_ret (pe_and (pe_callB (id := "isinstance") (r := rIsi K) call_isi rfl (n_isinstance T) (by decide +kernel) (pa_cons (pv 0) (pa_cons (pe_bltn (v := .ty "int") rfl (n_int T) (by decide +kernel) rfl) pa_nil))) (pe_and (pe_not (pe_callB (id := "isinstance") (r := rIsi K) call_isi rfl (n_isinstance T) (by decide +kernel) (pa_cons (pv 0) (pa_cons (pe_bltn (v := .ty "bool") rfl (n_bool T) (by decide +kernel) rfl) pa_nil)))) (pe_one (pe_cmpR op_le (pe_callB (id := "abs") call_abs rfl (n_abs T) (by decide +kernel) (pa_cons (pv 0) pa_nil)) (show PE _ _ (tC (V.int 999999999)) from (i_GREATEST T).elim fun _ q => pe_glob rfl q ⟨_, rfl⟩) (nomark _))))))), ?_⟩
    cases it with
    | fl f =>
      cases (show v = f.v from hv)
      cases f with
      | nu k =>
        refine ⟨_, rfl, _, .ty "int", _, .type "int", true, rfl, .ty _, .base (.int k), kit_ty (by decide +kernel), true, rfl, iteT ?_⟩
        refine ⟨_, rfl, _, .ty "bool", _, .type "bool", false, rfl, .ty _, .base (.int k), kit_ty (by decide +kernel), false, rfl, true, rfl, iteT ?_⟩
        refine ⟨_, rfl, k, rfl, _, _, rfl, rfl, ?_⟩
        exact q
      | bo c =>
        refine ⟨_, rfl, _, .ty "int", _, .type "int", true, rfl, .ty _, .base (.bl c), kit_ty (by decide +kernel), true, rfl, iteT ?_⟩
        exact ⟨_, rfl, _, .ty "bool", _, .type "bool", true, rfl, .ty _, .base (.bl c), kit_ty (by decide +kernel), true, rfl, false, rfl, iteF q⟩
      | st z => exact ⟨_, rfl, _, .ty "int", _, .type "int", false, rfl, .ty _, .base (.str z), kit_ty (by decide +kernel), false, rfl, iteF q⟩
      | nn => exact ⟨_, rfl, _, .ty "int", _, .type "int", false, rfl, .ty _, .base .non, kit_ty (by decide +kernel), false, rfl, iteF q⟩
    | sq t fs =>
      obtain ⟨a, rfl, ha, _⟩ := hv
      exact ⟨_, rfl, _, .ty "int", _, .type "int", false, rfl, .ty _, ha.ty, tyn_int t, false, rfl, iteF q⟩
end
end K29
namespace K29
open PySem PySem.Spec PyProof.Rows Cm
open L2 hiding Same
theorem fl_at {fs : List Fl} {i : Nat} {x : V} (h : (fs.map Fl.v)[i]? = some x) : ∃ hi : i < fs.length, x = fs[i].v := by
  rw [List.getElem?_map] at h
  cases e : fs[i]? with
  | none => rw [e] at h; cases h
  | some n =>
    rw [e] at h
    obtain ⟨hi, e2⟩ := List.getElem?_eq_some_iff.mp e
    exact ⟨hi, by rw [e2]; exact (Option.some.inj h).symm⟩
theorem take_snoc {α : Type} {xs : List α} {i : Nat} (hi : i < xs.length) : xs.take (i + 1) = xs.take i ++ [xs[i]] := by
  rw [List.take_add_one, List.getElem?_eq_getElem hi]; rfl
theorem pbx : Paired L2.ClsV [V.ty "list", V.ty "tuple"] [.type "list", .type "tuple"] := .cons (.ty _) (.cons (.ty _) .nil)
section
variable {P : Program} {w : World} {K : PySem.W.Frag} {mg : Str → Option Value} {base : Heap} {sa : Addr} {sx : List Int}
theorem ok_is_pair (T : Tx K mg sa sx) : Cal P w K mg base 2 "is_pair" (spPair K) := by
  obtain ⟨fd, F⟩ := f_is_pair T
  refine ⟨_, fd, ["thing"], fnok F sc_is_pair (fun vs H Q E h => ?_) (fun cdv A outer s H vs Q E hr h => ?_), F.bindsN fun _ _ _ _ _ _ us hl => match us, hl with | [_], _ => rfl, g_is_pair T, F.kp⟩
  · obtain ⟨v, it, rfl, _⟩ := h; rfl
  · obtain ⟨v, it, rfl, hv, q⟩ := h
    refine ⟨_, (pss_one (ps_ret (pe_and (pe_callB (id := "isinstance") (r := rIsiT K) call_isiT rfl (n_isinstance T) (by decide +kernel) (pa_cons (pv 0) (pa_cons (pe_tup (pa_cons (pe_bltn (v := .ty "list") rfl (n_list T) (by decide +kernel) rfl) (pa_cons (pe_bltn (v := .ty "tuple") rfl (n_tuple T) (by decide +kernel) rfl) pa_nil))) pa_nil))) (pe_and (pe_cmpR op_eq (pe_callB (id := "len") call_len_seq rfl (n_len T) (by decide +kernel) (pa_cons (pv 0) pa_nil)) pe_int (nomark _)) (pe_one (pe_callB (id := "all") (cr_all rfl) rfl (n_all T) (by decide +kernel) (pa_cons (pe_lc (own := [("part", 1)]) (g := gName 1) rfl sc_is_pair.nd (pi_seq (pv 0)) (blkOk_by (own := [("part", 1)]) (N := ["thing", "part"]) (sc := defScope s_is_pair) (by decide +kernel)) (fun _ _ _ _ _ => pg_name (i := 1) sc_is_pair.nd rfl (by first | exact Or.inl rfl | exact Or.inr rfl)) (fun _ _ _ _ _ => pts_nil) (fun _ _ _ _ _ => (pe_cal (ok_is_short T) hr (by decide) (pa_cons (pv 1) pa_nil)))) pa_nil))))))), ?_⟩
    cases it with
    | fl f =>
      cases (show v = f.v from hv)
      refine ⟨_, rfl, sz1 (by simp), fun tp htp => ?_⟩
      exact ⟨_, tp, _, _, _, false, rfl, upd_same, pbx, fl_tyx f, fl_seq f, false, rfl, iteF (q _ (Same.new htp))⟩
    | sq t fs =>
      obtain ⟨a, rfl, ha, hl⟩ := hv
      refine ⟨_, rfl, sz1 (by simp), fun tp htp => ?_⟩
      have s1 := Same.new (o := .tup [V.ty "list", V.ty "tuple"]) htp
      refine ⟨_, tp, _, _, _, true, rfl, upd_same, pbx, (ha.same s1).ty, tyn_seq t, true, rfl, iteT ?_⟩
      generalize upd H tp _ = H1 at s1 ⊢
      have ha1 := (ha.same s1).sq
      refine ⟨_, rfl, a, _, rfl, ha1, rfl, _, rfl, dC (fun c => ?_) (fun c => ?_)⟩
      · have e2 : fs.length = 2 := by
          rw [List.length_map] at c
          injection c with c; omega
        unfold tCB tCons tNil
        refine lc_seq (K := K) (a := a) (xs := fs.map Fl.v) (fun R r => ⟨_, rfl, r⟩) ha1 fun D hD => ⟨fun i H' => Same H1 H' ∧ H' D = some (.lst (((fs.map shF).take i).map V.bl)), ⟨Same.new hD, upd_same⟩, fun i H' h => h.1, fun i x H' hi h => ?_, fun H' h => ?_⟩
        · obtain ⟨hi2, rfl⟩ := fl_at hi
          obtain ⟨sm, hS⟩ := h
          refine ⟨rfl, _, rfl, _, .fl fs[i], rfl, rfl, _, hS, sz2 (by rw [List.length_map, List.length_take, List.length_map]; omega), sm.mut hD, ?_⟩
          rw [upd_same, take_snoc (by rw [List.length_map]; exact hi2), List.map_append, List.getElem_map]; rfl
        · obtain ⟨sm, hS⟩ := h
          refine ⟨D, fs.map shF, rfl, SqL.of ?_, ?_⟩
          · rw [hS, List.take_of_length_le (by rw [List.length_map, List.length_map]; exact Nat.le_refl _)]
          · have e3 : (pairI (.sq t fs)).isSome = (fs.map shF).all id := by
              show (pairF fs).isSome = _
              rw [pairF_eq, decide_eq_true e2, Bool.true_and, List.all_map]; rfl
            rw [← e3]
            exact q _ (s1.trans sm)
      · have e3 : (pairI (.sq t fs)).isSome = false := by
          show (pairF fs).isSome = _
          rw [pairF_eq, decide_eq_false, Bool.false_and]
          intro z; exact c (by rw [List.length_map, z]; rfl)
        rw [← e3]
        exact q _ s1
end
end K29
/-! enumerate(t) of a tuple; of a list or a tuple -/
namespace Cm
open PySem PySem.Spec PyProof.Rows
open L2 hiding Same
section
open AutoSeq1 (wpAny_loadPart')
theorem enumT_new (t : Addr) (xs : Array Value) (n : Nat) (dc : Option Addr) (sl : Array (Option Value)) :
    Meets (Builtin.«enumerate.__new__» ⟨[.type "enumerate", .ref t], []⟩) (fun _ R s => s.heap.get? t = some { cls := .type "tuple", dict := dc, data := .seq xs n, slots := sl } ∧
      R (.ok (.ret (.ref (s.heap.push { cls := .type "tuple_iterator", data := .fields #[.ref t, .int 0 0] }).objs.size)))
        { s with heap := (s.heap.push { cls := .type "tuple_iterator", data := .fields #[.ref t, .int 0 0] }).push { cls := .type "enumerate", data := .fields #[.none, .bool false, .ref s.heap.objs.size, rawInt 0, .none, .none] } }) :=
  .of_wp fun P w A R s h => by
    obtain ⟨hp, g, d, tk, os⟩ := s; obtain ⟨ht, h⟩ := h; have hs := sub_enumerate
    have hT : Heap.IsTuple (Shared.heap ⟨hp, g, d, tk, os⟩) t xs := ⟨_, ht, rfl, n, rfl⟩
    wp_walk using wpAny_loadPart' ht
    refine wpAny_stack_any fun st => wpAny_pure ?_
    split
    · rename_i c _ _ _ _ _
      cases (c == Value.type "enumerate") <;> (wp_walk using wpAny_loadPart' ht, wpAny_pyIter_tuple hT; exact ⟨_, rfl, h⟩)
    · wp_walk using wpAny_loadPart' ht, wpAny_pyIter_tuple hT
      exact ⟨_, rfl, h⟩
end
theorem enumT_call {P : Program} {w : World} {A : Around} {E : Value → Shared → Prop} {s : Shared} {t : Addr} {xs : Array Value} {Q : Value → Shared → Prop} (hT : s.heap.IsTuple t xs)
    (h : ∀ h', IsEnum h' (s.heap.objs.size + 1) s.heap.objs.size 0 .none → h'.IsTupleIter s.heap.objs.size t 0 → (∀ b o, s.heap.get? b = some o → h'.get? b = some o) → Q (.ref (s.heap.objs.size + 1)) { s with heap := h' }) :
    wpAny (model P w) A (call (.type "enumerate") [.ref t]) Q E s := by
  obtain ⟨⟨c, dc, dt, sl⟩, ht, e1, n, e2⟩ := hT
  obtain rfl : c = .type "tuple" := e1
  obtain rfl : dt = .seq xs n := e2
  refine callType_new F.called_enumerate (by decide) (F.typeCall_enumerate_1 _) (F.newCall_enumerate_1 _) (fun obj => F.args_object_init_2 obj _) F.entry_enumerate_new (enumT_new t xs n dc sl) ⟨ht, ?_⟩
  have hz : (s.heap.push { cls := .type "tuple_iterator", data := .fields #[.ref t, .int 0 0] }).objs.size = s.heap.objs.size + 1 := Heap.size_push ..
  show _ ∧ _; rw [hz]
  have he : IsEnum ((s.heap.push { cls := .type "tuple_iterator", data := .fields #[.ref t, .int 0 0] }).push { cls := .type "enumerate", data := .fields #[.none, .bool false, .ref s.heap.objs.size, rawInt 0, .none, .none] }) (s.heap.objs.size + 1) s.heap.objs.size 0 .none := by
    rw [← hz]; exact Heap.get?_push_size _ rfl
  exact ⟨⟨_, he, rfl⟩, h _ he ⟨_, Heap.get?_push_of_some _ (Heap.get?_push_size _ rfl), rfl, rfl⟩ fun b o x => Heap.get?_push_of_some _ (Heap.get?_push_of_some _ x)⟩
/-- the tuple at a, each item in a new pair -/
def IteT (K : PySem.W.Frag) (a : Addr) : It :=
  ⟨fun i H => ∃ (xs : List V) (x : V), SqT K H a xs ∧ xs[i]? = some x, fun i H v H' => ∃ T x, v = .ref T ∧ H T = none ∧ H' = upd H T (.tup [.int (i : Nat), x]) ∧ ∀ xs, SqT K H a xs → xs[i]? = some x, fun i H => ∃ xs : List V, SqT K H a xs ∧ xs.length ≤ i⟩
theorem turn_enumT {P : Program} {w : World} {K : PySem.W.Frag} {es : List Expr} {kk : Nat} {tpos : Pos} (a e it : Addr) :
    Turn P w K (.Tuple es kk tpos) (IteT K a) [e, it] e (fun i h => (∃ old, IsEnum h e it ((i : Nat) : Int) old) ∧ h.IsTupleIter it a i ∧ e ≠ it) where
  mem := by simp
  obj := fun i h st b hb => by
    obtain ⟨⟨old, he⟩, ⟨o, ho, hc, hd⟩, _⟩ := st
    rcases (show b = e ∨ b = it by simpa using hb) with z | z
    · rw [z]; exact ⟨_, he, fun v q => nomatch q⟩
    · rw [z]; exact ⟨o, ho, fun v q => by rw [hd] at q; cases q⟩
  keep := fun i h h' st k => let ⟨⟨old, he⟩, ⟨o, ho, r⟩, hne⟩ := st; ⟨⟨old, k e (by simp) _ he⟩, ⟨o, k it (by simp) o ho, r⟩, hne⟩
  item := by
    intro X hP hw hK hc i pins s σ H E I hf st hg
    subst hP hw hK
    obtain ⟨⟨old, he⟩, hit, hne⟩ := st
    obtain ⟨xs, x, hq, hx⟩ := hg
    obtain ⟨its, rv, p, hz⟩ := I.tuple hq
    obtain ⟨u, hu, ru⟩ := rv.get hx
    have hel : e < s.heap.objs.size := Heap.lt_size he
    have hil : it < s.heap.objs.size := let ⟨_, q, _⟩ := hit; Heap.lt_size q
    have hai : a ≠ it := fun z => by
      obtain ⟨o1, q1, c1, _⟩ := p; obtain ⟨o2, q2, c2, _⟩ := hit
      rw [z, q2] at q1; cases q1; rw [c2] at c1; exact absurd c1 (by decide)
    have hae : e ≠ a := fun z => by
      obtain ⟨o1, q1, c1, _⟩ := p
      rw [← z, he] at q1; cases q1; exact absurd (show Value.type "enumerate" = Value.type "tuple" from c1) (by decide)
    have lt : i < its.toArray.size := by have := (List.getElem?_eq_some_iff.mp hu).1; simpa using this
    refine wpAny_pyNext_enum_itemD (Draws.tuple (A := X.A.in1) (I.ok.hd hc) it a hai its.toArray) he ⟨hit, p⟩ lt hne (by simp [hne, hae]) fun v h' tk hv ho hst hT hsz hk => ?_
    obtain ⟨hit', _⟩ := hst
    have ev : v = u := by rw [List.getElem?_toArray, hu] at hv; exact (Option.some.inj hv).symm
    subst ev
    refine ⟨_, rfl, wpAny_letOwnedTupleGo_enum (s := { s with heap := h', toks := tk + 1 }) ho fun h'' he' sb => ?_⟩
    have hT2 : h''.get? s.heap.objs.size = some { cls := .type "tuple", data := .seq #[.int i tk, v] } := (sb.2 _ (Nat.ne_of_gt hel)).trans hT
    have new : ObjOk X.prog X.w (upd H s.heap.objs.size (.tup [.int (i : Nat), x])) h'' s.heap.objs.size (.tup [.int (i : Nat), x]) :=
      ⟨by show 2 ≤ sizeLine; decide, [.int i tk, v], .cons ⟨_, rfl⟩ (.cons ru .nil), ⟨_, hT2, rfl, _, rfl⟩⟩
    have I1 : Inv X pins σ (upd H s.heap.objs.size (.tup [.int (i : Nat), x])) { s with heap := h'', toks := tk + 1 } :=
      I.turnedNew (ch := [e, it]) (fun b ob hb q => (sb.2 b (fun z => hb (by simp [z]))).trans (hk b ob (fun z => hb (by simp [z])) (fun z => hb (by simp [z])) q)) hf (Nat.le_refl _) new
    refine ⟨.ref s.heap.objs.size, _, I1, rfl, ⟨_, x, rfl, I.hok.fresh (Nat.le_refl _), rfl, fun ys hy => by rw [I.tuple_inj hy hq]; exact hx⟩, ⟨⟨v, ?_⟩, ?_, hne⟩, fun b hb => ?_⟩
    · rw [show ((i + 1 : Nat) : Int) = (i : Int) + 1 by omega]; exact he'
    · obtain ⟨o, q, r⟩ := hit'
      exact ⟨o, (sb.2 it (Ne.symm hne)).trans q, r⟩
    · have hb' : b < s.heap.objs.size := by
        rcases (show b = e ∨ b = it by simpa using hb) with z | z
        · rw [z]; exact hel
        · rw [z]; exact hil
      rw [upd_ne (Nat.ne_of_lt hb')]; exact (hf b hb).1
  done := by
    intro X hP hw hK hc i pins s σ H E I hf st hg
    subst hP hw hK
    obtain ⟨⟨old, he⟩, hit, hne⟩ := st
    obtain ⟨xs, hq, hx⟩ := hg
    obtain ⟨its, rv, p, hz⟩ := I.tuple hq
    obtain ⟨f0, f1, f2, f3, f4, f5⟩ := hf it (by simp)
    have hl := rv.length
    have hT : s.TypeIs (.ref e) "enumerate" := ⟨_, he, rfl⟩
    unfold pyNext
    refine wpAny_bind (wpAny_attempt (wpAny_callSpecial?_slot (name := Str.ofString "__next__") hT F.slot_enumerate_next (wpAny_call_entry F.slot_enumerate_next hT F.entry_enumerate_next ?_ (F.args_enumerate_next_1 _))))
    show wpAny _ _ (field (.ref e) 2 >>= _) _ _ _
    refine wpAny_bind (wpAny_field he rfl (x := .ref it) rfl (wpAny_bind (wpAny_nextOf_tuple_end (A := X.A.in1) (I.ok.hd hc) hit p (by simp; omega) fun h' x eb hx' => ?_)))
    obtain ⟨o, ho, hcx⟩ := hx'
    refine wpAny_bind (wpAny_isInstance (T := "StopIteration") (b := true) ⟨o, ho, hcx⟩ isSubtype_stop (wpAny_pure ?_))
    exact ⟨rfl, I.turned (t' := s.toks) (fun b o hb q => eb b o hb q) f0 f1 f3 f4 f5⟩
  self := fun A i s Q E st h => let ⟨⟨_, he⟩, _⟩ := st; wpAny_pyIter_enum he h
def iEnumS (K : PySem.W.Frag) (ta : TA) : TI := fun σ H R => iEnum K ta σ H R ∨ ta σ H fun vs H1 => ∃ a xs, vs = [.ref a] ∧ SqT K H1 a xs ∧ R (IteT K a) H1
theorem pi_enumS {X : Cx} {e : Expr} {ta : TA} {p pos tpos : Pos} {es : List Expr} {kk : Nat} (hg : Gl X "enumerate") (hm : X.mg "enumerate" = none) (ha : PA X [e] ta) (hs : starEach [e] X.env = [(false, eval e X.env)] := by rfl) :
    PI X (.Tuple es kk tpos) (.Call (.Name "enumerate" p) [e] [] pos) (iEnumS X.K ta) := by
  refine PI.or2 (pi_enum hg hm ha hs) ⟨fun pins s σ H R I h => ?_⟩
  refine Call_ (ld_blt I hg hm boot_enumerate (PyProof.Rows.callWith_type1 (thn (ha.run pos pins s σ H _ I h) fun us s1 ⟨vs, H1, I1, r1, q1⟩ => ?_) hs rfl))
  obtain ⟨a, xs, ex, hq, q⟩ := q1
  subst ex
  cases r1 with
  | cons r rr =>
    cases rr; cases r
    obtain ⟨its, rv, p', hz⟩ := I1.tuple hq
    refine enumT_call p' fun h' he hit hk => wpAny_pyIter_enum he ?_
    refine ⟨s1.heap.objs.size + 1, [s1.heap.objs.size + 1, s1.heap.objs.size], _, _, H1, rfl, I1.kept (t' := s1.toks) hk, turn_enumT a (s1.heap.objs.size + 1) s1.heap.objs.size, ⟨⟨.none, he⟩, hit, Nat.succ_ne_self _⟩, fun b hb => ?_, q⟩
    have hle : s1.heap.objs.size ≤ b := by
      rcases (show b = s1.heap.objs.size + 1 ∨ b = s1.heap.objs.size by simpa using hb) with z | z <;> rw [z] <;> simp
    exact I1.fpOk hle (I1.hok.fresh hle)
/-- the walk: Pv by the turn; what stands is kept -/
theorem for_enumS {K : PySem.W.Frag} {t : Bool} {a : Addr} {xs : List V} {ta : TA} {g : TG} {tb : TS} {D : Ends} {σ : L2.St} {H : Hp} (e : ∀ R : List V → Hp → Prop, R [.ref a] H → ta σ H R) (hn : SqB K t H a xs) (Pv : Nat → L2.St → Hp → Prop) (h0 : Pv 0 σ H)
    (hl : ∀ i σ H', Pv i σ H' → SqB K t H' a xs)
    (hs : ∀ i x σ H' T, xs[i]? = some x → Pv i σ H' → H' T = none → g (.ref T) σ (upd H' T (.tup [.int (i : Nat), x])) fun σ2 H2 => tb { D with nx := Pv (i + 1), ct := Pv (i + 1), bk := D.nx } σ2 H2) (hd : ∀ σ H, Pv xs.length σ H → D.nx σ H) : tFor (iEnumS K ta) g tb D σ H := by
  cases t with
  | false =>
    refine .inl (e _ ⟨a, xs, rfl, hn, for_it (walk_enum (K := K) (a := a) (xs := xs)) Pv h0 (fun i σ H' _ p => hl i σ H' p) ?_ hd⟩)
    rintro i x σ H1 H2 hi p ⟨T, x1, x2, rfl, hT, rfl, e1, e2⟩
    cases Option.some.inj e1
    exact hs i x2 σ H1 T e2 p hT
  | true =>
    have W : Walk (IteT K a) xs.length (fun H => SqT K H a xs) (YPair (fun i => some (.int (i : Nat))) (fun i => xs[i]?)) := by
      refine ⟨fun i _ hi q => ⟨xs, xs[i], q, by simp [hi]⟩, fun _ q => ⟨xs, q, Nat.le_refl _⟩, fun i H v H' _ q y => ?_⟩
      obtain ⟨T, x, h1, h2, h3, h4⟩ := y
      exact ⟨T, .int (i : Nat), x, h1, h2, h3, rfl, h4 xs q⟩
    refine .inr (e _ ⟨a, xs, rfl, hn, for_it W Pv h0 (fun i σ H' _ p => hl i σ H' p) ?_ hd⟩)
    rintro i x σ H1 H2 hi p ⟨T, x1, x2, rfl, hT, rfl, e1, e2⟩
    cases Option.some.inj e1
    exact hs i x2 σ H1 T e2 p hT
end Cm
namespace K29
open PySem PySem.Spec PyProof.Rows Cm
open L2 hiding Same
/-! ### the first wrong one -/
def scan : List Int → List Int → Nat → List It → Nat ⊕ (List Int × List Int)
  | fs, ss, _, [] => .inr (fs, ss)
  | fs, ss, i, it :: r => match pairI it with
    | none => .inl i
    | some p => if p.1 ∈ fs ∨ p.2 ∈ ss then .inl i else scan (fs ++ [p.1]) (ss ++ [p.2]) (i + 1) r
def miss (fs : List Int) : Nat → List Int → Option Nat
  | _, [] => none
  | i, s :: r => if s ∈ fs then miss fs (i + 1) r else some i
def endOf : Nat ⊕ (List Int × List Int) → Option Nat
  | .inl i => some i
  | .inr q => miss q.1 0 q.2
def wrongI (is : List It) : Option Nat := endOf (scan [] [] 0 is)
inductive Th
  | od (f : Fl)
  | sq (t : Bool) (is : List It)
def wrong : Th → Option Int
  | .od _ => some (-1)
  | .sq _ is => (wrongI is).map fun i => (i : Int)
def ThAt (K : PySem.W.Frag) (H : Hp) (v : V) : Th → Prop
  | .od f => v = f.v
  | .sq t is => ∃ (a : Addr) (l : List (V × It)), v = .ref a ∧ SqB K t H a (l.map (·.1)) ∧ l.map (·.2) = is ∧ l.length ≤ 20 ∧ ∀ q ∈ l, ItAt K H q.1 q.2
theorem ThAt.same {K : PySem.W.Frag} {H H' : Hp} {v : V} {th : Th} (s : Same H H') (h : ThAt K H v th) : ThAt K H' v th := by
  cases th with
  | od f => exact h
  | sq t is => obtain ⟨a, l, e, h, r, r2, r3⟩ := h; exact ⟨a, l, e, h.same s, r, r2, fun q hq => (r3 q hq).same s⟩
theorem scan_none {fs ss : List Int} {i : Nat} {it : It} {r : List It} (h : pairI it = none) : scan fs ss i (it :: r) = .inl i := by rw [scan, h]
theorem scan_bad {fs ss : List Int} {i : Nat} {it : It} {r : List It} {p : Pr} (h : pairI it = some p) (b : p.1 ∈ fs ∨ p.2 ∈ ss) : scan fs ss i (it :: r) = .inl i := by rw [scan, h]; exact if_pos b
theorem scan_ok {fs ss : List Int} {i : Nat} {it : It} {r : List It} {p : Pr} (h : pairI it = some p) (b : p.1 ∉ fs) (b2 : p.2 ∉ ss) : scan fs ss i (it :: r) = scan (fs ++ [p.1]) (ss ++ [p.2]) (i + 1) r := by
  rw [scan, h]; exact if_neg fun z => z.elim b b2
theorem pairI_some {it : It} {p : Pr} (h : pairI it = some p) : ∃ t, it = .sq t [.nu p.1, .nu p.2] ∧ sh p.1 = true ∧ sh p.2 = true := by
  cases it with
  | fl f => cases h
  | sq t fs => obtain ⟨e, h1, h2⟩ := pairF_some (show pairF fs = some p from h); exact ⟨t, by rw [e], h1, h2⟩
theorem pair_at {K : PySem.W.Frag} {H : Hp} {v : V} {it : It} {p : Pr} (hv : ItAt K H v it) (h : pairI it = some p) : ∃ a, v = .ref a ∧ Sq K H a [V.int p.1, V.int p.2] := by
  obtain ⟨t, rfl, _⟩ := pairI_some h
  obtain ⟨a, e, ha, _⟩ := hv
  exact ⟨a, e, ha.sq⟩
theorem l_at {l : List (V × It)} {i : Nat} {x : V} (h : (l.map (·.1))[i]? = some x) : ∃ hi : i < l.length, x = l[i].1 := by
  rw [List.getElem?_map] at h
  cases e : l[i]? with
  | none => rw [e] at h; cases h
  | some n =>
    rw [e] at h
    obtain ⟨hi, e2⟩ := List.getElem?_eq_some_iff.mp e
    exact ⟨hi, by rw [e2]; exact (Option.some.inj h).symm⟩
theorem drop_at {α : Type} {xs : List α} {i : Nat} (hi : i < xs.length) : xs.drop i = xs[i] :: xs.drop (i + 1) := List.drop_eq_getElem_cons hi
theorem ix_pair {K : PySem.W.Frag} {H : Hp} {b : Addr} {xs : List V} {i : Int} {v : V} {Q : VK} (hb : Sq K H b xs) (hi : atI xs i = some v) (q : Q v H) : rIx K (.ref b) (.int i) H Q :=
  hb.elim (fun h => .inl ⟨b, xs, i, v, rfl, rfl, h, hi, q⟩) (fun h => .inr (.inl ⟨b, xs, i, v, rfl, rfl, h, hi, q⟩))
/-- the exception, made and thrown -/
theorem bad_same {H : Hp} {a d : Addr} {o1 o2 o3 o4 : HO} (ha : H a = none) (hd : H d = none) : Same H (upd (del (upd (upd (upd H a o1) d o2) a o3) a) d o4) := fun b o hb => by
  have na : b ≠ a := ne_of_none hb ha
  have nd : b ≠ d := ne_of_none hb hd
  rw [upd_ne nd, del_ne na, upd_ne na, upd_ne nd, upd_ne na]
  exact hb
def spChk (K : PySem.W.Frag) : Sp := fun vs H Q E => ∃ (v : V) (th : Th), vs = [v] ∧ ThAt K H v th ∧ (wrong th = none → ∀ H', Same H H' → Q .non H') ∧
  (∀ i, wrong th = some i → ∀ H' d, Same H H' → H' d = some (.xd [("at", .int i)]) → E (.ref (BC K)) (some d) H')
section
variable {P : Program} {w : World} {K : PySem.W.Frag} {mg : Str → Option Value} {base : Heap} {sa : Addr} {sx : List Int}
theorem ok_check (T : Tx K mg sa sx) (hP : PF P) : ∃ f fd, FnOk P w K mg base (CX P w) 5 f fd ["pairs"] (spChk K) ∧ Binds K fd ["pairs"] [] ∧ mg "check_pairs" = some (.ref f) ∧ PySem.W.keepIn K (.ref f) = true := by
  obtain ⟨fd, F⟩ := f_check_pairs T
  obtain ⟨fb, FB, bB⟩ := ok_bad (P := P) (w := w) (base := base) T hP
  refine ⟨_, fd, F.ok sc_check_pairs (fun vs H Q E h => ?_) (fun cdv A outer s H vs Q E hr h => ?_), F.bindsN (fun _ _ _ _ _ _ us hl => match us, hl with | [_], _ => rfl), g_check_pairs T, F.kp⟩
  · obtain ⟨v, th, rfl, _⟩ := h; rfl
  · obtain ⟨v, th, rfl, hv, q, qe⟩ := h
    refine ⟨_, (pss_cons (ps_if (pt_not (pt_val (pe_callB (id := "isinstance") (r := rIsiT K) call_isiT rfl (n_isinstance T) (by decide +kernel) (pa_cons (pv 0) (pa_cons (pe_tup (pa_cons (pe_bltn (v := .ty "list") rfl (n_list T) (by decide +kernel) rfl) (pa_cons (pe_bltn (v := .ty "tuple") rfl (n_tuple T) (by decide +kernel) rfl) pa_nil))) pa_nil))))) (pss_one (ps_raise rfl (takes_of rfl rfl rfl rfl) (pmk_oex (exb T).oex (exb T).iC (exb T).tI FB (hr.mono (by decide)) bB .nil pass0 rfl (g_BadRenaming T) (pa_cons (pe_un un_neg pe_int) pa_nil)))) pss_nil)
    (pss_cons (ps_set (i := 1) sc_check_pairs.nd rfl (by first | exact Or.inl rfl | exact Or.inr rfl) (pe_lst pa_nil))
    (pss_cons (ps_set (i := 2) sc_check_pairs.nd rfl (by first | exact Or.inl rfl | exact Or.inr rfl) (pe_lst pa_nil))
    (pss_cons (ps_for (passes_of rfl) rfl (pi_enumS rfl (n_enumerate T) (pa_cons (pv 0) pa_nil)) (pg_tup (by rfl) (pgs_cons (pg_name (i := 3) sc_check_pairs.nd rfl (by first | exact Or.inl rfl | exact Or.inr rfl)) (pgs_cons (pg_name (i := 4) sc_check_pairs.nd rfl (by first | exact Or.inl rfl | exact Or.inr rfl)) pgs_nil)))
      (pss_cons (ps_if (PW.pt (pw_or (pt_not (pt_val (pe_cal (ok_is_pair T) hr (by decide) (pa_cons (pv 4) pa_nil)))) (pw_or (pt_cmpR op_in_seq (pe_ix L2.ix_seq (pv 4) pe_int (fun _ _ => rfl)) (pv 1) (by rfl)) (pw_or1 (pt_cmpR op_in_seq (pe_ix L2.ix_seq (pv 4) pe_int (fun _ _ => rfl)) (pv 2) (by rfl)))))) (pss_one (ps_raise rfl (takes_of rfl rfl rfl rfl) (pmk_oex (exb T).oex (exb T).iC (exb T).tI FB (hr.mono (by decide)) bB .nil pass0 rfl (g_BadRenaming T) (pa_cons (pv 3) pa_nil)))) pss_nil)
      (pss_cons (ps_expr (pe_bm PySem.F.plainAttrs_list PySem.F.slot_list_append PySem.F.type_list_append mt_append (pv 1) (pa_cons (pe_ix L2.ix_seq (pv 4) pe_int (fun _ _ => rfl)) pa_nil)))
      (pss_one (ps_expr (pe_bm PySem.F.plainAttrs_list PySem.F.slot_list_append PySem.F.type_list_append mt_append (pv 2) (pa_cons (pe_ix L2.ix_seq (pv 4) pe_int (fun _ _ => rfl)) pa_nil)))))))
    (pss_one (ps_for (passes_of rfl) rfl (pi_enum rfl (n_enumerate T) (pa_cons (pv 2) pa_nil)) (pg_tup (by rfl) (pgs_cons (pg_name (i := 3) sc_check_pairs.nd rfl (by first | exact Or.inl rfl | exact Or.inr rfl)) (pgs_cons (pg_name (i := 5) sc_check_pairs.nd rfl (by first | exact Or.inl rfl | exact Or.inr rfl)) pgs_nil)))
      (pss_one (ps_if (pt_cmpR op_notIn_seq (pv 5) (pv 1) (by rfl)) (pss_one (ps_raise rfl (takes_of rfl rfl rfl rfl) (pmk_oex (exb T).oex (exb T).iC (exb T).tI FB (hr.mono (by decide)) bB .nil pass0 rfl (g_BadRenaming T) (pa_cons (pv 3) pa_nil)))) pss_nil)))))))), ?_⟩
    cases th with
    | od f =>
      cases (show v = f.v from hv)
      refine ⟨_, rfl, sz1 (by simp), fun tp htp => ?_⟩
      refine ⟨_, tp, _, _, _, false, rfl, upd_same, pbx, fl_tyx f, fl_seq f, false, rfl, iteT ?_⟩
      have s1 := Same.new (o := .tup [V.ty "list", V.ty "tuple"]) htp
      generalize upd H tp _ = H1 at s1 ⊢
      refine ⟨_, rfl, (show 1 ≤ 1000 by decide), fun a ha => ⟨a, -1, rfl, by decide, by decide, upd_same, fun dx hdx ne => ⟨rfl, dx, [("at", .int (-1))], upd_same, ?_, ?_, ?_⟩⟩⟩
      · rw [upd_ne ne, upd_same]
      · rw [upd_ne ne] at hdx; exact hdx
      · rw [upd_ne ne] at hdx
        exact qe (-1) rfl _ dx (s1.trans (bad_same ha hdx)) upd_same
    | sq t is =>
      obtain ⟨a0, l, rfl, ha, rfl, hl, hits⟩ := hv
      refine ⟨_, rfl, sz1 (by simp), fun tp htp => ?_⟩
      have s1 := Same.new (o := .tup [V.ty "list", V.ty "tuple"]) htp
      refine ⟨_, tp, _, _, _, true, rfl, upd_same, pbx, (ha.same s1).ty, tyn_seq t, true, rfl, iteF ?_⟩
      generalize upd H tp _ = H1 at s1 ⊢
      refine ⟨sz1 (by simp), fun f hf => ⟨sz1 (by simp), fun g hg => ?_⟩⟩
      have nfg : f ≠ g := ne_of_none upd_same hg
      have hg1 : H1 g = none := by rw [upd_ne nfg.symm] at hg; exact hg
      have sfg : Same H1 (upd (upd H1 f (.lst [])) g (.lst [])) := (Same.new hf).trans (Same.new hg)
      have ff : (upd (upd H1 f (.lst [])) g (.lst [])) f = some (.lst []) := by rw [upd_ne nfg, upd_same]
      have gg : (upd (upd H1 f (.lst [])) g (.lst [])) g = some (.lst []) := upd_same
      generalize upd (upd H1 f (.lst [])) g (.lst []) = H2 at sfg ff gg ⊢
      refine for_enumS (K := K) (t := t) (a := a0) (xs := l.map (·.1)) (fun R r => ⟨_, rfl, r⟩) (ha.same (s1.trans sfg)) (fun i σ H' => ∃ (fs ss : List Int) (v3 v4 : Option V), σ = [some (.ref a0), some (.ref f), some (.ref g), v3, v4, none] ∧ fs.length = i ∧ ss.length = i ∧
        scan fs ss i ((l.map (·.2)).drop i) = scan [] [] 0 (l.map (·.2)) ∧ Same H1 H' ∧ H' f = some (.lst (fs.map V.int)) ∧ H' g = some (.lst (ss.map V.int))) ⟨[], [], none, none, rfl, rfl, rfl, rfl, sfg, ff, gg⟩ (fun i σ H' h => ?_) ?_ ?_
      · obtain ⟨fs, ss, v3, v4, _, _, _, _, sm, _, _⟩ := h
        exact ha.same (s1.trans sm)
      · rintro i x σ H' Tp hi ⟨fs, ss, v3, v4, rfl, l1, l2, hsc, sm, hF, hG⟩ hT
        obtain ⟨hi2, rfl⟩ := l_at hi
        refine ⟨Tp, _, rfl, SqT.of upd_same, rfl, _, _, rfl, _, _, rfl, rfl, ?_⟩
        have hit := hits _ (List.getElem_mem hi2)
        have sT : Same H' (upd H' Tp (.tup [.int (i : Nat), l[i].1])) := Same.new hT
        have hF := sT _ _ hF
        have hG := sT _ _ hG
        have sm := sm.trans sT
        generalize upd H' Tp _ = H3 at sT hF hG sm ⊢
        have hdr : (l.map (·.2)).drop i = l[i].2 :: (l.map (·.2)).drop (i + 1) := by
          rw [drop_at (by rw [List.length_map]; exact hi2), List.getElem_map]
        rw [hdr] at hsc
        refine ⟨_, rfl, l[i].1, l[i].2, rfl, hit.same (s1.trans sm), fun H4 s4 => ⟨_, rfl, ?_⟩⟩
        have hF := s4 _ _ hF
        have hG := s4 _ _ hG
        have sm := sm.trans s4
        have raised : ∀ (Ha : Hp), Same H1 Ha → scan [] [] 0 (l.map (·.2)) = .inl i → ∀ a, Ha a = none → ∀ dx, upd Ha a (exo a (BC K) none) dx = none → dx ≠ a → E (.ref (BC K)) (some dx) (upd (del (upd (upd (upd Ha a (exo a (BC K) none)) dx (exd dx [("at", .int (i : Nat))])) a (exo a (BC K) (some dx))) a) dx (.xd [("at", .int (i : Nat))])) := fun Ha sa he a ha dx hdx ne => by
          rw [upd_ne ne] at hdx
          refine qe (i : Nat) ?_ _ dx ((s1.trans sa).trans (bad_same ha hdx)) upd_same
          show ((wrongI (l.map (·.2))).map fun i => (i : Int)) = _
          unfold wrongI
          rw [he]; rfl
        cases hp : pairI l[i].2 with
        | none =>
          rw [scan_none hp] at hsc
          refine iteT (iteT ?_)
          refine ⟨_, rfl, (show 1 ≤ 1000 by decide), fun a ha => ⟨a, i, rfl, by omega, by omega, upd_same, fun dx hdx ne => ⟨rfl, dx, [("at", .int i)], upd_same, ?_, ?_, ?_⟩⟩⟩
          · rw [upd_ne ne, upd_same]
          · rw [upd_ne ne] at hdx; exact hdx
          · exact raised _ sm hsc.symm a ha dx hdx ne
        | some p =>
          obtain ⟨b, eb, hb1⟩ := pair_at (hit.same s1) hp
          have hb := hb1.same sm
          refine iteF ⟨_, rfl, ?_⟩
          show rIx K l[i].1 (.int 0) _ _
          rw [eb]
          refine ix_pair hb rfl ⟨_, rfl, f, _, rfl, .inl (SqL.of hF), rfl, flat_ints _, _, rfl, ?_⟩
          rw [inV_ints]
          refine dC (fun c => iteT ?_) (fun c => ⟨_, rfl, ?_⟩)
          · rw [scan_bad hp (.inl c)] at hsc
            refine ⟨_, rfl, (show 1 ≤ 1000 by decide), fun a ha => ⟨a, i, rfl, by omega, by omega, upd_same, fun dx hdx ne => ⟨rfl, dx, [("at", .int i)], upd_same, ?_, ?_, ?_⟩⟩⟩
            · rw [upd_ne ne, upd_same]
            · rw [upd_ne ne] at hdx; exact hdx
            · exact raised _ sm hsc.symm a ha dx hdx ne
          show rIx K (.ref b) (.int 1) _ _
          refine ix_pair hb rfl ⟨_, rfl, g, _, rfl, .inl (SqL.of hG), rfl, flat_ints _, _, rfl, ?_⟩
          rw [inV_ints]
          refine dC (fun c2 => ?_) (fun c2 => ?_)
          · rw [scan_bad hp (.inr c2)] at hsc
            refine ⟨_, rfl, (show 1 ≤ 1000 by decide), fun a ha => ⟨a, i, rfl, by omega, by omega, upd_same, fun dx hdx ne => ⟨rfl, dx, [("at", .int i)], upd_same, ?_, ?_, ?_⟩⟩⟩
            · rw [upd_ne ne, upd_same]
            · rw [upd_ne ne] at hdx; exact hdx
            · exact raised _ sm hsc.symm a ha dx hdx ne
          rw [scan_ok hp c c2] at hsc
          refine ⟨_, rfl, .inl ⟨rfl, _, SqL.of hF⟩, _, rfl, ?_⟩
          show rIx K (.ref b) (.int 0) _ _
          refine ix_pair hb rfl ⟨f, _, _, rfl, rfl, hF, sz2 (by rw [List.length_map]; omega), ?_⟩
          have sm5 : Same H1 (upd H4 f (.lst (fs.map V.int ++ [V.int p.1]))) := sm.mut hf
          have hF5 : (upd H4 f (.lst (fs.map V.int ++ [V.int p.1]))) f = some (.lst ((fs ++ [p.1]).map V.int)) := by rw [upd_same, List.map_append]; rfl
          have hG5 : (upd H4 f (.lst (fs.map V.int ++ [V.int p.1]))) g = some (.lst (ss.map V.int)) := by rw [upd_ne nfg.symm]; exact hG
          generalize upd H4 f (.lst (fs.map V.int ++ [V.int p.1])) = H5 at sm5 hF5 hG5 ⊢
          refine ⟨_, rfl, .inl ⟨rfl, _, SqL.of hG5⟩, _, rfl, ?_⟩
          show rIx K (.ref b) (.int 1) _ _
          refine ix_pair (hb1.same sm5) rfl ⟨g, _, _, rfl, rfl, hG5, sz2 (by rw [List.length_map]; omega), ?_⟩
          exact ⟨fs ++ [p.1], ss ++ [p.2], _, _, rfl, by simp [l1], by simp [l2], hsc, sm5.mut hg1, (upd_ne nfg).trans hF5, by rw [upd_same, List.map_append]; rfl⟩
      · rintro σ H' ⟨fs, ss, v3, v4, rfl, l1, l2, hsc, sm, hF, hG⟩
        rw [List.drop_of_length_le (by simp), scan] at hsc
        have ew : wrongI (l.map (·.2)) = miss fs 0 ss := by unfold wrongI; rw [← hsc]; rfl
        have ls : ss.length ≤ 20 := by rw [l2, List.length_map]; exact hl
        refine ⟨_, rfl, g, _, rfl, SqL.of hG, for_it (walk_enum (K := K) (a := g) (xs := ss.map V.int)) (fun j σ H5 => ∃ v3 v4 v5 : Option V, σ = [some (.ref a0), some (.ref f), some (.ref g), v3, v4, v5] ∧ miss fs j (ss.drop j) = miss fs 0 ss ∧ Same H1 H5 ∧ H5 f = some (.lst (fs.map V.int)) ∧ H5 g = some (.lst (ss.map V.int))) ⟨_, _, _, rfl, rfl, sm, hF, hG⟩ (fun j σ H' _ ⟨_, _, _, _, _, _, _, z⟩ => SqL.of z) ?_ ?_⟩
        · rintro j x σ G G' hj ⟨v3, v4, v5, rfl, hm, sm, hF, hG⟩ ⟨Tp, x1, x2, rfl, hT, rfl, ex1, ex2⟩
          cases (Option.some.inj ex1)
          have ex3 : (ss.map V.int)[j]? = some x2 := ex2
          obtain ⟨hj3, rfl⟩ := map_at ex3
          refine ⟨Tp, _, rfl, SqT.of upd_same, rfl, _, _, rfl, _, _, rfl, rfl, ?_⟩
          have sT : Same G (upd G Tp (.tup [.int (j : Nat), .int ss[j]])) := Same.new hT
          have hF := sT _ _ hF
          have hG := sT _ _ hG
          have sm := sm.trans sT
          generalize upd G Tp _ = G2 at hF hG sm ⊢
          rw [drop_at hj3, miss] at hm
          refine ⟨_, rfl, _, rfl, f, _, rfl, .inl (SqL.of hF), rfl, flat_ints _, _, rfl, ?_⟩
          rw [inV_ints]
          refine uC (fun c => ?_) (fun c => ?_)
          · rw [if_neg c] at hm
            refine ⟨_, rfl, (show 1 ≤ 1000 by decide), fun a ha => ⟨a, j, rfl, by omega, by omega, upd_same, fun dx hdx ne => ⟨rfl, dx, [("at", .int j)], upd_same, ?_, ?_, ?_⟩⟩⟩
            · rw [upd_ne ne, upd_same]
            · rw [upd_ne ne] at hdx; exact hdx
            · rw [upd_ne ne] at hdx
              refine qe (j : Nat) ?_ _ dx ((s1.trans sm).trans (bad_same ha hdx)) upd_same
              show ((wrongI (l.map (·.2))).map fun i => (i : Int)) = _
              rw [ew, ← hm]; rfl
          · rw [if_pos c] at hm
            exact ⟨_, _, _, rfl, hm, sm, hF, hG⟩
        · rintro σ G ⟨v3, v4, v5, rfl, hm, sm, hF, hG⟩
          rw [List.drop_of_length_le (by simp), miss] at hm
          refine q ?_ _ (s1.trans sm)
          show ((wrongI (l.map (·.2))).map fun i => (i : Int)) = _
          rw [ew, ← hm]; rfl
end
end K29
/-! sorted(xs, key=lambda x: ..), the lambda calling what it likes -/
namespace Cm
open PySem PySem.Spec PyProof.Rows PySem.W PySem.Calls LamX
open L2 hiding Same
/-! ### keys: ints, texts, tuples of such -/
mutual
inductive KeyV (H : Hp) : V → PyData → Prop
  | int (n : Int) : KeyV H (.int n) (.int n)
  | str (x : Str) : KeyV H (.str x) (.str x)
  | tup {a : Addr} {xs : List V} {ds : List PyData} : H a = some (.tup xs) → KeyVs H xs ds → KeyV H (.ref a) (.tuple ds)
inductive KeyVs (H : Hp) : List V → List PyData → Prop
  | nil : KeyVs H [] []
  | cons {v : V} {vs : List V} {d : PyData} {ds : List PyData} : KeyV H v d → KeyVs H vs ds → KeyVs H (v :: vs) (d :: ds)
end
section
variable {H H' : Hp} {K : PySem.W.Frag}
mutual
theorem KeyV.un (u : ∀ b xs, H b = some (.tup xs) → H' b = some (.tup xs)) : ∀ (d : PyData) (v : V), KeyV H v d → KeyV H' v d
  | .int _, _, h => by cases h; exact .int _
  | .str _, _, h => by cases h; exact .str _
  | .tuple ds, _, h => by
    cases h with
    | tup a b => exact .tup (u _ _ a) (KeyVs.un u ds _ b)
  | .none, _, h => by cases h
  | .bool _, _, h => by cases h
  | .list _, _, h => by cases h
theorem KeyVs.un (u : ∀ b xs, H b = some (.tup xs) → H' b = some (.tup xs)) : ∀ (ds : List PyData) (vs : List V), KeyVs H vs ds → KeyVs H' vs ds
  | [], _, h => by cases h; exact .nil
  | d :: ds, _, h => by
    cases h with
    | cons a b => exact .cons (KeyV.un u d _ a) (KeyVs.un u ds _ b)
end
mutual
theorem KeyV.dp : ∀ (d : PyData) (v : V), KeyV H v d → Dp K H v d
  | .int _, _, h => by cases h; exact .int _
  | .str _, _, h => by cases h; exact .str _
  | .tuple ds, _, h => by
    cases h with
    | tup a b => exact .tup (SqT.of a) (KeyVs.dp ds _ b)
  | .none, _, h => by cases h
  | .bool _, _, h => by cases h
  | .list _, _, h => by cases h
theorem KeyVs.dp : ∀ (ds : List PyData) (vs : List V), KeyVs H vs ds → DpAll K H vs ds
  | [], _, h => by cases h; exact .nil
  | d :: ds, _, h => by
    cases h with
    | cons a b => exact .cons (KeyV.dp d _ a) (KeyVs.dp ds _ b)
end
theorem KeyVs.snoc {v : V} {d : PyData} (h : KeyV H v d) : ∀ {vs : List V} {ds : List PyData}, KeyVs H vs ds → KeyVs H (vs ++ [v]) (ds ++ [d])
  | [], _, k => by cases k; exact .cons h .nil
  | _ :: _, _, k => by
    cases k with
    | cons a b => exact .cons a (KeyVs.snoc h b)
theorem KeyVs.len : ∀ {vs : List V} {ds : List PyData}, KeyVs H vs ds → vs.length = ds.length
  | [], _, k => by cases k; rfl
  | _ :: _, _, k => by
    cases k with
    | cons a b => exact congrArg (· + 1) (KeyVs.len b)
end
section
variable {X : Cx} {pins : List (Addr × Obj)} {σ : L2.St} {H : Hp} {s : Shared}
/-- an address that nothing of the def names -/
structure Fz (X : Cx) (pins : List (Addr × Obj)) (b : Addr) : Prop where
  old : X.s_0.heap.objs.size ≤ b
  loc : b ≠ X.env.locals
  cel : ∀ x c, X.env.cells.lookup x = some c → c ≠ b
  pin : ∀ p ∈ X.pn ++ pins, p.1 ≠ b
  nfs : b ∉ X.fs
theorem Fz.of (I : Inv X pins σ H s) {b : Addr} (hb : s.heap.objs.size ≤ b) : Fz X pins b := by
  refine ⟨Nat.le_trans I.sz hb, fun z => ?_, fun x c e z => ?_, fun p hp z => ?_, I.nofs hb⟩
  · have := I.lt
    rw [← z] at this
    exact absurd (Nat.lt_of_lt_of_le this hb) (Nat.lt_irrefl _)
  · obtain ⟨v, o, ho, _⟩ := I.cell x c e
    rw [z] at ho
    exact absurd (Nat.lt_of_lt_of_le (Heap.lt_size ho) hb) (Nat.lt_irrefl _)
  · have h1 := (I.pin p hp).1
    rw [z] at h1
    exact absurd (Nat.lt_of_lt_of_le (Heap.lt_size h1) hb) (Nat.lt_irrefl _)
theorem each_reads (I : Inv X pins σ H s) : ∀ (ys : List V) (us : List Value) (ds : List PyData), Vals ys us → KeyVs H ys ds → EachIs (fun v d => ∃ as, Reads s.heap v d as) us ds
  | [], _, _, r, k => by cases r; cases k; exact .nil
  | y :: ys, _, _, r, k => by
    cases r with
    | cons r1 r2 =>
      cases k with
      | cons k1 k2 => exact .cons (Dp.reads I _ _ _ (KeyV.dp _ _ k1) r1) (each_reads I ys _ _ r2 k2)
theorem vals_snoc' {v : V} {u : Value} (h : RelV v u) : ∀ {vs : List V} {us : List Value}, Vals vs us → Vals (vs ++ [v]) (us ++ [u])
  | _, _, .nil => .cons h .nil
  | _, _, .cons a b => .cons a (vals_snoc' h b)
end
end Cm
/-! sorting by a key that is a call: the loop over the calls -/
namespace Cm
open PySem PySem.Spec PyProof.Rows PySem.W PySem.Calls LamX
open L2 hiding Same
section
variable {X : Cx} {pins : List (Addr × Obj)} {σ : L2.St} {H : Hp} {s : Shared}
/-- what the call of the key gives: a key that stays -/
def KeyTurn (X : Cx) (pins : List (Addr × Obj)) (σ : L2.St) (J : Hp → Prop) (A : Around) (f : Value) (v : V) (d : PyData) : Prop :=
  ∀ (u : Value), RelV v u → ∀ (more : List (Addr × Obj)) (H1 : Hp) (s1 : Shared), Inv X (pins ++ more) σ H1 s1 → J H1 →
    wpAny (model X.prog X.w) A (call f [u]) (EP X (pins ++ more) σ fun y H2 => J H2 ∧ (∀ b xs, H1 b = some (.tup xs) → H2 b = some (.tup xs)) ∧ KeyV H2 y d) (fun _ _ => False) s1
abbrev two (kS a : Addr) (oS oA : Obj) : List (Addr × Obj) := [(kS, oS), (a, oA)]
theorem two_inv {kS a : Addr} {oS oA : Obj} (I : Inv X pins σ H s) (zS : Fz X pins kS) (zA : Fz X pins a) (nS : H kS = none) (nA : H a = none) (hS : s.heap.get? kS = some oS) (hA : s.heap.get? a = some oA) (cS : ∀ v, oS.data ≠ .cell v) (cA : ∀ v, oA.data ≠ .cell v) :
    Inv X (pins ++ two kS a oS oA) σ H s :=
  I.pins_of fun p hp => by
    rcases List.mem_append.mp hp with hp | hp
    · exact I.pin p (List.mem_append_right _ hp)
    · rcases List.mem_cons.mp hp with rfl | hp
      · exact ⟨hS, nS, zS.loc, zS.nfs, cS⟩
      · obtain rfl := List.mem_singleton.mp hp
        exact ⟨hA, nA, zA.loc, zA.nfs, cA⟩
theorem key_loop {A : Around} {a kS : Addr} {b : Bool} {f : Value} {bs : List (V × PyData)} {us : List Value} {e1 : Nat} {Pq : PySem.Fin → Shared → Prop} {E : Value → Shared → Prop} {J : Hp → Prop}
    (I : Inv X pins σ H s) (j0 : J H) (nS : H kS = none) (nA : H a = none) (zS : Fz X pins kS) (zA : Fz X pins a) (hka : kS ≠ a)
    (hS : s.heap.get? kS = some (seqObj "list" #[] 0)) (hA : s.heap.get? a = some (seqObj "list" #[] e1))
    (hv : Vals (bs.map (·.1)) us) (hZ : us.length ≤ sizeLine) (hal : AllAlike (bs.map (·.2))) (hsk : Sortable (bs.map (·.2))) (hu : ∀ d, d ∈ bs.map (·.2) → A.units + d.depth < cLine)
    (turn : ∀ y ∈ bs, KeyTurn X pins σ J A f y.1 y.2)
    (h : ∀ (H' : Hp) (s1 : Shared) (h' : Heap) (tk : Nat) (out : List Value) (c : Nat), Inv X pins σ H' s1 → J H' → H' a = none → H' kS = none → (∀ x o, x ≠ a → x ≠ kS → s1.heap.get? x = some o → h'.get? x = some o) →
      h'.get? a = some (seqObj "list" out.toArray c) → KeyedOut b (bs.map (·.2)) us out → Pq (.done (.ret .none)) { s1 with heap := h', toks := tk }) :
    wpAny (model X.prog X.w) A (ksk_rest a f b us.toArray e1 (.ref kS)) Pq E s := by
  have hlen : us.length = bs.length := by rw [← hv.length, List.length_map]
  unfold ksk_rest
  refine wpAny_bind (wpAny_rule ?_)
  first
    | rw [List.forIn_toArray]
    | (rw [← Array.forIn_toList]; simp only [List.toList_toArray])
  refine wpAny_bind (ksk_fold (fun i s' => ∃ (H' : Hp) (ks : Array Value) (e : Nat) (ys : List V), Inv X (pins ++ two kS a (seqObj "list" ks e) (seqObj "list" #[] e1)) σ H' s' ∧ J H' ∧ Vals ys ks.toList ∧ KeyVs H' ys ((bs.map (·.2)).take i)) us 0 s
    ⟨H, #[], 0, [], two_inv I zS zA nS nA hS hA (fun v z => by cases z) (fun v z => by cases z), j0, .nil, by rw [List.take_zero]; exact .nil⟩ ?step ?done)
  case step =>
    rintro j x s' hx ⟨H', ks, e, ys, I1, j1, vk, kk⟩
    simp only [Nat.zero_add] at kk ⊢
    have hj : j < us.length := (List.getElem?_eq_some_iff.mp hx).1
    have hjb : j < bs.length := by omega
    have hbj : bs[j]? = some bs[j] := List.getElem?_eq_getElem hjb
    have hrel : RelV bs[j].1 x := by
      obtain ⟨u, hu1, hu2⟩ := hv.get (i := j) (x := bs[j].1) (by rw [List.getElem?_map, hbj]; rfl)
      rw [hx] at hu1
      cases hu1
      exact hu2
    have hz : ks.size ≤ us.length := by
      have h1 := kk.len
      have h2 := vk.length
      have h3 : ks.toList.length = ks.size := Array.length_toList
      rw [List.length_take, List.length_map] at h1
      omega
    refine wpAny_bind (wpAny_attempt (wpAny_mono (turn bs[j] (List.getElem_mem hjb) x hrel _ H' s' I1 j1) (fun v s2 he => ?_) fun _ _ hF => hF.elim))
    obtain ⟨y, H2, I2, ry, j2, tp, kv⟩ := he
    try dsimp only
    have pS := I2.pin (kS, seqObj "list" ks e) (List.mem_append_right _ (List.mem_append_right _ (.head _)))
    have pA := I2.pin (a, seqObj "list" #[] e1) (List.mem_append_right _ (List.mem_append_right _ (.tail _ (.head _))))
    have s1 := Heap.SameBut.update s2.heap kS (Obj.mapSeq (·.push v))
    obtain ⟨c2, hc2⟩ : ∃ c2, (s2.heap.update kS (Obj.mapSeq (·.push v))).get? kS = some (seqObj "list" (ks.push v) c2) := ⟨_, get?_update_seq pS.1 (·.push v)⟩
    refine wpAny_bind (listUpdate_at pS.1 rfl ?_ (Nat.le_trans hz hZ) (Nat.le_trans (Nat.le_of_eq (Array.size_push ..)) (Nat.succ_le_succ (Nat.le_trans hz hZ))))
    have I3 : Inv X pins σ H2 s2 := I2.pins_of fun p hp => I2.pin p (List.mem_append_right _ (List.mem_append_left _ hp))
    have I4 := I3.turned (it := kS) (t' := s2.toks) (h' := s2.heap.update kS (Obj.mapSeq (·.push v))) (fun q o n e => (s1.2 q n).trans e) pS.2.1 zS.loc (.inr zS.old) zS.cel zS.pin
    have I5 := two_inv I4 zS zA pS.2.1 pA.2.1 hc2 ((s1.2 a hka.symm).trans pA.1) (fun v z => by cases z) (fun v z => by cases z)
    have ek : (bs.map (·.2)).take (j + 1) = (bs.map (·.2)).take j ++ [bs[j].2] := by
      rw [List.take_add_one, List.getElem?_map, hbj]; rfl
    refine wpAny_pure ⟨rfl, H2, ks.push v, c2, ys ++ [y], I5, j2, ?_, ?_⟩
    · rw [Array.toList_push]
      exact vals_snoc' ry vk
    · rw [ek]
      exact KeyVs.snoc kv (KeyVs.un tp _ _ kk)
  case done =>
    rintro s' ⟨H', ks, e, ys, I1, j1, vk, kk⟩
    have e3 : (bs.map (·.2)).take (0 + us.length) = bs.map (·.2) := List.take_of_length_le (by rw [List.length_map]; omega)
    rw [e3] at kk
    have hk' := each_reads I1 ys _ _ vk kk
    have hsz : ks.size = us.length := by
      have h1 := kk.len
      have h2 := vk.length
      have h3 : ks.toList.length = ks.size := Array.length_toList
      rw [List.length_map] at h1
      omega
    have pS := I1.pin (kS, seqObj "list" ks e) (List.mem_append_right _ (List.mem_append_right _ (.head _)))
    have pA := I1.pin (a, seqObj "list" #[] e1) (List.mem_append_right _ (List.mem_append_right _ (.tail _ (.head _))))
    have I3 : Inv X pins σ H' s' := I1.pins_of fun p hp => I1.pin p (List.mem_append_right _ (List.mem_append_left _ hp))
    try dsimp only
    refine wpAny_bind (listItems_at pS.1 rfl ?_)
    refine keyH_end (κ := dataKind s'.heap (bs.map (·.2))) (h₁ := hidT s'.heap fun x => if x = kS then some (.own 0) else none) (fun x o _ q => (of_hidT q).1) ?_ pS.1 pA.1 hka (SortsAt.data (s := s') hk' hal hsk hu) hsz hZ fun h3 tk3 c k3 n3 => ?_
    · cases q : (hidT s'.heap fun x => if x = kS then some (.own 0) else none).get? kS with
      | none => rfl
      | some o =>
        have := (of_hidT q).2
        rw [if_pos rfl] at this
        cases this
    · exact h H' s' h3 tk3 _ c I3 j1 pA.2.1 pS.2.1 (fun x o n1 n2 q => k3 x o n1 (hidT_get q (if_neg n2))) n3 ⟨s'.heap, ks.toList, hal, rfl, hk'⟩
end
end Cm
/-! sorted(l, key=f) under the layer's invariant; a lambda of one parameter, called -/
namespace Cm
open PySem PySem.Spec PyProof.Rows PySem.W PySem.Calls LamX
open L2 hiding Same
section
variable {X : Cx} {pins : List (Addr × Obj)} {σ : L2.St} {H : Hp} {s : Shared}
def srtBy (bs : List (V × PyData)) : List V := (bs.mergeSort (dataLe false Prod.snd)).map Prod.fst
theorem srtBy_perm (bs : List (V × PyData)) : (srtBy bs).Perm (bs.map (·.1)) := (List.mergeSort_perm bs _).map _
theorem eachis_vals : ∀ {us : List Value} {bs : List (V × PyData)}, EachIs (fun u (b : V × PyData) => RelV b.1 u) us bs → Vals (bs.map (·.1)) us
  | _, _, .nil => .nil
  | _, _, .cons h t => .cons h (eachis_vals t)
theorem vals_eachis : ∀ {us : List Value} {bs : List (V × PyData)}, Vals (bs.map (·.1)) us → EachIs (fun u (b : V × PyData) => RelV b.1 u) us bs
  | [], [], _ => .nil
  | _ :: _, _ :: _, h => by
    cases h with
    | cons a b => exact .cons a (vals_eachis b)
  | [], _ :: _, h => by cases h
  | _ :: _, [], h => by cases h
theorem sort_key_run {l : Addr} {bs : List (V × PyData)} {f : Addr} {Q : VK} {E : Value → Shared → Prop} {J : Hp → Prop} (I : Inv X pins σ H s) (j0 : J H) (hs : SqL X.K H l (bs.map (·.1))) (hal : AllAlike (bs.map (·.2))) (hsk : Sortable (bs.map (·.2)))
    (hu : ∀ d, d ∈ bs.map (·.2) → X.A.in1.in1.units + d.depth < cLine) (turn : ∀ y ∈ bs, KeyTurn X pins σ J X.A.in1.in1 (.ref f) y.1 y.2)
    (q : ∀ (H' : Hp) (p : Addr), J H' → H' p = none → Q (.ref p) (upd H' p (.lst (srtBy bs)))) :
    wpAny (model X.prog X.w) X.A (call (.builtin "sorted") [.ref l] [(Str.ofString "key", .ref f)]) (EP X pins σ Q) E s := by
  obtain ⟨its, rv, hl, hz⟩ := I.list hs
  have hZ : its.length ≤ sizeLine := by rw [← rv.length]; exact hz
  refine sorted_of_sort hl.isList hZ (ksk_s1 _ _) (fun _ => ksk_l1 _ _) fun E' => ?_
  rw [ksk_t1]
  have ho := copyHeap_at s.heap its
  obtain ⟨e1, ho1⟩ : ∃ e1, ((copyHeap s.heap its).update (s.heap.objs.size + 1) (Obj.mapSeq fun _ => (#[] : Array Value))).get? (s.heap.objs.size + 1) = some (seqObj "list" #[] e1) := ⟨_, get?_update_seq ho fun _ => #[]⟩
  have hlt : (s.heap.objs.size + 1 : Nat) < (copyHeap s.heap its).objs.size := Heap.lt_size ho
  have hkS : (((copyHeap s.heap its).update (s.heap.objs.size + 1) (Obj.mapSeq fun _ => (#[] : Array Value))).push (seqObj "tuple" its.toArray 0)).objs.size = (copyHeap s.heap its).objs.size + 1 := by rw [size_push', Heap.size_update]
  unfold ksk_tree
  refine wpAny_bind (listItems_at ho rfl ?_)
  refine wpAny_bind (listUpdate_at ho rfl ?_ (by rw [List.size_toArray]; exact hZ) (Nat.zero_le _))
  refine wpAny_bind (seqEpoch_at ho1 rfl ?_)
  refine wpAny_bind (wpAny_newTuple ?_ (by show its.length ≤ _; exact hZ))
  refine wpAny_bind (wpAny_newList ?_ (Nat.zero_le _))
  refine wpAny_holding ?_
  have keep : ∀ b o, s.heap.get? b = some o → (sortingHeap (copyHeap s.heap its) (s.heap.objs.size + 1) its).get? b = some o := fun b o e =>
    sortingHeap_old (Nat.ne_of_lt (Nat.lt_succ_of_lt (Heap.lt_size e))) (copyHeap_old e)
  have I1 := I.kept (t' := s.toks) keep
  have zA : Fz X pins (s.heap.objs.size + 1) := Fz.of I (Nat.le_succ _)
  have lk : s.heap.objs.size ≤ (((copyHeap s.heap its).update (s.heap.objs.size + 1) (Obj.mapSeq fun _ => (#[] : Array Value))).push (seqObj "tuple" its.toArray 0)).objs.size := by rw [hkS]; omega
  have zS : Fz X pins (((copyHeap s.heap its).update (s.heap.objs.size + 1) (Obj.mapSeq fun _ => (#[] : Array Value))).push (seqObj "tuple" its.toArray 0)).objs.size := Fz.of I lk
  refine key_loop (bs := bs) (J := J) I1 j0 (I.hok.fresh lk) (I.hok.fresh (Nat.le_succ _)) zS zA (Nat.ne_of_gt (show (s.heap.objs.size + 1 : Nat) < _ by rw [hkS]; omega)) (Heap.get?_push_size _ rfl) (Heap.get?_push_of_some _ (Heap.get?_push_of_some _ ho1)) rv hZ hal hsk hu turn
    fun H' s1 h' tk out c I' j' nA nS kp hA ko => ⟨rfl, ?_⟩
  have eo := eachis_vals (keyedOut_each (k := Prod.snd) ko (vals_eachis rv))
  have lo : (srtBy bs).length ≤ sizeLine := by
    rw [(srtBy_perm bs).length_eq, rv.length]; exact hZ
  generalize (((copyHeap s.heap its).update (s.heap.objs.size + 1) (Obj.mapSeq fun _ => (#[] : Array Value))).push (seqObj "tuple" its.toArray 0)).objs.size = kS at zS nS kp
  generalize s.heap.objs.size + 1 = a at zA nA kp hA
  refine ⟨.ref a, upd H' a (.lst (srtBy bs)), ?_, rfl, q H' a j' nA⟩
  have nm : ∀ b, b ∉ [a, kS] → b ≠ a ∧ b ≠ kS := fun b hb => ⟨fun z => hb (by simp [z]), fun z => hb (by simp [z])⟩
  refine I'.step (g' := s1.gens) (d' := s1.drawn) (t' := tk) (h' := h') (ch := [a, kS]) (fun b hb => ?_) (fun b o _ _ hc e _ => kp b o (nm b hc).1 (nm b hc).2 e) (fun b o _ _ hc e _ => ⟨o.slots, kp b o (nm b hc).1 (nm b hc).2 e⟩)
    (fun b o hc e n => by rw [upd_ne (nm b hc).1]; exact n) (fun b o hc e => ⟨o, kp b o (nm b hc).1 (nm b hc).2 e⟩) (fun b xs e => by rw [upd_ne (ne_of_none e nA)]; exact e) (fun b o u e => by rw [upd_ne (ne_of_none e nA)]; exact e)
    (fun b ps e => ⟨#[], by rw [upd_ne (ne_of_none e nA), e]; simp⟩) (fun m hm => ?_) (fun b u e => ?_) I'.bare
  · rcases List.mem_cons.mp hb with rfl | hb
    · exact ⟨.inr zA.old, zA.loc, zA.cel, zA.pin⟩
    · obtain rfl := List.mem_singleton.mp hb
      exact ⟨.inr zS.old, zS.loc, zS.cel, zS.pin⟩
  · obtain ⟨o, es, ep, ho, r⟩ := hm
    exact ⟨o, es, ep, kp _ o zA.loc.symm zS.loc.symm ho, r⟩
  · by_cases hb : b = a
    · subst hb
      rw [upd_same] at e
      cases e
      exact ⟨lo, out, c, eo, hA⟩
    · rw [upd_ne hb] at e
      refine (I'.hok b u e).stay (fun x v hx z => kp x v ?_ ?_ z) (fun x z => by rw [upd_ne (ne_of_none z nA)]; exact z) fun x xs z => by rw [upd_ne (ne_of_none z nA)]; exact z
      · rcases hx with z | z
        · rw [z]; exact hb
        · exact ne_of_none z nA
      · rcases hx with z | z
        · rw [z]; exact ne_of_none e nS
        · exact ne_of_none z nS
/-- a lambda of one parameter and no other name of its own or captured, called -/
theorem lam_run {A : Around} {f c' : Addr} {x q : Str} {N : List Str} {params : Arguments} {body : Expr} {scope : Scope} {cl : List (Str × Addr)} {pm ctv : Value} {kk : Nat} {v : V} {u : Value} {tb : TE} {Q : VK} {E : Value → Shared → Prop} (I : Inv X pins σ H s) (hr : Room (kk + 1) A) (fr : A.frames = X.A.frames)
    (ho : s.heap.get? f = some (kla_obj "<lambda>" q params body scope cl pm c' ctv)) (hc : H c' = some (CodeO c' q)) (S : FnScope N [x] scope) (hclo : cl = [])
    (hbind : ∀ (pm cv ctv : Value) (u : Value), bindArgs (kla_fn "<lambda>" q params body scope [] pm cv ctv) ⟨[u], []⟩ = pure [(x, u)]) (r : RelV v u)
    (hbody : Room kk (A.deeper (envOfC q scope s.heap.objs.size f (.ref c'))) → PE (cxOf CX0 X.prog X.w X.K X.mg X.base N q scope f (.ref c') A X.stack s H E0).nox body tb) (ht : tb (L2.start N [v]) H Q) :
    wpAny (model X.prog X.w) A (call (.ref f) [u]) (EP X pins σ Q) E s := by
  subst hclo
  have e0 : Env0 X.prog X.w X.K X.mg X.base A X.stack s H := by
    have e := I.env0
    exact ⟨fr.trans e.frames, e.mod, e.bs, e.bsz, e.funs, e.frf, e.hok, e.bare⟩
  have hkind : ∀ y ∈ [x].zip [u], scope.names.lookup y.1 = some .local ∨ (scope.names.lookup y.1 = some .cell ∧ ((cellsFrom (s.heap.objs.size + 1) scope.names []).lookup y.1).isSome = true) := fun ⟨n, w⟩ hy => by
    rcases S.par n (List.of_mem_zip hy).1 with z | z
    · exact .inl z
    · exact .inr ⟨z, cellsFrom_some _ _ _ (.inl z)⟩
  have rc : codeAny (model X.prog X.w) A (.call (.ref f) ⟨[u], []⟩) (CR CX0 X.stack X.prog X.w H s Q E0) s := by
    obtain ⟨⟨oc, vs, t, hoc, hdc, hvc⟩, _, _⟩ := I.hok c' _ hc
    refine kla_callFunE hr.depth ho rfl S.co S.gen rfl ⟨c', oc, vs, t, rfl, hoc, hdc, hvc⟩ ?_
    rw [hbind]
    refine wpAny_pure (wpAny_newFunctionEnv_cells S.kind hkind fun env he s1 xx => ?_)
    subst he
    refine ⟨I.nolimit.keeps xx.toInCall.keep, ?_⟩
    show codeAny _ _ (.expr body (envOfC q scope s.heap.objs.size f (.ref c'))) _ _
    have J : Inv (cxOf CX0 X.prog X.w X.K X.mg X.base N q scope f (.ref c') A X.stack s H E0) [] (L2.start N [v]) H s1 := inv_start S hr.hd e0 rfl (.cons r .nil) xx
    refine kla_codeExpr (wpAny_mono ((hbody (hr.deeper _)).nox.run [] _ _ H Q J ht) (fun w s' hq => ?_) fun e s' hq => hq)
    obtain ⟨w', H', J', rv, q⟩ := hq
    exact ⟨w', H', J'.os, J'.bare, J'.base, J'.hok, rv, q⟩
  refine wpAny_call (codeAny_mono rc fun r s2 hq => ?_)
  cases r with
  | error e => exact (show False from hq).elim
  | ok fl =>
    cases fl with
    | ret u => exact I.after hq
    | next => exact False.elim hq
    | brk => exact False.elim hq
    | cont => exact False.elim hq
end
end Cm
/-! sorted(l) of a list whose items read as data -/
namespace Cm
open PySem PySem.Spec PyProof.Rows PySem.W PySem.Calls
open L2 hiding Same
section
variable {X : Cx}
def rSortedD (K : PySem.W.Frag) : List V → Hp → VK → Prop := fun xs H Q => ∃ (l : Addr) (bs : List (V × PyData)), xs = [V.ref l] ∧ SqL K H l (bs.map (·.1)) ∧ (∀ b ∈ bs, Dp K H b.1 b.2) ∧ AllAlike (bs.map (·.2)) ∧ Sortable (bs.map (·.2)) ∧ (∀ b ∈ bs, b.2.depth ≤ 8) ∧
  ∀ p, H p = none → Q (.ref p) (upd H p (.lst (srtBy bs)))
theorem call_sortedD (hu : X.A.units + 64 < cLine) : CallR X (.builtin "sorted") (rSortedD X.K) := by
  intro pins s σ H xs us Q I r h
  obtain ⟨l, bs, rfl, hs, hd, hal, hsk, hdp, q⟩ := h
  obtain rfl := Vals.ref1 r
  obtain ⟨its, rv, hl, hz⟩ := I.list hs
  have hZ : bs.length ≤ sizeLine := by rw [List.length_map] at hz; exact hz
  have er : ∀ (us : List Value) (bs : List (V × PyData)), (∀ b ∈ bs, Dp X.K H b.1 b.2) → Vals (bs.map (·.1)) us → EachIs (fun v (b : V × PyData) => ∃ as, Reads s.heap v b.2 as) us bs := by
    intro us
    induction us with
    | nil =>
      intro bs _ r
      cases bs with
      | nil => exact .nil
      | cons _ _ => cases r
    | cons u us ih =>
      intro bs hd r
      cases bs with
      | nil => cases r
      | cons b bs =>
        cases r with
        | cons r1 r2 => exact .cons (Dp.reads I _ _ _ (hd b List.mem_cons_self) r1) (ih bs (fun x hx => hd x (List.mem_cons_of_mem _ hx)) r2)
  refine sorted_data (enc := Prod.snd) (R := fun u (b : V × PyData) => RelV b.1 u) hl.isList (vals_eachis rv) (er _ _ hd rv) hal hsk hZ (fun b hb => by have := hdp b hb; show X.A.units + 2 + b.2.depth < cLine; omega) fun out ho eo => ?_
  obtain ⟨ep, he'⟩ := PyProof.Rows.sortedAll_at s.heap its (List.toArray out)
  have lo : (srtBy bs).length ≤ sizeLine := by
    rw [(srtBy_perm bs).length_eq, List.length_map]; exact hZ
  exact ⟨.ref _, upd H (s.heap.objs.size + 1) (.lst (srtBy bs)), I.laid (t' := s.toks) (fun _ _ => PyProof.Rows.sortedAll_old) (Nat.le_succ _) ⟨lo, out, ep, eachis_vals eo, he'⟩, rfl, q _ (I.hok.fresh (Nat.le_succ _))⟩
end
end Cm
namespace Cm
open PySem PySem.Spec PyProof.Rows L2
/-! ### patterns -/
inductive En
  | k (v : Int)
  | n (i : Nat)
  deriving DecidableEq
def En.vs : En → List V
  | .k v => [.str "kept", .int v]
  | .n i => [.str "new", .int (i : Int)]
def En.ds : En → List PyData
  | .k v => [.str "kept", .int v]
  | .n i => [.str "new", .int (i : Int)]
def pat (kept : List Int) : List Int → List Int → List En
  | _, [] => []
  | s, v :: vs => if v ∈ kept then .k v :: pat kept s vs else if v ∈ s then .n (s.idxOf v) :: pat kept s vs else .n s.length :: pat kept (s ++ [v]) vs
theorem pat_k {kept s : List Int} {v : Int} {vs : List Int} (h : v ∈ kept) : pat kept s (v :: vs) = .k v :: pat kept s vs := by rw [pat, if_pos h]
theorem pat_o {kept s : List Int} {v : Int} {vs : List Int} (h : v ∉ kept) (h2 : v ∈ s) : pat kept s (v :: vs) = .n (s.idxOf v) :: pat kept s vs := by rw [pat, if_neg h, if_pos h2]
theorem pat_n {kept s : List Int} {v : Int} {vs : List Int} (h : v ∉ kept) (h2 : v ∉ s) : pat kept s (v :: vs) = .n s.length :: pat kept (s ++ [v]) vs := by rw [pat, if_neg h, if_neg h2]
theorem pat_len (kept : List Int) : ∀ (xs s : List Int), (pat kept s xs).length = xs.length
  | [], _ => rfl
  | v :: vs, s => by
    by_cases h : v ∈ kept
    · rw [pat_k h, List.length_cons, pat_len kept vs s, List.length_cons]
    · by_cases h2 : v ∈ s
      · rw [pat_o h h2, List.length_cons, pat_len kept vs s, List.length_cons]
      · rw [pat_n h h2, List.length_cons, pat_len kept vs _, List.length_cons]
theorem pat_congr {k1 k2 : List Int} (h : ∀ v, v ∈ k1 ↔ v ∈ k2) : ∀ (xs s : List Int), pat k1 s xs = pat k2 s xs
  | [], _ => rfl
  | v :: vs, s => by
    by_cases h1 : v ∈ k1
    · rw [pat_k h1, pat_k ((h v).mp h1), pat_congr h vs s]
    · have h2 : v ∉ k2 := fun z => h1 ((h v).mpr z)
      by_cases h3 : v ∈ s
      · rw [pat_o h1 h3, pat_o h2 h3, pat_congr h vs s]
      · rw [pat_n h1 h3, pat_n h2 h3, pat_congr h vs _]
/-! ### first places -/
theorem idx_lt {v : Int} {s : List Int} (h : v ∈ s) : s.idxOf v < s.length := List.idxOf_lt_length_of_mem h
theorem idx_at {v : Int} {s : List Int} (h : v ∈ s) : s[s.idxOf v]'(idx_lt h) = v := List.getElem_idxOf (idx_lt h)
theorem idx_before {v : Int} : ∀ {s : List Int} {m : Nat} (hm : m < s.length), m < s.idxOf v → s[m] ≠ v
  | [], m, hm, _ => absurd hm (Nat.not_lt_zero _)
  | x :: s, m, hm, h => by
    rw [List.idxOf_cons] at h
    by_cases e : x = v
    · subst e; simp at h
    · have e2 : (x == v) = false := beq_false_of_ne e
      rw [e2] at h
      cases m with
      | zero => exact e
      | succ m =>
        rw [List.getElem_cons_succ]
        exact idx_before (by simpa using hm) (by simpa using h)
theorem idx_append {v : Int} {s : List Int} (h : v ∉ s) : (s ++ [v]).idxOf v = s.length := by
  induction s with
  | nil => simp
  | cons x s ih =>
    have h1 : x ≠ v := fun e => h (e ▸ List.mem_cons_self)
    have h2 : v ∉ s := fun e => h (List.mem_cons_of_mem _ e)
    rw [List.cons_append, List.idxOf_cons, beq_false_of_ne h1]
    simp [ih h2]
theorem idx_nodup {s : List Int} (nd : s.Nodup) {i : Nat} (h : i < s.length) : s.idxOf s[i] = i := by
  have hm := List.getElem_mem h
  have h1 := idx_lt hm
  have h2 := idx_at hm
  by_cases c : s.idxOf s[i] = i
  · exact c
  · exact absurd h2 (by
      have := List.pairwise_iff_getElem.mp nd
      rcases Nat.lt_or_gt_of_ne c with l | l
      · exact this _ _ h1 h l
      · exact (this _ _ h h1 l).symm)
/-! ### when two patterns are equal -/
abbrev g (l : List Int) (k : Nat) : Int := l.getD k 0
theorem g_at {l : List Int} {k : Nat} (h : k < l.length) : g l k = l[k] := by
  show l.getD k 0 = _
  rw [List.getD_eq_getElem?_getD, List.getElem?_eq_getElem h]; rfl
theorem g_mem {l : List Int} {k : Nat} (h : k < l.length) : g l k ∈ l := by rw [g_at h]; exact List.getElem_mem h
def Alk (kept s1 s2 xs ys : List Int) : Prop := ∀ k < xs.length, ((g xs k ∈ kept ∨ g ys k ∈ kept) → g xs k = g ys k) ∧ (∀ i < s1.length, (g xs k = g s1 i ↔ g ys k = g s2 i)) ∧ ∀ j < k, (g xs k = g xs j ↔ g ys k = g ys j)
theorem g_app1 {s : List Int} {x : Int} {i : Nat} (h : i < s.length) : g (s ++ [x]) i = g s i := by
  rw [g_at (by rw [List.length_append]; exact Nat.lt_add_right _ h), g_at h, List.getElem_append_left h]
theorem g_app2 {s : List Int} {x : Int} : g (s ++ [x]) s.length = x := by
  rw [g_at (by simp)]; simp
theorem alk_cons {kept s1 s2 xs ys : List Int} {x y : Int} (hl : s1.length = s2.length) :
    Alk kept s1 s2 (x :: xs) (y :: ys) ↔ (((x ∈ kept ∨ y ∈ kept) → x = y) ∧ ∀ i < s1.length, (x = g s1 i ↔ y = g s2 i)) ∧ Alk kept (s1 ++ [x]) (s2 ++ [y]) xs ys := by
  constructor
  · intro h
    obtain ⟨a, b, _⟩ := h 0 (Nat.zero_lt_succ _)
    refine ⟨⟨a, b⟩, fun k hk => ?_⟩
    obtain ⟨a2, b2, c2⟩ := h (k + 1) (Nat.succ_lt_succ hk)
    refine ⟨a2, fun i hi => ?_, fun j hj => c2 (j + 1) (Nat.succ_lt_succ hj)⟩
    rw [List.length_append] at hi
    by_cases c : i < s1.length
    · rw [g_app1 c, g_app1 (hl ▸ c)]; exact b2 i c
    · have e : i = s1.length := by simp at hi; omega
      subst e
      rw [g_app2, show g (s2 ++ [y]) s1.length = y from by rw [hl]; exact g_app2]
      exact c2 0 (Nat.zero_lt_succ _)
  · rintro ⟨⟨a, b⟩, h⟩ k hk
    cases k with
    | zero => exact ⟨a, b, fun j hj => absurd hj (Nat.not_lt_zero _)⟩
    | succ k =>
      obtain ⟨a2, b2, c2⟩ := h k (Nat.lt_of_succ_lt_succ hk)
      refine ⟨a2, fun i hi => ?_, fun j hj => ?_⟩
      · have z := b2 i (by rw [List.length_append]; exact Nat.lt_add_right _ hi)
        rw [g_app1 hi, g_app1 (hl ▸ hi)] at z; exact z
      · cases j with
        | zero =>
          have z := b2 s1.length (by simp)
          rw [g_app2, show g (s2 ++ [y]) s1.length = y from by rw [hl]; exact g_app2] at z
          exact z
        | succ j => exact c2 j (Nat.lt_of_succ_lt_succ hj)
/-- one more seen value that says nothing new -/
theorem alk_drop {kept s1 s2 xs ys : List Int} {x y : Int} (hl : s1.length = s2.length) (h : ∀ k < xs.length, ((g xs k ∈ kept ∨ g ys k ∈ kept) → g xs k = g ys k) → (∀ i < s1.length, (g xs k = g s1 i ↔ g ys k = g s2 i)) → (g xs k = x ↔ g ys k = y)) :
    Alk kept (s1 ++ [x]) (s2 ++ [y]) xs ys ↔ Alk kept s1 s2 xs ys := by
  constructor
  · intro q k hk
    obtain ⟨a, b, c⟩ := q k hk
    refine ⟨a, fun i hi => ?_, c⟩
    have z := b i (by rw [List.length_append]; exact Nat.lt_add_right _ hi)
    rw [g_app1 hi, g_app1 (hl ▸ hi)] at z; exact z
  · intro q k hk
    obtain ⟨a, b, c⟩ := q k hk
    refine ⟨a, fun i hi => ?_, c⟩
    rw [List.length_append] at hi
    by_cases d : i < s1.length
    · rw [g_app1 d, g_app1 (hl ▸ d)]; exact b i d
    · have e : i = s1.length := by simp at hi; omega
      subst e
      rw [g_app2, show g (s2 ++ [y]) s1.length = y from by rw [hl]; exact g_app2]
      exact h k hk a b
theorem nodup_app {s : List Int} {x : Int} (nd : s.Nodup) (h : x ∉ s) : (s ++ [x]).Nodup := by
  rw [List.nodup_append]
  exact ⟨nd, by simp, fun a ha b hb => by simp at hb; subst hb; exact fun e => h (e ▸ ha)⟩
theorem pat_eq (kept : List Int) : ∀ (xs ys s1 s2 : List Int), xs.length = ys.length → s1.length = s2.length → s1.Nodup → s2.Nodup → (∀ v ∈ s1, v ∉ kept) → (∀ v ∈ s2, v ∉ kept) → (pat kept s1 xs = pat kept s2 ys ↔ Alk kept s1 s2 xs ys)
  | [], [], s1, s2, _, _, _, _, _, _ => ⟨fun _ k hk => absurd hk (Nat.not_lt_zero _), fun _ => rfl⟩
  | [], _ :: _, _, _, h, _, _, _, _, _ => by cases h
  | _ :: _, [], _, _, h, _, _, _, _, _ => by cases h
  | x :: xs, y :: ys, s1, s2, hxy, hl, n1, n2, d1, d2 => by
    have hxy' : xs.length = ys.length := by simpa using hxy
    have ih := pat_eq kept xs ys s1 s2 hxy' hl n1 n2 d1 d2
    rw [alk_cons hl]
    by_cases hx : x ∈ kept
    · by_cases hy : y ∈ kept
      · rw [pat_k hx, pat_k hy]
        constructor
        · intro e
          injection e with e1 e2
          injection e1 with e1
          refine ⟨⟨fun _ => e1, fun i hi => ⟨fun z => ?_, fun z => ?_⟩⟩, (alk_drop hl fun k hk a b => ⟨fun z => ?_, fun z => ?_⟩).mpr (ih.mp e2)⟩
          · exact absurd hx (by rw [z]; exact d1 _ (g_mem hi))
          · exact absurd hy (by rw [z]; exact d2 _ (g_mem (hl ▸ hi)))
          · rw [← a (.inl (by rw [z]; exact hx)), z, e1]
          · rw [a (.inr (by rw [z]; exact hy)), z, e1]
        · rintro ⟨⟨a, b⟩, q⟩
          have e1 := a (.inl hx)
          have q2 := (alk_drop hl fun k hk a b => ⟨fun z => by rw [← a (.inl (by rw [z]; exact hx)), z, e1], fun z => by rw [a (.inr (by rw [z]; exact hy)), z, e1]⟩).mp q
          rw [ih.mpr q2, e1]
      · constructor
        · intro e
          rw [pat_k hx] at e
          by_cases h2 : y ∈ s2
          · rw [pat_o hy h2] at e; injection e with e1; cases e1
          · rw [pat_n hy h2] at e; injection e with e1; cases e1
        · rintro ⟨⟨a, _⟩, _⟩
          exact absurd (a (.inl hx) ▸ hx) hy
    · by_cases hy : y ∈ kept
      · constructor
        · intro e
          rw [pat_k hy] at e
          by_cases h2 : x ∈ s1
          · rw [pat_o hx h2] at e; injection e with e1; cases e1
          · rw [pat_n hx h2] at e; injection e with e1; cases e1
        · rintro ⟨⟨a, _⟩, _⟩
          exact absurd (a (.inr hy) ▸ hy) hx
      · have hk : (x ∈ kept ∨ y ∈ kept) → x = y := fun z => z.elim (fun z => absurd z hx) fun z => absurd z hy
        by_cases h1 : x ∈ s1
        · have l1 := idx_lt h1
          have a1 := idx_at h1
          by_cases h2 : y ∈ s2
          · have l2 := idx_lt h2
            have a2 := idx_at h2
            rw [pat_o hx h1, pat_o hy h2]
            have dr : (∀ i < s1.length, (x = g s1 i ↔ y = g s2 i)) → (Alk kept (s1 ++ [x]) (s2 ++ [y]) xs ys ↔ Alk kept s1 s2 xs ys) := fun b => alk_drop hl fun k hk a c => by
              have z := c _ l1
              have e1 : g s1 (s1.idxOf x) = x := by rw [g_at l1, a1]
              have e2 : g s2 (s1.idxOf x) = y := ((b _ l1).mp e1.symm).symm
              rw [e1, e2] at z; exact z
            constructor
            · intro e
              injection e with e1 e2
              injection e1 with e1
              have b : ∀ i < s1.length, (x = g s1 i ↔ y = g s2 i) := fun i hi => ⟨fun z => by
                have : s1.idxOf x = i := by rw [z, g_at hi]; exact idx_nodup n1 hi
                rw [← this, e1, g_at l2, a2], fun z => by
                have : s2.idxOf y = i := by rw [z, g_at (hl ▸ hi)]; exact idx_nodup n2 (hl ▸ hi)
                rw [← this, ← e1, g_at l1, a1]⟩
              exact ⟨⟨hk, b⟩, (dr b).mpr (ih.mp e2)⟩
            · rintro ⟨⟨_, b⟩, q⟩
              have e1 : s1.idxOf x = s2.idxOf y := by
                have z := (b _ l1).mp (by rw [g_at l1, a1])
                have l3 : s1.idxOf x < s2.length := hl ▸ l1
                rw [z, g_at l3]; exact (idx_nodup n2 l3).symm
              rw [ih.mpr ((dr b).mp q), e1]
          · constructor
            · intro e
              rw [pat_o hx h1, pat_n hy h2] at e
              injection e with e1; injection e1 with e1; omega
            · rintro ⟨⟨_, b⟩, _⟩
              have z := (b _ l1).mp (by rw [g_at l1, a1])
              exact absurd (by rw [z]; exact g_mem (hl ▸ l1)) h2
        · by_cases h2 : y ∈ s2
          · have l2 := idx_lt h2
            have a2 := idx_at h2
            constructor
            · intro e
              rw [pat_n hx h1, pat_o hy h2] at e
              injection e with e1; injection e1 with e1; omega
            · rintro ⟨⟨_, b⟩, _⟩
              have z := (b _ (hl ▸ l2)).mpr (by rw [g_at l2, a2])
              exact absurd (by rw [z]; exact g_mem (hl ▸ l2)) h1
          · rw [pat_n hx h1, pat_n hy h2]
            have ih2 := pat_eq kept xs ys (s1 ++ [x]) (s2 ++ [y]) hxy' (by simp [hl]) (nodup_app n1 h1) (nodup_app n2 h2)
              (fun v hv => by rcases List.mem_append.mp hv with h | h; · exact d1 v h
                              · simp at h; subst h; exact hx)
              (fun v hv => by rcases List.mem_append.mp hv with h | h; · exact d2 v h
                              · simp at h; subst h; exact hy)
            constructor
            · intro e
              injection e with e1 e2
              exact ⟨⟨hk, fun i hi => ⟨fun z => absurd (by rw [z]; exact g_mem hi) h1, fun z => absurd (by rw [z]; exact g_mem (hl ▸ hi)) h2⟩⟩, ih2.mp e2⟩
            · rintro ⟨_, q⟩
              rw [ih2.mpr q, hl]
def Alike (kept xs ys : List Int) : Prop := ∀ k < xs.length, ((g xs k ∈ kept ∨ g ys k ∈ kept) → g xs k = g ys k) ∧ ∀ j < k, (g xs k = g xs j ↔ g ys k = g ys j)
theorem alike_iff {kept xs ys : List Int} (h : xs.length = ys.length) : pat kept [] xs = pat kept [] ys ↔ Alike kept xs ys := by
  rw [pat_eq kept xs ys [] [] h rfl List.nodup_nil List.nodup_nil (fun v hv => absurd hv (by simp)) (fun v hv => absurd hv (by simp))]
  exact ⟨fun q k hk => let ⟨a, _, c⟩ := q k hk; ⟨a, c⟩, fun q k hk => let ⟨a, c⟩ := q k hk; ⟨a, fun i hi => absurd hi (Nat.not_lt_zero _), c⟩⟩
/-! ### what no kept one is -/
def fre (t : List Int) (n : Nat) : List Int := ((List.range n).map fun i : Nat => (i : Int)).filter fun v => decide (v ∉ t)
theorem fre_succ (t : List Int) (n : Nat) : fre t (n + 1) = fre t n ++ (if (n : Int) ∉ t then [(n : Int)] else []) := by
  unfold fre
  rw [List.range_succ, List.map_append, List.filter_append]
  by_cases h : (n : Int) ∈ t <;> simp [h]
theorem fre_at (t : List Int) : ∀ (n i : Nat) (v : Int), (fre t n)[i]? = some v → 0 ≤ v ∧ v < n ∧ v ∉ t ∧ (fre t v.toNat).length = i
  | 0, i, v, h => by simp [fre] at h
  | n + 1, i, v, h => by
    rw [fre_succ] at h
    by_cases c : i < (fre t n).length
    · rw [List.getElem?_append_left c] at h
      obtain ⟨a, b, r⟩ := fre_at t n i v h
      exact ⟨a, by omega, r⟩
    · rw [List.getElem?_append_right (by omega)] at h
      by_cases hn : (n : Int) ∈ t
      · simp [hn] at h
      · rw [if_pos hn] at h
        have h2 : i - (fre t n).length = 0 := by
          have := (List.getElem?_eq_some_iff.mp h).1
          simpa using this
        rw [h2] at h
        have e : (n : Int) = v := by simpa using h
        subst e
        exact ⟨by omega, by omega, hn, by rw [Int.toNat_natCast]; omega⟩
theorem filter_ne {l : List Int} (a : Int) (h : l.Pairwise (· < ·)) : l.length ≤ (l.filter fun v => decide (v ≠ a)).length + 1 := by
  induction l with
  | nil => simp
  | cons x l ih =>
    obtain ⟨h1, h2⟩ := List.pairwise_cons.mp h
    by_cases e : x = a
    · subst e
      have : l.filter (fun v => decide (v ≠ x)) = l := List.filter_eq_self.mpr fun v hv => decide_eq_true (by have := h1 v hv; omega)
      rw [List.filter_cons_of_neg (by simp), this]; simp
    · rw [List.filter_cons_of_pos (by simpa using e), List.length_cons, List.length_cons]
      have := ih h2
      omega
theorem fre_sorted (t : List Int) (n : Nat) : (fre t n).Pairwise (· < ·) := by
  unfold fre
  refine List.Pairwise.filter _ (List.Pairwise.map _ (fun a b h => ?_) List.pairwise_lt_range)
  exact Int.ofNat_lt.mpr h
theorem fre_len (t : List Int) (n : Nat) : n ≤ (fre t n).length + t.length := by
  induction t with
  | nil =>
    have e : fre [] n = (List.range n).map fun i : Nat => (i : Int) := List.filter_eq_self.mpr fun v _ => by simp
    rw [e]; simp
  | cons a t ih =>
    have e : fre (a :: t) n = (fre t n).filter fun v => decide (v ≠ a) := by
      unfold fre
      rw [List.filter_filter]
      congr 1
      funext v
      by_cases h1 : v = a <;> by_cases h2 : v ∈ t <;> simp [h1, h2]
    have := filter_ne a (fre_sorted t n)
    rw [e, List.length_cons]
    omega
def frs (c : Nat) (t : List Int) : List Int := (fre t (c + t.length)).take c
theorem frs_len (c : Nat) (t : List Int) : (frs c t).length = c := by
  have := fre_len t (c + t.length)
  unfold frs
  rw [List.length_take]
  omega
theorem frs_at {c : Nat} {t : List Int} {i : Nat} (h : i < c) : 0 ≤ g (frs c t) i ∧ g (frs c t) i < (c + t.length : Nat) ∧ g (frs c t) i ∉ t ∧ (fre t (g (frs c t) i).toNat).length = i := by
  have h2 : i < (frs c t).length := by rw [frs_len]; exact h
  rw [g_at h2]
  refine fre_at t (c + t.length) i _ ?_
  have e : (frs c t)[i]? = some (frs c t)[i] := List.getElem?_eq_getElem h2
  unfold frs at e
  rw [List.getElem?_take_of_lt h] at e
  exact e
theorem frs_nodup (c : Nat) (t : List Int) : (frs c t).Nodup :=
  ((fre_sorted t (c + t.length)).take (i := c)).imp fun h => Int.ne_of_lt h
/-! ### what realises a pattern -/
def rz (o : List Int) : En → Int
  | .k v => v
  | .n i => g o i
theorem pat_rz {kept o : List Int} (nd : o.Nodup) (dj : ∀ v ∈ o, v ∉ kept) : ∀ (xs s : List Int), (∀ i, En.n i ∈ pat kept s xs → i < o.length) → s.length ≤ o.length → pat kept (o.take s.length) ((pat kept s xs).map (rz o)) = pat kept s xs
  | [], _, _, _ => rfl
  | v :: vs, s, hb, hs => by
    by_cases h : v ∈ kept
    · rw [pat_k h] at hb ⊢
      rw [List.map_cons, show rz o (.k v) = v from rfl, pat_k h, pat_rz nd dj vs s (fun i hi => hb i (List.mem_cons_of_mem _ hi)) hs]
    · by_cases h2 : v ∈ s
      · rw [pat_o h h2] at hb ⊢
        have l := idx_lt h2
        have lo : s.idxOf v < o.length := Nat.lt_of_lt_of_le l hs
        have l2 : s.idxOf v < (o.take s.length).length := by rw [List.length_take]; omega
        have e : rz o (.n (s.idxOf v)) = (o.take s.length)[s.idxOf v] := by
          show g o _ = _
          rw [g_at lo, List.getElem_take]
        rw [List.map_cons, e, pat_o (by rw [List.getElem_take]; exact dj _ (List.getElem_mem _)) (List.getElem_mem _), idx_nodup (nd.take) l2, pat_rz nd dj vs s (fun i hi => hb i (List.mem_cons_of_mem _ hi)) hs]
      · rw [pat_n h h2] at hb ⊢
        have lo : s.length < o.length := hb _ List.mem_cons_self
        have e : rz o (.n s.length) = o[s.length] := g_at lo
        have nm : o[s.length] ∉ o.take s.length := by
          intro z
          obtain ⟨j, hj, ej⟩ := List.getElem_of_mem z
          rw [List.getElem_take] at ej
          rw [List.length_take] at hj
          exact List.pairwise_iff_getElem.mp nd j s.length (by omega) lo (by omega) ej
        rw [List.map_cons, e, pat_n (dj _ (List.getElem_mem _)) nm, List.length_take, Nat.min_eq_left hs]
        have e2 : o.take s.length ++ [o[s.length]] = o.take (s ++ [v]).length := by
          rw [List.length_append, List.length_singleton, List.take_add_one, List.getElem?_eq_getElem lo]; rfl
        rw [e2, pat_rz nd dj vs (s ++ [v]) (fun i hi => hb i (List.mem_cons_of_mem _ hi)) (by rw [List.length_append]; exact lo)]
/-- a class's number is below the count of classes so far -/
theorem pat_bound (kept : List Int) : ∀ (xs s : List Int) (i : Nat), En.n i ∈ pat kept s xs → i < s.length + xs.length
  | [], _, _, h => by simp [pat] at h
  | v :: vs, s, i, h => by
    by_cases h1 : v ∈ kept
    · rw [pat_k h1] at h
      rcases List.mem_cons.mp h with e | e
      · cases e
      · have := pat_bound kept vs s i e; simp; omega
    · by_cases h2 : v ∈ s
      · rw [pat_o h1 h2] at h
        rcases List.mem_cons.mp h with e | e
        · injection e with e; have := idx_lt h2; simp; omega
        · have := pat_bound kept vs s i e; simp; omega
      · rw [pat_n h1 h2] at h
        rcases List.mem_cons.mp h with e | e
        · injection e with e; simp; omega
        · have := pat_bound kept vs (s ++ [v]) i e
          simp at this ⊢; omega
theorem pat_kept (kept : List Int) : ∀ (xs s : List Int) (v : Int), En.k v ∈ pat kept s xs → v ∈ kept
  | [], _, _, h => by simp [pat] at h
  | x :: xs, s, v, h => by
    by_cases h1 : x ∈ kept
    · rw [pat_k h1] at h
      rcases List.mem_cons.mp h with e | e
      · injection e with e; subst e; exact h1
      · exact pat_kept kept xs s v e
    · by_cases h2 : x ∈ s
      · rw [pat_o h1 h2] at h
        rcases List.mem_cons.mp h with e | e
        · cases e
        · exact pat_kept kept xs s v e
      · rw [pat_n h1 h2] at h
        rcases List.mem_cons.mp h with e | e
        · cases e
        · exact pat_kept kept xs _ v e
end Cm
namespace Cm
open PySem PySem.Spec PyProof.Rows L2
theorem cut_take (xs : List V) (c : Nat) : cutV xs none (some (c : Int)) = xs.take c := by
  unfold cutV
  rw [HT.sIx_none, HT.sIx_nat, Nat.sub_zero, List.drop_zero]
  exact (List.take_eq_take_min ..).symm
/-! ### patterns in the heap -/
abbrev AE := Addr × En
def rf (l : List AE) : List V := l.map fun q => V.ref q.1
def PatAt (H : Hp) (a : Addr) (es : List En) : Prop := ∃ l : List AE, H a = some (.tup (rf l)) ∧ l.map (·.2) = es ∧ ∀ q ∈ l, H q.1 = some (.tup q.2.vs)
theorem PatAt.same {H H' : Hp} {a : Addr} {es : List En} (s : Same H H') (h : PatAt H a es) : PatAt H' a es :=
  let ⟨l, h1, h2, h3⟩ := h; ⟨l, s _ _ h1, h2, fun q hq => s _ _ (h3 q hq)⟩
theorem PatAt.kp {K : PySem.W.Frag} {sa : Addr} {sx : List Int} {H H' : Hp} {a p : Addr} {es : List En} (hP : PoolAt K sa sx H p) (s : Kp p H H') (h : PatAt H a es) : PatAt H' a es :=
  let ⟨l, h1, h2, h3⟩ := h; ⟨l, s _ _ (pool_tup hP h1) h1, h2, fun q hq => s _ _ (pool_tup hP (h3 q hq)) (h3 q hq)⟩
/-- the dict of the classes -/
def kvs (s : List Int) : List (Key × V) := s.zipIdx.map fun q => (Sum.inl q.1, V.int (q.2 : Int))
theorem kvs_len (s : List Int) : (kvs s).length = s.length := by unfold kvs; rw [List.length_map, List.length_zipIdx]
theorem val_from (v : Int) : ∀ (s : List Int) (n : Nat), valV ((s.zipIdx n).map fun q => ((Sum.inl q.1 : Key), V.int (q.2 : Int))) (Sum.inl v) = if v ∈ s then some (.int ((n + s.idxOf v : Nat) : Int)) else none
  | [], n => rfl
  | x :: s, n => by
    rw [List.zipIdx_cons, List.map_cons]
    by_cases e : x = v
    · subst e
      have : valV (((Sum.inl x : Key), V.int (n : Int)) :: ((s.zipIdx (n + 1)).map fun q => ((Sum.inl q.1 : Key), V.int (q.2 : Int)))) (Sum.inl x) = some (V.int (n : Int)) := by
        unfold valV
        rw [List.find?_cons_of_pos (by simp)]; rfl
      rw [this, if_pos List.mem_cons_self, List.idxOf_cons_self]; rfl
    · have : valV (((Sum.inl x : Key), V.int (n : Int)) :: ((s.zipIdx (n + 1)).map fun q => ((Sum.inl q.1 : Key), V.int (q.2 : Int)))) (Sum.inl v) = valV ((s.zipIdx (n + 1)).map fun q => ((Sum.inl q.1 : Key), V.int (q.2 : Int))) (Sum.inl v) := by
        unfold valV
        rw [List.find?_cons_of_neg (by simpa using e)]
      rw [this, val_from v s (n + 1), List.idxOf_cons, beq_false_of_ne e]
      by_cases h : v ∈ s
      · rw [if_pos h, if_pos (List.mem_cons_of_mem _ h)]
        show some (V.int ((n + 1 + s.idxOf v : Nat) : Int)) = some (V.int ((n + (s.idxOf v + 1) : Nat) : Int))
        rw [show n + 1 + s.idxOf v = n + (s.idxOf v + 1) from by omega]
      · rw [if_neg h, if_neg (by simp [h]; exact fun z => e z.symm)]
theorem val_kvs (v : Int) (s : List Int) : valV (kvs s) (Sum.inl v) = if v ∈ s then some (.int ((s.idxOf v : Nat) : Int)) else none := by
  have := val_from v s 0
  rw [Nat.zero_add] at this
  exact this
theorem put_kvs {v : Int} {s : List Int} (h : v ∉ s) : putK (kvs s) (Sum.inl v) (V.int ((kvs s).length : Int)) = kvs (s ++ [v]) := by
  have e : ((kvs s).any fun kv => decide (kv.1 = (Sum.inl v : Key))) = false := by
    rw [List.any_eq_false]
    intro kv hk
    unfold kvs at hk
    obtain ⟨q, hq, rfl⟩ := List.mem_map.mp hk
    have hm : q.1 ∈ s := by
      have := List.mem_zipIdx hq
      rw [this.2.2]
      exact List.getElem_mem _
    intro z
    have z2 : q.1 = v := by simpa using z
    exact h (z2 ▸ hm)
  unfold putK
  rw [e, if_neg (by simp), kvs_len]
  unfold kvs
  rw [List.zipIdx_append, List.map_append]
  simp
/-! ### data of patterns -/
theorem kn1 : (("kept" : Str) == "new") = false := by decide +kernel
theorem kn2 : (("new" : Str) == "kept") = false := by decide +kernel
theorem eqv_en (a b : En) : PyData.eqv (.tuple a.ds) (.tuple b.ds) = decide (a = b) := by
  cases a with
  | k v => cases b with
    | k w => simp [En.ds, PyData.eqv, PyData.eqvAll]; apply Bool.eq_iff_iff.mpr; simp
    | n j => simp [En.ds, PyData.eqv, PyData.eqvAll, kn1]
  | n i => cases b with
    | k w => simp [En.ds, PyData.eqv, PyData.eqvAll, kn2]
    | n j => simp [En.ds, PyData.eqv, PyData.eqvAll]; apply Bool.eq_iff_iff.mpr; simp [Int.ofNat_inj]
def pds (es : List En) : List PyData := es.map fun e => .tuple e.ds
theorem eqv_pds : ∀ a b : List En, PyData.eqvAll (pds a) (pds b) = decide (a = b)
  | [], [] => rfl
  | [], b :: bs => by simp [pds, PyData.eqvAll]
  | a :: as, [] => by simp [pds, PyData.eqvAll]
  | a :: as, b :: bs => by
    show (PyData.eqv (.tuple a.ds) (.tuple b.ds) && PyData.eqvAll (pds as) (pds bs)) = _
    rw [eqv_en, eqv_pds as bs]
    apply Bool.eq_iff_iff.mpr
    simp
theorem eqv_pat (a b : List En) : PyData.eqv (.tuple (pds a)) (.tuple (pds b)) = decide (a = b) := by
  rw [PyData.eqv]; exact eqv_pds a b
theorem dp_en {K : PySem.W.Frag} {H : Hp} {a : Addr} {e : En} (h : H a = some (.tup e.vs)) : Dp K H (.ref a) (.tuple e.ds) := by
  cases e with
  | k v => exact .tup (SqT.of h) (.cons (.str _) (.cons (.int _) .nil))
  | n i => exact .tup (SqT.of h) (.cons (.str _) (.cons (.int _) .nil))
theorem dp_ens {K : PySem.W.Frag} {H : Hp} : ∀ (l : List AE), (∀ q ∈ l, H q.1 = some (.tup q.2.vs)) → DpAll K H (rf l) (pds (l.map (·.2)))
  | [], _ => .nil
  | q :: l, h => .cons (dp_en (h q List.mem_cons_self)) (dp_ens l fun r hr => h r (List.mem_cons_of_mem _ hr))
theorem dp_pat {K : PySem.W.Frag} {H : Hp} {a : Addr} {es : List En} (h : PatAt H a es) : Dp K H (.ref a) (.tuple (pds es)) := by
  obtain ⟨l, h1, rfl, h3⟩ := h
  exact .tup (SqT.of h1) (dp_ens l h3)
theorem lay_en (e : En) : PyData.canLay0 (.tuple e.ds) = true ∧ (PyData.tuple e.ds).depth = 1 := by
  have k : ∀ x : Str, PyData.strOk x = true → PyData.canLay0 (.str x) = true := fun x h => by rw [PyData.canLay0]; exact h
  cases e with
  | k v =>
    refine ⟨?_, rfl⟩
    rw [PyData.canLay0]
    show (PyData.canLay0 (.str "kept") && (PyData.canLay0 (.int v) && true)) = true
    rw [k "kept" (by decide +kernel)]; rfl
  | n i =>
    refine ⟨?_, rfl⟩
    rw [PyData.canLay0]
    show (PyData.canLay0 (.str "new") && (PyData.canLay0 (.int i) && true)) = true
    rw [k "new" (by decide +kernel)]; rfl
theorem lay_pds : ∀ es : List En, PyData.canLayAll0 (pds es) = true ∧ PyData.depthAll (pds es) ≤ 1
  | [] => ⟨rfl, Nat.zero_le _⟩
  | e :: es => by
    obtain ⟨h1, h2⟩ := lay_pds es
    obtain ⟨h3, h4⟩ := lay_en e
    constructor
    · show (PyData.canLay0 (.tuple e.ds) && PyData.canLayAll0 (pds es)) = true
      rw [h1, h3]; rfl
    · show max (PyData.tuple e.ds).depth (PyData.depthAll (pds es)) ≤ 1
      omega
theorem shp_pat (es : List En) : SeqAt.shaped (.tuple (pds es)) = true := by
  obtain ⟨h1, h2⟩ := lay_pds es
  unfold SeqAt.shaped
  rw [PyData.canLay0, h1, PyData.depth]
  have : PyData.depthAll (pds es) + 1 ≤ 64 := by omega
  simpa using this
end Cm
namespace Cm
open PySem PySem.Spec PyProof.Rows
open L2 hiding Same
theorem ix_ints1 {v : Int} {s : List Int} (h : v ∈ s) : (s.map V.int)[s.idxOf v]? = some (.int v) := by
  rw [List.getElem?_map, List.getElem?_eq_getElem (idx_lt h), idx_at h]; rfl
theorem ix_ints2 {v : Int} {s : List Int} (m : Nat) (z : V) (hm : m < s.idxOf v) (h : (s.map V.int)[m]? = some z) : eqV z (.int v) = false := by
  obtain ⟨hi, rfl⟩ := map_at h
  have := idx_before hi hm
  simpa [eqV] using this
theorem eqV_int (v : Int) : eqV (.int v) (.int v) = true := by simp [eqV]
theorem rf_len (l : List AE) : (rf l).length = l.length := List.length_map ..
theorem rf_at {l : List AE} {i : Nat} {x : V} (h : (rf l)[i]? = some x) : ∃ q, l[i]? = some q ∧ V.ref q.1 = x := by
  unfold rf at h
  rw [List.getElem?_map] at h
  cases e : l[i]? with
  | none => rw [e] at h; cases h
  | some q => rw [e] at h; exact ⟨q, rfl, Option.some.inj h⟩
def clsF (q : AE) : Option Int := match q.2 with
  | .k _ => none
  | .n i => some (i + 1 : Int)
def cls (l : List AE) : List Int := l.filterMap clsF
theorem cls_take {l : List AE} {i : Nat} {q : AE} (h : l[i]? = some q) : cls (l.take (i + 1)) = cls (l.take i) ++ (clsF q).toList := by
  unfold cls
  rw [List.take_add_one, h, List.filterMap_append]
  have e : List.filterMap clsF (some q).toList = (clsF q).toList := by
    show List.filterMap clsF [q] = _
    cases e : clsF q <;> simp [e]
  rw [e]
theorem cls_len (l : List AE) : (cls l).length ≤ l.length := List.length_filterMap_le ..
/-- how many classes there are -/
def CntOk (c : Nat) (es : List En) : Prop := (∀ i, En.n i ∈ es → i < c) ∧ (c = 0 ∨ En.n (c - 1) ∈ es)
theorem CntOk.le {c n : Nat} {es : List En} (h : CntOk c es) (b : ∀ i, En.n i ∈ es → i < n) : c ≤ n := by
  rcases h.2 with e | e
  · omega
  · have := b _ e; omega
theorem cnt_nil {l : List AE} (h : cls l = []) : CntOk 0 (l.map (·.2)) := by
  refine ⟨fun i hi => ?_, .inl rfl⟩
  obtain ⟨q, hq, e⟩ := List.mem_map.mp hi
  have : (i + 1 : Int) ∈ cls l := List.mem_filterMap.mpr ⟨q, hq, by unfold clsF; rw [e]⟩
  rw [h] at this; cases this
theorem cnt_max {l : List AE} {m : Int} (h : m ∈ cls l) (hm : ∀ n ∈ cls l, n ≤ m) : ∃ c : Nat, m = c ∧ CntOk c (l.map (·.2)) := by
  obtain ⟨q, hq, e⟩ := List.mem_filterMap.mp h
  unfold clsF at e
  cases e2 : q.2 with
  | k v => rw [e2] at e; cases e
  | n i =>
    rw [e2] at e
    have e3 : (i + 1 : Int) = m := Option.some.inj e
    refine ⟨i + 1, by omega, fun j hj => ?_, .inr (List.mem_map.mpr ⟨q, hq, e2⟩)⟩
    obtain ⟨r, hr, e4⟩ := List.mem_map.mp hj
    have := hm (j + 1 : Int) (List.mem_filterMap.mpr ⟨r, hr, by unfold clsF; rw [e4]⟩)
    omega
end Cm
namespace Cm
open PySem PySem.Spec PyProof.Rows
open L2 hiding Same
theorem vi {a b : Int} : V.int a = V.int b ↔ a = b := ⟨fun h => by injection h, fun h => by rw [h]⟩
theorem bl_iff {a b c d : Int} : V.bl (decide (V.int a = V.int b)) = V.bl (decide (V.int c = V.int d)) ↔ (a = b ↔ c = d) := by
  constructor
  · intro h
    injection h with h
    have := decide_eq_decide.mp h
    rwa [vi, vi] at this
  · intro h
    congr 1
    exact decide_eq_decide.mpr (by rwa [vi, vi])
end Cm
namespace Cm
open PySem PySem.Spec PyProof.Rows
open L2 hiding Same
theorem fre_congr {t1 t2 : List Int} (h : ∀ v, v ∈ t1 ↔ v ∈ t2) (n : Nat) : fre t1 n = fre t2 n := by
  unfold fre
  congr 1
  funext v
  exact decide_eq_decide.mpr (not_congr (h v))
theorem frs_congr {t1 t2 : List Int} (h : ∀ v, v ∈ t1 ↔ v ∈ t2) (hl : t1.length = t2.length) (c : Nat) : frs c t1 = frs c t2 := by
  unfold frs
  rw [fre_congr h, hl]
theorem frs_dj {c : Nat} {t : List Int} : ∀ v ∈ frs c t, v ∉ t := fun v hv => by
  obtain ⟨i, hi, rfl⟩ := List.getElem_of_mem hv
  have := (frs_at (t := t) (show i < c by rwa [frs_len] at hi)).2.2.1
  rwa [g_at hi] at this
/-- the pattern of what realises a pattern -/
theorem pat_real {kept xs : List Int} {c : Nat} (h : CntOk c (pat kept [] xs)) : pat kept [] ((pat kept [] xs).map (rz (frs c kept))) = pat kept [] xs := by
  have := pat_rz (kept := kept) (o := frs c kept) (frs_nodup c kept) frs_dj xs [] (fun i hi => by rw [frs_len]; exact h.1 i hi) (Nat.zero_le _)
  simpa using this
theorem pat_lt {kept xs : List Int} {n : Nat} (h : xs.length ≤ n) : ∀ i, En.n i ∈ pat kept [] xs → i < n := fun i hi => by
  have := pat_bound kept xs [] i hi
  simp at this; omega
end Cm
namespace K29
open PySem PySem.Spec PyProof.Rows Cm
open L2 hiding Same
/-! ### nothing wrong: a table that is a permutation -/
theorem miss_none {fs : List Int} : ∀ {ss : List Int} {i : Nat}, miss fs i ss = none ↔ ∀ s ∈ ss, s ∈ fs
  | [], i => by simp [miss]
  | s :: ss, i => by
    rw [miss]
    by_cases h : s ∈ fs
    · rw [if_pos h, miss_none (ss := ss)]; simp [h]
    · rw [if_neg h]; simp [h]
theorem scan_inr : ∀ {is : List It} {fs ss : List Int} {i : Nat} {q : List Int × List Int}, scan fs ss i is = .inr q → ∃ ps : List Pr, is.map pairI = ps.map some ∧ q = (fs ++ f1 ps, ss ++ f2 ps) ∧ (fs.Nodup → q.1.Nodup) ∧ (ss.Nodup → q.2.Nodup)
  | [], fs, ss, i, q, h => by
    rw [scan] at h
    cases h
    exact ⟨[], rfl, by simp [f1, f2], id, id⟩
  | it :: r, fs, ss, i, q, h => by
    cases hp : pairI it with
    | none => rw [scan_none hp] at h; cases h
    | some p =>
      by_cases b : p.1 ∈ fs ∨ p.2 ∈ ss
      · rw [scan_bad hp b] at h; cases h
      · have b1 : p.1 ∉ fs := fun z => b (.inl z)
        have b2 : p.2 ∉ ss := fun z => b (.inr z)
        rw [scan_ok hp b1 b2] at h
        obtain ⟨ps, h1, h2, h3, h4⟩ := scan_inr h
        refine ⟨p :: ps, by rw [List.map_cons, List.map_cons, hp, h1], by rw [h2]; simp [f1, f2], fun n => h3 (nodup_app n b1), fun n => h4 (nodup_app n b2)⟩
theorem scan_val : ∀ {is : List It} {ps : List Pr} {fs ss : List Int} {i : Nat}, is.map pairI = ps.map some → (fs ++ f1 ps).Nodup → (ss ++ f2 ps).Nodup → scan fs ss i is = .inr (fs ++ f1 ps, ss ++ f2 ps)
  | [], [], fs, ss, i, _, _, _ => by simp [scan, f1, f2]
  | [], _ :: _, _, _, _, h, _, _ => by cases h
  | _ :: _, [], _, _, _, h, _, _ => by cases h
  | it :: r, p :: ps, fs, ss, i, h, n1, n2 => by
    obtain ⟨h1, h2⟩ := List.cons.inj (show pairI it :: r.map pairI = some p :: ps.map some from h)
    have e1 : fs ++ f1 (p :: ps) = (fs ++ [p.1]) ++ f1 ps := by simp [f1]
    have e2 : ss ++ f2 (p :: ps) = (ss ++ [p.2]) ++ f2 ps := by simp [f2]
    rw [e1] at n1 ⊢
    rw [e2] at n2 ⊢
    have b1 : p.1 ∉ fs := fun z => by
      have := (List.nodup_append.mp (List.nodup_append.mp n1).1).2.2 _ z _ (List.mem_singleton.mpr rfl)
      exact this rfl
    have b2 : p.2 ∉ ss := fun z => by
      have := (List.nodup_append.mp (List.nodup_append.mp n2).1).2.2 _ z _ (List.mem_singleton.mpr rfl)
      exact this rfl
    rw [scan_ok h1 b1 b2]
    exact scan_val h2 n1 n2
theorem wrong_none {is : List It} (h : wrongI is = none) : ∃ ps : List Pr, is.map pairI = ps.map some ∧ Val ps := by
  unfold wrongI at h
  cases e : scan [] [] 0 is with
  | inl i => rw [e] at h; cases h
  | inr q =>
    rw [e] at h
    obtain ⟨ps, h1, h2, h3, h4⟩ := scan_inr e
    refine ⟨ps, h1, ?_, ?_, ?_⟩
    · have := h3 List.nodup_nil; rw [h2] at this; simpa using this
    · have := h4 List.nodup_nil; rw [h2] at this; simpa using this
    · intro p hp
      have z := miss_none.mp (show miss q.1 0 q.2 = none from h)
      rw [h2] at z
      have := z p.2 (by show p.2 ∈ [] ++ f2 ps; rw [List.nil_append]; exact f2_mem hp)
      simpa using this
theorem val_wrong {is : List It} {ps : List Pr} (h : is.map pairI = ps.map some) (v : Val ps) : wrongI is = none := by
  unfold wrongI
  rw [scan_val h (by simpa using v.n1) (by simpa using v.n2)]
  show miss ([] ++ f1 ps) 0 ([] ++ f2 ps) = none
  rw [List.nil_append, List.nil_append, miss_none]
  intro s hs
  obtain ⟨a, ha⟩ := mem_f2 hs
  exact v.cl _ ha
/-! ### pairs that stand -/
abbrev PL := List (Addr × Pr)
def rfp (l : PL) : List V := l.map fun e => V.ref e.1
abbrev prs (l : PL) : List Pr := l.map Prod.snd
def pv2 (p : Pr) : List V := [V.int p.1, V.int p.2]
def PrsAt (H : Hp) (l : PL) : Prop := ∀ e ∈ l, H e.1 = some (.tup (pv2 e.2))
theorem PrsAt.same {H H' : Hp} {l : PL} (h : PrsAt H l) (s : Same H H') : PrsAt H' l := fun e he => s _ _ (h e he)
theorem rfp_len (l : PL) : (rfp l).length = l.length := List.length_map ..
theorem rfp_at {l : PL} {i : Nat} {x : V} (h : (rfp l)[i]? = some x) : ∃ hi : i < l.length, x = .ref l[i].1 := by
  unfold rfp at h
  rw [List.getElem?_map] at h
  cases e : l[i]? with
  | none => rw [e] at h; cases h
  | some n =>
    rw [e] at h
    obtain ⟨hi, e2⟩ := List.getElem?_eq_some_iff.mp e
    exact ⟨hi, by rw [e2]; exact (Option.some.inj h).symm⟩
def pd (p : Pr) : PyData := .tuple [.int p.1, .int p.2]
theorem pd_dp {K : PySem.W.Frag} {H : Hp} {a : Addr} {p : Pr} (h : H a = some (.tup (pv2 p))) : Dp K H (.ref a) (pd p) := .tup (SqT.of h) (.cons (.int p.1) (.cons (.int p.2) .nil))
def bsP (l : PL) : List (V × PyData) := l.map fun e => (V.ref e.1, pd e.2)
theorem bsP_fst (l : PL) : (bsP l).map (·.1) = rfp l := by unfold bsP rfp; rw [List.map_map]; rfl
theorem bsP_snd (l : PL) : (bsP l).map (·.2) = (prs l).map pd := by unfold bsP prs; rw [List.map_map, List.map_map]; rfl
theorem pd_toks (p : Pr) : PySem.W.keyToks (pd p) = [.inl 1, .inl p.1, .inl 1, .inl p.2, .inl 0] := by simp [pd, PySem.W.keyToks, PySem.W.keyToksAll]
theorem lx_cons (x y : Int) (r t : List (Int ⊕ List Nat)) : PyProof.Rows.lexLt PyProof.Rows.itemOrd (.inl x :: r) (.inl y :: t) = (decide (x < y) || (!decide (y < x) && PyProof.Rows.lexLt PyProof.Rows.itemOrd r t)) := PyProof.Rows.lex_cons (O := PyProof.Rows.itemOrd) _ _ _ _
theorem pd_le (a b : Pr) : PySem.W.dataLe false (fun x : Pr => pd x) a b = ple a b := by
  show (!(PyProof.Rows.lexLt PyProof.Rows.itemOrd (PySem.W.keyToks (pd b)) (PySem.W.keyToks (pd a)))) = ple a b
  rw [pd_toks, pd_toks, lx_cons, lx_cons, lx_cons, lx_cons, lx_cons, show PyProof.Rows.lexLt PyProof.Rows.itemOrd [] [] = false from rfl]
  apply Bool.eq_iff_iff.mpr
  rw [ple_iff]
  simp
  omega
def soL (l : PL) : PL := l.mergeSort fun a b => ple a.2 b.2
theorem soL_prs (l : PL) : prs (soL l) = so (prs l) :=
  List.map_mergeSort (r := fun a b : Addr × Pr => ple a.2 b.2) (s := ple) (f := fun e : Addr × Pr => e.2) (l := l) (fun a _ b _ => rfl)
theorem soL_mem {l : PL} {e : Addr × Pr} : e ∈ soL l ↔ e ∈ l := (List.mergeSort_perm l _).mem_iff
theorem soL_len (l : PL) : (soL l).length = l.length := (List.mergeSort_perm l _).length_eq
theorem srt_bsP (l : PL) : srtBy (bsP l) = rfp (soL l) := by
  unfold srtBy bsP rfp soL
  have e := List.map_mergeSort (r := fun a b : Addr × Pr => ple a.2 b.2) (s := PySem.W.dataLe false Prod.snd) (f := fun e : Addr × Pr => (V.ref e.1, pd e.2)) (l := l) (fun a _ b _ => by
    show ple a.2 b.2 = PySem.W.dataLe false Prod.snd (V.ref a.1, pd a.2) (V.ref b.1, pd b.2)
    rw [← pd_le]; rfl)
  rw [← e, List.map_map]; rfl
theorem pd_alike (ms : List Pr) : PySem.W.AllAlike (ms.map pd) := PySem.W.AllAlike.of fun a b => by simp [pd, PySem.W.alike, PySem.W.alikeAll]
theorem pd_sortable (ms : List Pr) : PySem.W.Sortable (ms.map pd) := PySem.W.Sortable.tuples fun a => ⟨_, _, rfl⟩
theorem pd_depth (p : Pr) : (pd p).depth ≤ 8 := by simp [pd, PyData.depth, PyData.depthAll]
end K29
namespace Cm
open PySem PySem.Spec PyProof.Rows
open L2 hiding Same
/-! ### each once -/
def addN (s : List Int) (v : Int) : List Int := if v ∈ s then s else s ++ [v]
def fin (kept : List Int) : List Int → List Int → List Int
  | s, [] => s
  | s, v :: vs => if v ∈ kept then fin kept s vs else fin kept (addN s v) vs
theorem fin_filter (kept : List Int) : ∀ (xs s : List Int), (xs.filter fun v => decide (v ∉ kept)).foldl addN s = fin kept s xs
  | [], _ => rfl
  | v :: vs, s => by
    by_cases h : v ∈ kept
    · rw [fin, if_pos h, List.filter_cons_of_neg (by simpa using h), fin_filter kept vs s]
    · rw [fin, if_neg h, List.filter_cons_of_pos (by simpa using h), List.foldl_cons, fin_filter kept vs _]
theorem due_fin {kept sk : List Int} (h : ∀ v, v ∈ sk ↔ v ∈ kept) : ∀ (xs s : List Int), xs.foldl addN (sk ++ s) = sk ++ fin kept s xs
  | [], _ => rfl
  | v :: vs, s => by
    rw [List.foldl_cons, fin]
    by_cases h1 : v ∈ kept
    · rw [if_pos h1, show addN (sk ++ s) v = sk ++ s from if_pos (List.mem_append.mpr (.inl ((h v).mpr h1))), due_fin h vs s]
    · rw [if_neg h1]
      by_cases h2 : v ∈ s
      · rw [show addN (sk ++ s) v = sk ++ s from if_pos (List.mem_append.mpr (.inr h2)), show addN s v = s from if_pos h2, due_fin h vs s]
      · have h3 : v ∉ sk ++ s := fun z => (List.mem_append.mp z).elim (fun z => h1 ((h v).mp z)) h2
        rw [show addN (sk ++ s) v = sk ++ (s ++ [v]) from by unfold addN; rw [if_neg h3, List.append_assoc], show addN s v = s ++ [v] from if_neg h2, due_fin h vs _]
theorem addN_in {s : List Int} {v : Int} (h : v ∈ s) : addN s v = s := if_pos h
theorem addN_out {s : List Int} {v : Int} (h : v ∉ s) : addN s v = s ++ [v] := if_neg h
theorem addN_nodup {s : List Int} {v : Int} (h : s.Nodup) : (addN s v).Nodup := by
  unfold addN
  by_cases c : v ∈ s
  · rw [if_pos c]; exact h
  · rw [if_neg c]; exact nodup_app h c
theorem fin_nodup (kept : List Int) : ∀ (xs s : List Int), s.Nodup → (fin kept s xs).Nodup
  | [], _, h => h
  | v :: vs, s, h => by
    rw [fin]
    by_cases c : v ∈ kept
    · rw [if_pos c]; exact fin_nodup kept vs s h
    · rw [if_neg c]; exact fin_nodup kept vs _ (addN_nodup h)
theorem mem_addN {s : List Int} {v w : Int} : w ∈ addN s v ↔ w ∈ s ∨ w = v := by
  unfold addN
  by_cases c : v ∈ s
  · rw [if_pos c]; exact ⟨.inl, fun h => h.elim id fun e => e ▸ c⟩
  · rw [if_neg c]; simp
theorem mem_fin (kept : List Int) (w : Int) : ∀ (xs s : List Int), w ∈ fin kept s xs ↔ w ∈ s ∨ (w ∈ xs ∧ w ∉ kept)
  | [], s => by rw [fin]; simp
  | v :: vs, s => by
    rw [fin]
    by_cases c : v ∈ kept
    · rw [if_pos c, mem_fin kept w vs s]
      constructor
      · rintro (h | ⟨h1, h2⟩)
        · exact .inl h
        · exact .inr ⟨List.mem_cons_of_mem _ h1, h2⟩
      · rintro (h | ⟨h1, h2⟩)
        · exact .inl h
        · rcases List.mem_cons.mp h1 with e | e
          · exact absurd c (e ▸ h2)
          · exact .inr ⟨e, h2⟩
    · rw [if_neg c, mem_fin kept w vs _, mem_addN]
      constructor
      · rintro ((h | h) | ⟨h1, h2⟩)
        · exact .inl h
        · exact .inr ⟨h ▸ List.mem_cons_self, h ▸ c⟩
        · exact .inr ⟨List.mem_cons_of_mem _ h1, h2⟩
      · rintro (h | ⟨h1, h2⟩)
        · exact .inl (.inl h)
        · rcases List.mem_cons.mp h1 with e | e
          · exact .inl (.inr e)
          · exact .inr ⟨e, h2⟩
theorem fin_pre (kept : List Int) : ∀ (xs s : List Int), ∃ t, fin kept s xs = s ++ t
  | [], s => ⟨[], (List.append_nil s).symm⟩
  | v :: vs, s => by
    rw [fin]
    by_cases c : v ∈ kept
    · rw [if_pos c]; exact fin_pre kept vs s
    · rw [if_neg c]
      obtain ⟨t, e⟩ := fin_pre kept vs (addN s v)
      rw [e]
      unfold addN
      by_cases d : v ∈ s
      · rw [if_pos d]; exact ⟨t, rfl⟩
      · rw [if_neg d, List.append_assoc]; exact ⟨_, rfl⟩
/-! ### a pattern with one more -/
def ent (kept U : List Int) (c : Int) : En := if c ∈ kept then .k c else if c ∈ U then .n (U.idxOf c) else .n U.length
theorem pat_app (kept : List Int) (c : Int) : ∀ (xs s : List Int), pat kept s (xs ++ [c]) = pat kept s xs ++ [ent kept (fin kept s xs) c]
  | [], s => by
    show pat kept s [c] = [ent kept s c]
    unfold ent
    by_cases h : c ∈ kept
    · rw [pat_k h, if_pos h]; rfl
    · by_cases h2 : c ∈ s
      · rw [pat_o h h2, if_neg h, if_pos h2]; rfl
      · rw [pat_n h h2, if_neg h, if_neg h2]; rfl
  | v :: vs, s => by
    rw [List.cons_append, fin]
    by_cases h : v ∈ kept
    · rw [pat_k h, pat_k h, if_pos h, pat_app kept c vs s]; rfl
    · rw [if_neg h]
      by_cases h2 : v ∈ s
      · rw [pat_o h h2, pat_o h h2, show addN s v = s from if_pos h2, pat_app kept c vs s]; rfl
      · rw [pat_n h h2, pat_n h h2, show addN s v = s ++ [v] from if_neg h2, pat_app kept c vs _]; rfl
theorem pat_app_eq {kept xs : List Int} {c n : Int} : pat kept [] (xs ++ [c]) = pat kept [] (xs ++ [n]) ↔ ent kept (fin kept [] xs) c = ent kept (fin kept [] xs) n := by
  rw [pat_app, pat_app]
  exact ⟨fun h => by simpa using h, fun h => by rw [h]⟩
/-- the choices: sk those kept, U the others, f a new one -/
structure Chs (kept sk U : List Int) (f : Int) : Prop where
  mem : ∀ v, v ∈ sk ↔ v ∈ kept
  len : sk.length = kept.length
  nk : sk.Nodup
  nu : U.Nodup
  dj : ∀ v ∈ U, v ∉ kept
  fk : f ∉ kept
  fu : f ∉ U
def chs (sk U : List Int) (f : Int) : List Int := sk ++ U ++ [f]
section
variable {kept sk U : List Int} {f : Int}
theorem Chs.nodup (h : Chs kept sk U f) : (chs sk U f).Nodup := by
  unfold chs
  refine nodup_app ?_ fun z => (List.mem_append.mp z).elim (fun z => h.fk ((h.mem f).mp z)) h.fu
  rw [List.nodup_append]
  exact ⟨h.nk, h.nu, fun a ha b hb e => h.dj b hb ((h.mem b).mp (e ▸ ha))⟩
theorem Chs.cases (h : Chs kept sk U f) {c : Int} (m : c ∈ chs sk U f) : c ∈ kept ∨ (c ∉ kept ∧ c ∈ U) ∨ c = f := by
  unfold chs at m
  rcases List.mem_append.mp m with m | m
  · rcases List.mem_append.mp m with m | m
    · exact .inl ((h.mem c).mp m)
    · exact .inr (.inl ⟨h.dj c m, m⟩)
  · exact .inr (.inr (by simpa using m))
theorem Chs.inj (h : Chs kept sk U f) {c d : Int} (mc : c ∈ chs sk U f) (md : d ∈ chs sk U f) (e : ent kept U c = ent kept U d) : c = d := by
  unfold ent at e
  rcases h.cases mc with c1 | ⟨c1, c2⟩ | c1 <;> rcases h.cases md with d1 | ⟨d1, d2⟩ | d1
  · rw [if_pos c1, if_pos d1] at e; injection e
  · rw [if_pos c1, if_neg d1, if_pos d2] at e; cases e
  · subst d1; rw [if_pos c1, if_neg h.fk, if_neg h.fu] at e; cases e
  · rw [if_neg c1, if_pos c2, if_pos d1] at e; cases e
  · rw [if_neg c1, if_pos c2, if_neg d1, if_pos d2] at e
    injection e with e
    have a := idx_at c2
    have b := idx_at d2
    have b2 : U[U.idxOf c]'(idx_lt c2) = d := by rw [← b]; congr 1
    rw [← a, b2]
  · subst d1; rw [if_neg c1, if_pos c2, if_neg h.fk, if_neg h.fu] at e; injection e with e; have := idx_lt c2; omega
  · subst c1; rw [if_neg h.fk, if_neg h.fu, if_pos d1] at e; cases e
  · subst c1; rw [if_neg h.fk, if_neg h.fu, if_neg d1, if_pos d2] at e; injection e with e; have := idx_lt d2; omega
  · rw [c1, d1]
theorem Chs.has (h : Chs kept sk U f) (n : Int) : ∃ c ∈ chs sk U f, ent kept U c = ent kept U n := by
  by_cases h1 : n ∈ kept
  · exact ⟨n, by unfold chs; simp [(h.mem n).mpr h1], rfl⟩
  · by_cases h2 : n ∈ U
    · exact ⟨n, by unfold chs; simp [h2], rfl⟩
    · refine ⟨f, by unfold chs; simp, ?_⟩
      unfold ent
      rw [if_neg h.fk, if_neg h.fu, if_neg h1, if_neg h2]
theorem filter_one {l : List Int} {c : Int} {p : Int → Bool} (nd : l.Nodup) (hc : c ∈ l) (hp : ∀ d ∈ l, (p d = true ↔ d = c)) : (l.filter p).length = 1 := by
  induction l with
  | nil => cases hc
  | cons x l ih =>
    obtain ⟨h1, h2⟩ := List.nodup_cons.mp nd
    by_cases e : x = c
    · subst e
      have : l.filter p = [] := List.filter_eq_nil_iff.mpr fun d hd z => h1 ((hp d (List.mem_cons_of_mem _ hd)).mp z ▸ hd)
      rw [List.filter_cons_of_pos ((hp x List.mem_cons_self).mpr rfl), this]; rfl
    · rw [List.filter_cons_of_neg fun z => e ((hp x List.mem_cons_self).mp z)]
      exact ih h2 ((List.mem_cons.mp hc).resolve_left fun z => e z.symm) fun d hd => hp d (List.mem_cons_of_mem _ hd)
/-- exactly one choice has the pattern -/
theorem Chs.one {xs : List Int} (h : Chs kept sk (fin kept [] xs) f) (n : Int) : ((chs sk (fin kept [] xs) f).filter fun c => decide (pat kept [] (xs ++ [c]) = pat kept [] (xs ++ [n]))).length = 1 := by
  obtain ⟨c, hc, e⟩ := h.has n
  refine filter_one h.nodup hc fun d hd => ?_
  rw [decide_eq_true_iff, pat_app_eq, ← e]
  exact ⟨h.inj hd hc, fun z => by rw [z]⟩
/-- by places -/
theorem Chs.at (h : Chs kept sk U f) {k : Nat} (hk : k < (chs sk U f).length) : ent kept U (chs sk U f)[k] = if hs : k < sk.length then .k sk[k] else .n (k - sk.length) := by
  unfold chs at hk ⊢
  unfold ent
  by_cases c1 : k < sk.length
  · have e : (sk ++ U ++ [f])[k] = sk[k] := by rw [List.getElem_append_left (by rw [List.length_append]; omega), List.getElem_append_left c1]
    rw [dif_pos c1, e, if_pos ((h.mem _).mp (List.getElem_mem c1))]
  · rw [dif_neg c1]
    by_cases c2 : k - sk.length < U.length
    · have e : (sk ++ U ++ [f])[k] = U[k - sk.length] := by rw [List.getElem_append_left (by rw [List.length_append]; omega), List.getElem_append_right (by omega)]
      rw [e, if_neg (h.dj _ (List.getElem_mem c2)), if_pos (List.getElem_mem c2), idx_nodup h.nu c2]
    · have hl : k = sk.length + U.length := by simp at hk; omega
      have e : (sk ++ U ++ [f])[k] = f := by rw [List.getElem_append_right (by rw [List.length_append]; omega)]; simp
      rw [e, if_neg h.fk, if_neg h.fu]
      congr 1; omega
theorem chs_len (sk U : List Int) (f : Int) : (chs sk U f).length = sk.length + U.length + 1 := by unfold chs; simp; omega
/-- the entry by the place in the list of choices -/
theorem Chs.idx (h : Chs kept sk U f) {c : Int} (m : c ∈ chs sk U f) (hc : c ∉ kept) : ent kept U c = .n ((chs sk U f).idxOf c - kept.length) ∧ kept.length ≤ (chs sk U f).idxOf c := by
  have hk := idx_lt m
  have ha := idx_at m
  have e := h.at hk
  rw [ha] at e
  by_cases c1 : (chs sk U f).idxOf c < sk.length
  · rw [dif_pos c1] at e
    unfold ent at e
    rw [if_neg hc] at e
    by_cases c2 : c ∈ U
    · rw [if_pos c2] at e; cases e
    · rw [if_neg c2] at e; cases e
  · rw [dif_neg c1] at e
    rw [e, h.len]
    exact ⟨rfl, by have := h.len; omega⟩
theorem Chs.rz (h : Chs kept sk U f) {c : Int} (m : c ∈ chs sk U f) : rz (U ++ [f]) (ent kept U c) = c := by
  unfold ent
  rcases h.cases m with c1 | ⟨c1, c2⟩ | c1
  · rw [if_pos c1]; rfl
  · rw [if_neg c1, if_pos c2]
    show g (U ++ [f]) _ = c
    rw [g_app1 (idx_lt c2), g_at (idx_lt c2), idx_at c2]
  · subst c1
    rw [if_neg h.fk, if_neg h.fu]
    exact g_app2
theorem ent_lt {c : Int} {i : Nat} (e : ent kept U c = .n i) : i ≤ U.length := by
  unfold ent at e
  by_cases c1 : c ∈ kept
  · rw [if_pos c1] at e; cases e
  · rw [if_neg c1] at e
    by_cases c2 : c ∈ U
    · rw [if_pos c2] at e; injection e with e; have := idx_lt c2; omega
    · rw [if_neg c2] at e; injection e with e; omega
theorem ent_k {c v : Int} (e : ent kept U c = .k v) : v ∈ kept := by
  unfold ent at e
  by_cases c1 : c ∈ kept
  · rw [if_pos c1] at e; injection e with e; exact e ▸ c1
  · rw [if_neg c1] at e
    by_cases c2 : c ∈ U
    · rw [if_pos c2] at e; cases e
    · rw [if_neg c2] at e; cases e
end
/-! ### how many classes -/
theorem fin_cnt (kept : List Int) : ∀ (xs s : List Int), (∀ i, En.n i ∈ pat kept s xs → i < (fin kept s xs).length) ∧ ((fin kept s xs).length = s.length ∨ En.n ((fin kept s xs).length - 1) ∈ pat kept s xs)
  | [], s => ⟨fun i h => by simp [pat] at h, .inl rfl⟩
  | v :: vs, s => by
    rw [fin]
    by_cases h : v ∈ kept
    · obtain ⟨a, b⟩ := fin_cnt kept vs s
      rw [if_pos h, pat_k h]
      exact ⟨fun i hi => (List.mem_cons.mp hi).elim (fun e => by cases e) (a i), b.imp id (List.mem_cons_of_mem _)⟩
    · rw [if_neg h]
      by_cases h2 : v ∈ s
      · obtain ⟨a, b⟩ := fin_cnt kept vs s
        rw [show addN s v = s from if_pos h2, pat_o h h2]
        refine ⟨fun i hi => (List.mem_cons.mp hi).elim (fun e => ?_) (a i), b.imp id (List.mem_cons_of_mem _)⟩
        injection e with e
        obtain ⟨t, et⟩ := fin_pre kept vs s
        have := idx_lt h2
        rw [et, List.length_append]; omega
      · obtain ⟨a, b⟩ := fin_cnt kept vs (s ++ [v])
        obtain ⟨t, et⟩ := fin_pre kept vs (s ++ [v])
        rw [show addN s v = s ++ [v] from if_neg h2, pat_n h h2]
        refine ⟨fun i hi => (List.mem_cons.mp hi).elim (fun e => ?_) (a i), .inr ?_⟩
        · injection e with e
          rw [et]; simp; omega
        · rcases b with b | b
          · rw [b]
            simp
          · exact List.mem_cons_of_mem _ b
theorem fin_cntOk (kept xs : List Int) : CntOk (fin kept [] xs).length (pat kept [] xs) := by
  obtain ⟨a, b⟩ := fin_cnt kept xs []
  exact ⟨a, b⟩
theorem CntOk.uniq {c d : Nat} {es : List En} (h : CntOk c es) (h2 : CntOk d es) : c = d := by
  have a := h.le h2.1
  have b := h2.le h.1
  omega
/-! ### the values again -/
theorem pat_rep (kept tl : List Int) : ∀ (xs s : List Int), (pat kept s xs).map (rz (fin kept s xs ++ tl)) = xs
  | [], _ => rfl
  | v :: vs, s => by
    rw [fin]
    by_cases h : v ∈ kept
    · rw [if_pos h, pat_k h, List.map_cons, pat_rep kept tl vs s]; rfl
    · rw [if_neg h]
      by_cases h2 : v ∈ s
      · rw [show addN s v = s from if_pos h2, pat_o h h2, List.map_cons, pat_rep kept tl vs s]
        congr 1
        obtain ⟨t, et⟩ := fin_pre kept vs s
        show g _ _ = v
        rw [et, List.append_assoc, g_at (by rw [List.length_append]; have := idx_lt h2; omega), List.getElem_append_left (idx_lt h2), idx_at h2]
      · rw [show addN s v = s ++ [v] from if_neg h2, pat_n h h2, List.map_cons, pat_rep kept tl vs (s ++ [v])]
        congr 1
        obtain ⟨t, et⟩ := fin_pre kept vs (s ++ [v])
        show g _ _ = v
        rw [et, List.append_assoc, List.append_assoc, g_at (by simp), List.getElem_append_right (Nat.le_refl _)]
        simp
/-- two ways to realise one list of entries have one pattern -/
theorem rz_same {kept o1 o2 : List Int} {es : List En} (n1 : o1.Nodup) (n2 : o2.Nodup) (hl : o1.length = o2.length) (d1 : ∀ v ∈ o1, v ∉ kept) (d2 : ∀ v ∈ o2, v ∉ kept) (hb : ∀ i, En.n i ∈ es → i < o1.length) (hk : ∀ v, En.k v ∈ es → v ∈ kept) :
    pat kept [] (es.map (rz o1)) = pat kept [] (es.map (rz o2)) := by
  refine (alike_iff (by simp)).mpr fun k hk2 => ?_
  rw [List.length_map] at hk2
  have at1 : ∀ {o : List Int} {j : Nat} (hj : j < es.length), g (es.map (rz o)) j = rz o es[j] := fun hj => by rw [g_at (by simpa using hj)]; simp
  have key : ∀ {i : Nat} (h : En.n i ∈ es) {o : List Int} (e : o.length = o1.length), rz o (.n i) = o[i]'(by have := hb _ h; omega) := by
    intro i h o e; exact g_at _
  have ni : ∀ {i : Nat} {o : List Int}, En.n i ∈ es → o.length = o1.length → (∀ v ∈ o, v ∉ kept) → rz o (.n i) ∉ kept := by
    intro i o h e d; rw [key h e]; exact d _ (List.getElem_mem _)
  have inj : ∀ {o : List Int}, o.length = o1.length → o.Nodup → (∀ v ∈ o, v ∉ kept) → ∀ {a b : En}, a ∈ es → b ∈ es → (rz o a = rz o b ↔ a = b) := by
    intro o e nd d a b ha hb'
    refine ⟨fun z => ?_, fun z => by rw [z]⟩
    cases a with
    | k v => cases b with
      | k w => exact congrArg En.k z
      | n j => exact absurd (hk v ha) (by rw [show v = rz _ (.n j) from z]; exact ni hb' e d)
    | n i => cases b with
      | k w => exact absurd (hk w hb') (by rw [← show rz _ (.n i) = w from z]; exact ni ha e d)
      | n j =>
        rw [key ha e, key hb' e] at z
        have h1 := hb _ ha
        have h2 := hb _ hb'
        by_cases c : i = j
        · rw [c]
        · rcases Nat.lt_or_gt_of_ne c with l | l
          · exact absurd z (List.pairwise_iff_getElem.mp nd i j (by omega) (by omega) l)
          · exact absurd z.symm (List.pairwise_iff_getElem.mp nd j i (by omega) (by omega) l)
  refine ⟨fun h => ?_, fun j hj => ?_⟩
  · rw [at1 hk2, at1 hk2] at *
    cases e : es[k] with
    | k v => rfl
    | n i =>
      have hm : En.n i ∈ es := e ▸ List.getElem_mem hk2
      rw [e] at h
      exact h.elim (fun z => absurd z (ni hm rfl d1)) fun z => absurd z (ni hm hl.symm d2)
  · have hj2 : j < es.length := Nat.lt_trans hj hk2
    rw [at1 hk2, at1 hj2, at1 hk2, at1 hj2, inj rfl n1 d1 (List.getElem_mem _) (List.getElem_mem _), inj hl.symm n2 d2 (List.getElem_mem _) (List.getElem_mem _)]
theorem rz_congr {o1 o2 : List Int} {es : List En} (h : ∀ i, En.n i ∈ es → g o1 i = g o2 i) : es.map (rz o1) = es.map (rz o2) := by
  refine List.map_congr_left fun e he => ?_
  cases e with
  | k v => rfl
  | n i => exact h i he
theorem frs_pre {c i : Nat} {t : List Int} (h : i < c) : g (frs c t) i = g (frs (c + 1) t) i := by
  rw [g_at (by rw [frs_len]; exact h), g_at (by rw [frs_len]; omega)]
  have a : (frs c t)[i]'(by rw [frs_len]; exact h) = (fre t (c + t.length))[i]'(by have := fre_len t (c + t.length); omega) := by unfold frs; rw [List.getElem_take]
  have b : (frs (c + 1) t)[i]'(by rw [frs_len]; omega) = (fre t (c + 1 + t.length))[i]'(by have := fre_len t (c + 1 + t.length); omega) := by unfold frs; rw [List.getElem_take]
  have e : fre t (c + 1 + t.length) = fre t (c + t.length) ++ (if ((c + t.length : Nat) : Int) ∉ t then [((c + t.length : Nat) : Int)] else []) := by
    rw [show c + 1 + t.length = (c + t.length) + 1 from by omega, fre_succ]
  rw [a, b, List.getElem_of_eq e, List.getElem_append_left]
/-! ### the first free one -/
theorem fre_nil {t : List Int} {n : Nat} : (fre t n).length = 0 ↔ ∀ i < n, (i : Int) ∈ t := by
  rw [List.length_eq_zero_iff]
  unfold fre
  rw [List.filter_eq_nil_iff]
  constructor
  · intro h i hi
    have := h (i : Int) (List.mem_map.mpr ⟨i, List.mem_range.mpr hi, rfl⟩)
    simpa using this
  · intro h v hv
    obtain ⟨i, hi, rfl⟩ := List.mem_map.mp hv
    simpa using h i (List.mem_range.mp hi)
theorem frs_one {t : List Int} {n : Nat} (h1 : (n : Int) ∉ t) (h2 : ∀ i < n, (i : Int) ∈ t) : frs 1 t = [(n : Int)] := by
  have hl : (frs 1 t).length = 1 := frs_len 1 t
  obtain ⟨a, b, c, d⟩ := frs_at (c := 1) (t := t) (i := 0) (by decide)
  have z := fre_nil.mp d
  have e : g (frs 1 t) 0 = (n : Int) := by
    have e0 : g (frs 1 t) 0 = (((g (frs 1 t) 0).toNat : Nat) : Int) := by omega
    rcases Nat.lt_trichotomy (g (frs 1 t) 0).toNat n with h | h | h
    · exact absurd (h2 _ h) (by rw [← e0]; exact c)
    · rw [e0, h]
    · exact absurd (z n h) h1
  rw [g_at (by omega)] at e
  match h : frs 1 t, hl with
  | [x], _ => simp [h] at e; rw [e]
theorem below_len {t : List Int} {n : Nat} (h : ∀ i < n, (i : Int) ∈ t) : n ≤ t.length := by
  have := fre_len t n
  rw [fre_nil.mpr h] at this
  omega
/-! ### a dict of truths -/
def trs (s : List Int) : List (Key × V) := s.map fun v => (Sum.inl v, V.bl true)
theorem put_trs (s : List Int) (v : Int) : putK (trs s) (Sum.inl v) (V.bl true) = trs (addN s v) := by
  unfold putK addN
  by_cases h : v ∈ s
  · have e : ((trs s).any fun kv => decide (kv.1 = (Sum.inl v : Key))) = true := List.any_eq_true.mpr ⟨(Sum.inl v, V.bl true), List.mem_map.mpr ⟨v, h, rfl⟩, by simp⟩
    rw [e, if_pos rfl, if_pos h]
    unfold trs
    rw [List.map_map]
    refine List.map_congr_left fun w _ => ?_
    by_cases c : w = v
    · subst c; simp
    · simp [c]
  · have e : ((trs s).any fun kv => decide (kv.1 = (Sum.inl v : Key))) = false := by
      rw [List.any_eq_false]
      intro kv hk z
      obtain ⟨w, hw, rfl⟩ := List.mem_map.mp hk
      have z2 : w = v := by simpa using z
      exact h (z2 ▸ hw)
    rw [e, if_neg (by simp), if_neg h]
    unfold trs
    rw [List.map_append]; rfl
theorem addN_len (s : List Int) (v : Int) : (addN s v).length ≤ s.length + 1 := by
  unfold addN
  by_cases c : v ∈ s
  · rw [if_pos c]; omega
  · rw [if_neg c, List.length_append]; simp
theorem dc_list {K : PySem.W.Frag} {a : Addr} {xs : List V} {g : TG} {tt : TT} {tk tv : TE} {vs : List Nat} {σ : L2.St} {H1 : Hp} {D : Addr} {Qd : Hp → Prop} (Pv : Nat → Hp → Prop) (h0 : Pv 0 (upd H1 D (.dK []))) (hl : ∀ i H, i ≤ xs.length → Pv i H → SqL K H a xs)
    (hs : ∀ i x H, xs[i]? = some x → Pv i H → g x (wipe σ vs) H fun σ2 H2 => wipe σ2 vs = wipe σ vs ∧ tt σ2 H2 fun b H3 =>
      if b = true then tk σ2 H3 fun y H4 => tv σ2 H4 fun z H5 => ∃ kvs k, y = kV k ∧ H5 D = some (.dK kvs) ∧ kvs.length < sizeLine ∧ Pv (i + 1) (upd H5 D (.dK (putK kvs k z))) else Pv (i + 1) H3) (hd : ∀ H, Pv xs.length H → Qd H) :
    ∃ W : Nat → Nat → Hp → Prop, (∃ m, W 0 m (upd H1 D (.dK []))) ∧ ∀ i m H, W i m H →
      ((Itl K a).stop i H ∧ Qd H) ∨ ((Itl K a).go i H ∧ ∃ Nx : Hp → Prop, (∀ H', Nx H' → ∃ m', m' < m ∧ W (i + 1) m' H') ∧ ∀ x H', (Itl K a).yld i H x H' → g x (wipe σ vs) H' fun σ2 H2 => wipe σ2 vs = wipe σ vs ∧ tt σ2 H2 fun b H3 =>
        if b = true then tk σ2 H3 fun y H4 => tv σ2 H4 fun z H5 => ∃ kvs k, y = kV k ∧ H5 D = some (.dK kvs) ∧ kvs.length < sizeLine ∧ Nx (upd H5 D (.dK (putK kvs k z))) else Nx H3) := by
  refine ⟨fun i m H => m = xs.length - i ∧ i ≤ xs.length ∧ Pv i H, ⟨xs.length, by simp, Nat.zero_le _, h0⟩, ?_⟩
  rintro i m H ⟨rfl, hi, p⟩
  have q := hl i H hi p
  by_cases hlt : i < xs.length
  · refine .inr ⟨⟨xs, xs[i], q, by simp [hlt]⟩, Pv (i + 1), fun H' p' => ⟨xs.length - (i + 1), by omega, rfl, hlt, p'⟩, fun x H' y => ?_⟩
    obtain ⟨e, y⟩ := y
    subst e
    exact hs i x _ (y xs q) p
  · have e : i = xs.length := by omega
    subst e
    exact .inl ⟨⟨xs, q, Nat.le_refl _⟩, hd H p⟩
end Cm
namespace Cm
open PySem PySem.Spec PyProof.Rows
open L2 hiding Same
def srt (ks : List Int) : List Int := ks.mergeSort (fun a b => decide (a ≤ b))
theorem srt_perm (ks : List Int) : (srt ks).Perm ks := List.mergeSort_perm ..
theorem srt_up (ks : List Int) : (srt ks).Pairwise (· ≤ ·) := by
  have := List.pairwise_mergeSort (le := fun a b : Int => decide (a ≤ b)) (fun a b c h1 h2 => by simp at *; omega) (fun a b => by simp; omega) ks
  exact this.imp fun h => by simpa using h
theorem srt_of {ks ns : List Int} (p : ns.Perm ks) (u : ns.Pairwise (· ≤ ·)) : ns = srt ks :=
  (p.trans (srt_perm ks).symm).eq_of_pairwise (fun x y _ _ h1 h2 => Int.le_antisymm h1 h2) u (srt_up ks)
theorem chs_of {ks xs : List Int} {f : Int} (nd : ks.Nodup) (fk : f ∉ ks) (fu : f ∉ fin ks [] xs) : Chs ks (srt ks) (fin ks [] xs) f where
  mem v := (srt_perm ks).mem_iff
  len := (srt_perm ks).length_eq
  nk := (srt_perm ks).nodup_iff.mpr nd
  nu := fin_nodup ks xs [] List.nodup_nil
  dj v h := by
    rcases (mem_fin ks v xs []).mp h with h | h
    · cases h
    · exact h.2
  fk := fk
  fu := fu
theorem trs_keys (s : List Int) : ((trs s).map fun kv => kV kv.1) = s.map V.int := by
  unfold trs
  rw [List.map_map]; rfl
theorem fold_take {xs : List Int} {i : Nat} (h : i < xs.length) (s : List Int) : (xs.take (i + 1)).foldl addN s = addN ((xs.take i).foldl addN s) xs[i] := by
  rw [List.take_add_one, List.getElem?_eq_getElem h, List.foldl_append]; rfl
theorem fold_len (xs s : List Int) : (xs.foldl addN s).length ≤ s.length + xs.length := by
  induction xs generalizing s with
  | nil => simp
  | cons x xs ih =>
    rw [List.foldl_cons]
    have := ih (addN s x)
    have := addN_len s x
    simp; omega
theorem fin_len (kept xs : List Int) : (fin kept [] xs).length ≤ xs.length := by
  rw [← fin_filter]
  have := fold_len (xs.filter fun v => decide (v ∉ kept)) []
  have := List.length_filter_le (fun v => decide (v ∉ kept)) xs
  simp at *; omega
end Cm
namespace Cm
open PySem PySem.Spec PyProof.Rows
open L2 hiding Same
def fr1 (ks xs : List Int) : Int := g (frs 1 (ks ++ fin ks [] xs)) 0
theorem fr1_fresh (ks xs : List Int) : fr1 ks xs ∉ ks ∧ fr1 ks xs ∉ fin ks [] xs := by
  obtain ⟨_, _, h, _⟩ := frs_at (c := 1) (t := ks ++ fin ks [] xs) (i := 0) (by decide)
  exact ⟨fun z => h (List.mem_append.mpr (.inl z)), fun z => h (List.mem_append.mpr (.inr z))⟩
theorem frs1_eq (t : List Int) : frs 1 t = [g (frs 1 t) 0] := by
  have hl : (frs 1 t).length = 1 := frs_len 1 t
  match h : frs 1 t, hl with
  | [x], _ => rfl
abbrev chL (ks xs : List Int) : List Int := chs (srt ks) (fin ks [] xs) (fr1 ks xs)
theorem chs_ok {ks xs : List Int} (nd : ks.Nodup) : Chs ks (srt ks) (fin ks [] xs) (fr1 ks xs) := chs_of nd (fr1_fresh ks xs).1 (fr1_fresh ks xs).2
theorem srt_len (ks : List Int) : (srt ks).length = ks.length := (srt_perm ks).length_eq
end Cm
namespace Cm
open PySem PySem.Spec PyProof.Rows
open L2 hiding Same
theorem ixN_nat {n i : Nat} (h : i < n) : ixN n (i : Int) = some i := by
  unfold ixN
  rw [if_pos (by omega), Int.toNat_natCast, if_pos (Int.ofNat_lt.mpr h)]
end Cm
namespace Cm
open PySem PySem.Spec PyProof.Rows
open L2 hiding Same
theorem lay_ints : ∀ ns : List Int, PyData.canLayAll0 (ns.map PyData.int) = true
  | [] => rfl
  | n :: ns => by
    show (PyData.canLay0 (.int n) && PyData.canLayAll0 (ns.map PyData.int)) = true
    rw [lay_ints ns]; rfl
theorem shp_ints (ns : List Int) : SeqAt.shaped (.list (ns.map PyData.int)) = true := by
  unfold SeqAt.shaped
  rw [PyData.canLay0, lay_ints, PyData.depth, depth_ints]
  rfl
theorem eqv_ints (ns : List Int) : PyData.eqv (.list (ns.map PyData.int)) (.list (ns.map PyData.int)) = true := by
  rw [PyData.eqv]
  induction ns with
  | nil => rfl
  | cons n ns ih =>
    show (PyData.eqv (.int n) (.int n) && PyData.eqvAll (ns.map PyData.int) (ns.map PyData.int)) = true
    rw [ih]
    simp [PyData.eqv]
theorem dp_ints {K : PySem.W.Frag} {H : Hp} {a : Addr} {ns : List Int} (h : H a = some (.lst (ns.map V.int))) : Dp K H (.ref a) (.list (ns.map PyData.int)) := .lst (SqL.of h) (dpAll_ints ns)
theorem cut_drop (xs : List V) (c : Nat) : cutV xs (some (c : Int)) none = xs.drop c := by
  unfold cutV
  rw [HT.sIx_none, HT.sIx_nat]
  by_cases h : c ≤ xs.length
  · rw [Nat.min_eq_left h, List.take_of_length_le (by rw [List.length_drop]; omega)]
  · rw [Nat.min_eq_right (by omega), Nat.sub_self, List.take_zero, List.drop_of_length_le (by omega)]
theorem fin_len_eq {ks xs ys : List Int} (h : pat ks [] ys = pat ks [] xs) : (fin ks [] ys).length = (fin ks [] xs).length := by
  have a := fin_cntOk ks ys
  rw [h] at a
  exact a.uniq (fin_cntOk ks xs)
theorem chL_len (ks xs : List Int) : (chL ks xs).length = ks.length + (fin ks [] xs).length + 1 := by
  rw [chL, chs_len, srt_len]
theorem chL_len_eq {ks xs ys : List Int} (h : pat ks [] ys = pat ks [] xs) : (chL ks ys).length = (chL ks xs).length := by
  rw [chL_len, chL_len, fin_len_eq h]
theorem at_math {ks xs ys : List Int} (nd : ks.Nodup) (h : pat ks [] ys = pat ks [] xs) {k : Nat} (h1 : k < (chL ks ys).length) (h2 : k < (chL ks xs).length) : pat ks [] (ys ++ [(chL ks ys)[k]]) = pat ks [] (xs ++ [(chL ks xs)[k]]) := by
  rw [pat_app, pat_app, h, (chs_ok nd).at h1, (chs_ok nd).at h2]
theorem move_math {ks xs : List Int} (nd : ks.Nodup) {c : Int} (hm : c ∈ chL ks xs) (i : Nat) :
    pat ks [] (((pat ks [] xs).map (rz (frs ((fin ks [] xs).length + 1) ks))).set i (rz (frs ((fin ks [] xs).length + 1) ks) (ent ks (fin ks [] xs) c))) = pat ks [] (xs.set i c) := by
  have hC := chs_ok (xs := xs) nd
  have e1 := pat_rep ks [fr1 ks xs] xs []
  have e2 := hC.rz hm
  have e3 : xs.set i c = ((pat ks [] xs).set i (ent ks (fin ks [] xs) c)).map (rz (fin ks [] xs ++ [fr1 ks xs])) := by
    rw [List.map_set, e1, e2]
  rw [e3, ← List.map_set]
  have hme : ∀ {e : En}, e ∈ (pat ks [] xs).set i (ent ks (fin ks [] xs) c) → e ∈ pat ks [] xs ∨ e = ent ks (fin ks [] xs) c := fun h => List.mem_or_eq_of_mem_set h
  refine rz_same (frs_nodup _ _) (nodup_app hC.nu hC.fu) (by rw [frs_len, List.length_append]; rfl) frs_dj (fun v hv => ?_) (fun j hj => ?_) (fun v hv => ?_)
  · rcases List.mem_append.mp hv with h | h
    · exact hC.dj v h
    · simp at h; subst h; exact hC.fk
  · rw [frs_len]
    rcases hme hj with h | h
    · have := (fin_cntOk ks xs).1 j h; omega
    · have := ent_lt h.symm; omega
  · rcases hme hv with h | h
    · exact pat_kept ks xs [] v h
    · exact ent_k h.symm
theorem one_math {ks xs : List Int} (nd : ks.Nodup) (n : Int) : ((chL ks xs).filter fun c => decide (pat ks [] (xs ++ [c]) = pat ks [] (xs ++ [n]))).length = 1 := (chs_ok nd).one n
theorem set_cut (xs : List Int) {i : Nat} (h : i < xs.length) (c : Int) : xs.take i ++ [c] ++ xs.drop (i + 1) = xs.set i c := by
  rw [List.set_eq_take_append_cons_drop, if_pos h, List.append_assoc]; rfl
end Cm
namespace K29
open PySem PySem.Spec PyProof.Rows Cm
open L2 hiding Same
/-! ### Renaming(pairs) -/
abbrev RC (K : PySem.W.Frag) : Addr := He.ga K "Renaming"
def Mv (H : Hp) (t d : Addr) (M : List Pr) : Prop := ∃ l : PL, H t = some (.tup (rfp l)) ∧ prs l = M ∧ PrsAt H l ∧ H d = some (.dK (M.map fun p => (Sum.inl p.1, V.int p.2)))
def RenAt (K : PySem.W.Frag) (H : Hp) (x : Addr) (M : List Pr) : Prop := ∃ dx t d, H x = some (.ins (RC K) dx [("moved", .ref t), ("becomes", .ref d)]) ∧ Mv H t d M
theorem Mv.same {H H' : Hp} {t d : Addr} {M : List Pr} (s : Same H H') (h : Mv H t d M) : Mv H' t d M := let ⟨l, h1, h2, h3, h4⟩ := h; ⟨l, s _ _ h1, h2, h3.same s, s _ _ h4⟩
theorem RenAt.same {K : PySem.W.Frag} {H H' : Hp} {x : Addr} {M : List Pr} (s : Same H H') (h : RenAt K H x M) : RenAt K H' x M := let ⟨dx, t, d, h1, h2⟩ := h; ⟨dx, t, d, s _ _ h1, h2.same s⟩
/-- the table a thing tells -/
def Tells (th : Th) (ps : List Pr) : Prop := ∃ t is, th = .sq t is ∧ is.map pairI = ps.map some
theorem Tells.right {th : Th} {ps : List Pr} (h : Tells th ps) (v : Val ps) : wrong th = none := by
  obtain ⟨t, is, rfl, e⟩ := h
  show (wrongI is).map (fun i => (i : Int)) = none
  rw [val_wrong e v]; rfl
theorem tells_of {th : Th} (h : wrong th = none) : ∃ ps, Tells th ps ∧ Val ps := by
  cases th with
  | od f => cases h
  | sq t is =>
    have : wrongI is = none := by
      cases e : wrongI is with
      | none => rfl
      | some i => have h2 : (wrongI is).map (fun i => (i : Int)) = none := h; rw [e] at h2; cases h2
    obtain ⟨ps, h1, h2⟩ := wrong_none this
    exact ⟨ps, ⟨t, is, rfl, h1⟩, h2⟩
theorem moves_snoc {ps : List Pr} {i : Nat} (hi : i < ps.length) : moves (ps.take (i + 1)) = moves (ps.take i) ++ (if ps[i].1 ≠ ps[i].2 then [ps[i]] else []) := by
  rw [take_snoc hi]
  unfold moves
  rw [List.filter_append]
  congr 1
  by_cases h : ps[i].1 = ps[i].2 <;> simp [h]
theorem nd_at {M : List Pr} {i : Nat} (n : (f1 M).Nodup) (hi : i < M.length) : M[i].1 ∉ f1 (M.take i) := fun z => by
  have h : (f1 (M.take (i + 1))).Nodup := ((List.take_sublist (i + 1) M).map Prod.fst).nodup n
  rw [take_snoc hi] at h
  unfold f1 at h z
  rw [List.map_append] at h
  exact (List.nodup_append.mp h).2.2 _ z _ (List.mem_singleton.mpr rfl) rfl
theorem putK_fresh {M : List Pr} {p : Pr} (h : p.1 ∉ f1 M) : putK (M.map fun p => ((Sum.inl p.1 : L2.Key), V.int p.2)) (Sum.inl p.1) (V.int p.2) = (M ++ [p]).map fun p => (Sum.inl p.1, V.int p.2) := by
  rw [putK_new]
  · rw [List.map_append]; rfl
  · have : ∀ (M : List Pr) (k : Int), k ∉ f1 M → valV (M.map fun p => ((Sum.inl p.1 : L2.Key), V.int p.2)) (Sum.inl k) = none := by
      intro M
      induction M with
      | nil => intro k _; rfl
      | cons q M ih =>
        intro k hk
        have hk2 : k ≠ q.1 ∧ k ∉ f1 M := by
          constructor
          · intro e; exact hk (e ▸ List.mem_cons_self)
          · intro z; exact hk (List.mem_cons_of_mem _ z)
        rw [List.map_cons, valV_neg (by intro e; injection e with e; exact hk2.1 e.symm)]
        exact ih k hk2.2
    exact this M p.1 h
def spInit (K : PySem.W.Frag) : Sp := fun vs H Q E => ∃ (y dx : Addr) (v : V) (th : Th), vs = [.ref y, v] ∧ H y = some (.ins (RC K) dx []) ∧ ThAt K H v th ∧
  (∀ i, wrong th = some i → ∀ H' d, Same H H' → H' d = some (.xd [("at", .int i)]) → E (.ref (BC K)) (some d) H') ∧
  (∀ ps, Tells th ps → Val ps → ∀ H', Kp y H H' → RenAt K H' y (mv ps) → Q .non H')
section
variable {P : Program} {w : World} {K : PySem.W.Frag} {mg : Str → Option Value} {base : Heap} {sa : Addr} {sx : List Int}
theorem ok_init (T : Tx K mg sa sx) (hP : PF P) : ∃ fd, FnOk P w K mg base (CX P w) 6 (He.ma K (RC K) "__init__") fd ["self", "pairs"] (spInit K) ∧ Binds K fd ["self", "pairs"] [] ∧ ∃ ds, Vals [V.ref (He.dflAt ("Renaming", some "__init__") 0 K)] ds ∧ Binds K fd ["self", "pairs"] ds := by
  obtain ⟨fd, F⟩ := f_Renaming_init T
  obtain ⟨fc, fdc, FC, bC, gC, kC⟩ := ok_check (P := P) (w := w) (base := base) T hP
  refine ⟨fd, F.ok sc_Renaming_init (fun vs H Q E h => ?_) (fun cdv A outer s H vs Q E hr h => ?_), ?_⟩
  · obtain ⟨y, dx, v, th, rfl, _⟩ := h; rfl
  · obtain ⟨y, dx, v, th, rfl, hy, hv, qe, q⟩ := h
    refine ⟨_, (pss_cons (ps_expr (pe_call FC (hr.mono (by decide)) rfl gC kC bC .nil (E := E) (passes_call (takes_of rfl rfl rfl rfl) (fun _ _ _ _ h => h)) (pa_cons (pv 1) pa_nil)))
    (pss_cons (ps_fld (pv 0) (pe_callTy (T := "tuple") call_tuple_of rfl (n_tuple T) (by decide +kernel) (pa_cons (pe_callB (id := "sorted") (call_sortedD hr.units) rfl (n_sorted T) (by decide +kernel) (pa_cons (pe_lc (own := [("n", 2), ("m", 3)]) (g := gSeqT K 2 (gCons (gName 2) (gCons (gName 3) gNil))) rfl sc_Renaming_init.nd (pi_seq (pv 1)) (blkOk_by (own := [("n", 2), ("m", 3)]) (N := ["self", "pairs", "n", "m"]) (sc := defScope s_Renaming_init) (by decide +kernel)) (fun _ _ _ _ _ => pg_seqT (by rfl) (pgs_cons (pg_name (i := 2) sc_Renaming_init.nd rfl (Or.inl rfl)) (pgs_cons (pg_name (i := 3) sc_Renaming_init.nd rfl (Or.inl rfl)) pgs_nil))) (fun _ _ _ _ _ => (pts_one (pt_cmpR op_ne (pv 2) (pv 3) (nomark _)))) (fun _ _ _ _ _ => (pe_tup (pa_cons (pv 2) (pa_cons (pv 3) pa_nil))))) pa_nil)) pa_nil)) rfl)
    (pss_one (ps_fld (pv 0) (pe_dc (own := [("n", 2), ("m", 3)]) (g := gTup K 2 (gCons (gName 2) (gCons (gName 3) gNil))) rfl sc_Renaming_init.nd (pi_tup (pe_fld (pv 0) rfl)) (blkOk_by (own := [("n", 2), ("m", 3)]) (N := ["self", "pairs", "n", "m"]) (sc := defScope s_Renaming_init) (by decide +kernel)) (fun _ _ _ _ _ => pg_tup (by rfl) (pgs_cons (pg_name (i := 2) sc_Renaming_init.nd rfl (Or.inl rfl)) (pgs_cons (pg_name (i := 3) sc_Renaming_init.nd rfl (Or.inl rfl)) pgs_nil))) (fun _ _ _ _ _ => pts_nil) (fun _ _ _ _ _ => (pv 2)) (fun _ _ _ _ _ => (pv 3))) rfl)))), ?_⟩
    refine ⟨_, rfl, v, th, rfl, hv, fun hw H1 s1 => ?_, fun i hi H' d s hd => qe i hi H' d s hd⟩
    obtain ⟨ps, ht, vp⟩ := tells_of hw
    have q2 := q ps ht vp
    obtain ⟨t, is, rfl, hps⟩ := ht
    obtain ⟨a0, l, rfl, ha, rfl, hl, hits⟩ := hv
    have lps : ps.length = l.length := by
      have := congrArg List.length hps
      simpa using this.symm
    have ha1 := (ha.same s1)
    have hy1 := s1 _ _ hy
    have pat : ∀ i (hi : i < l.length), pairI l[i].2 = some (ps[i]'(by rw [lps]; exact hi)) := fun i hi => by
      have := congrArg (fun z : List (Option Pr) => z[i]?) hps
      simpa [hi, lps] using this
    unfold tSeq sFld tCB tCons tNil
    dsimp only
    refine lc_seq (K := K) (a := a0) (xs := l.map (·.1)) (fun R r => ⟨_, rfl, r⟩) ha1.sq fun D hD => ⟨fun i H' => ∃ m : PL, Same H1 H' ∧ H' D = some (.lst (rfp m)) ∧ prs m = moves (ps.take i) ∧ PrsAt H' m ∧ m.length ≤ i, ⟨[], Same.new hD, upd_same, rfl, fun e he => (by cases he), Nat.le_refl _⟩, fun i H' h => ?_, fun i x H' hi h => ?_, fun H' h => ?_⟩
    · obtain ⟨m, sm, _⟩ := h; exact sm
    · obtain ⟨m, sm, hS, em, hm, lm⟩ := h
      obtain ⟨hi2, rfl⟩ := l_at hi
      have hip : i < ps.length := by rw [lps]; exact hi2
      obtain ⟨b, eb, hb⟩ := pair_at ((hits _ (List.getElem_mem hi2)).same s1) (pat i hi2)
      refine ⟨b, _, eb, hb.same sm, rfl, _, _, rfl, _, _, rfl, rfl, rfl, _, rfl, _, rfl, rfl, _, rfl, ?_⟩
      refine uC (fun c => ?_) (fun c => ?_)
      · refine ⟨_, rfl, _, rfl, sz1 (by simp), fun q hq => ⟨rfp m, Same.new hq _ _ hS, sz2 (by rw [rfp_len]; omega), ?_⟩⟩
        have nD : ∀ o, Same H1 (upd (upd H' q (.tup [V.int ps[i].1, V.int ps[i].2])) D o) := fun o => (sm.trans (Same.new hq)).mut hD
        refine ⟨m ++ [(q, ps[i])], nD _, ?_, ?_, ?_, ?_⟩
        · rw [upd_same]; unfold rfp; rw [List.map_append]; rfl
        · rw [moves_snoc hip, if_pos (fun z => c (by rw [z]))]; unfold prs; rw [List.map_append]; congr 1
        · intro e he
          have nDe : ∀ z, (upd H' q (.tup [V.int ps[i].1, V.int ps[i].2])) e.1 = some (.tup z) → e.1 ≠ D := fun z h1 h2 => by
            rw [h2, upd_ne (ne_of_none hS hq)] at h1
            rw [hS] at h1; cases h1
          rcases List.mem_append.mp he with he | he
          · have h1 := Same.new (o := .tup [V.int ps[i].1, V.int ps[i].2]) hq _ _ (hm e he)
            rw [upd_ne (nDe _ h1)]; exact h1
          · rw [List.mem_singleton.mp he]
            have h1 : (upd H' q (.tup [V.int ps[i].1, V.int ps[i].2])) q = some (.tup (pv2 ps[i])) := upd_same
            rw [upd_ne (fun z => by have := ne_of_none hS hq; exact this z.symm)]; exact h1
        · rw [List.length_append]; show m.length + 1 ≤ i + 1; omega
      · have z : ps[i].1 = ps[i].2 := by injection c
        exact ⟨m, sm, hS, by rw [moves_snoc hip, if_neg (fun y => y z), List.append_nil]; exact em, hm, by omega⟩
    · obtain ⟨m, sm, hS, em, hm, lm⟩ := h
      rw [List.take_of_length_le (by rw [List.length_map]; omega)] at em
      rw [List.length_map] at lm
      refine ⟨D, bsP m, rfl, by rw [bsP_fst]; exact SqL.of hS, fun b hb => ?_, by rw [bsP_snd]; exact pd_alike _, by rw [bsP_snd]; exact pd_sortable _, fun b hb => ?_, fun p hp => ?_⟩
      · obtain ⟨e, he, rfl⟩ := List.mem_map.mp hb
        exact pd_dp (hm e he)
      · obtain ⟨e, he, rfl⟩ := List.mem_map.mp hb
        exact pd_depth e.2
      rw [srt_bsP]
      refine ⟨p, _, rfl, .inl ⟨SqL.of upd_same, fun tt htt => ?_⟩⟩
      have sp : Same H' (upd H' p (.lst (rfp (soL m)))) := Same.new hp
      have st : Same (upd H' p (.lst (rfp (soL m)))) (upd (upd H' p (.lst (rfp (soL m)))) tt (.tup (rfp (soL m)))) := Same.new htt
      have s3 := (sm.trans sp).trans st
      have hT : (upd (upd H' p (.lst (rfp (soL m)))) tt (.tup (rfp (soL m)))) tt = some (.tup (rfp (soL m))) := upd_same
      have hm3 : PrsAt (upd (upd H' p (.lst (rfp (soL m)))) tt (.tup (rfp (soL m)))) (soL m) := fun e he => st _ _ (sp _ _ (hm e (soL_mem.mp he)))
      generalize upd (upd H' p (.lst (rfp (soL m)))) tt (.tup (rfp (soL m))) = H3 at s3 hT hm3 ⊢
      have hy3 := s3 _ _ hy1
      refine ⟨_, rfl, y, _, dx, _, rfl, hy3, c_Renaming T, na_Renaming_moved T, by decide, ?_⟩
      have mvq : prs (soL m) = mv ps := by rw [soL_prs, em]; rfl
      have nty : tt ≠ y := fun z => by rw [z, hy3] at hT; cases hT
      have k4 : Kp y H3 (upd H3 y (.ins (RC K) dx (putF "moved" (.ref tt) []))) := fun b o nb hb => by rw [upd_ne nb]; exact hb
      have hT4 := k4 _ _ nty hT
      have hy4 : (upd H3 y (.ins (RC K) dx (putF "moved" (.ref tt) []))) y = some (.ins (RC K) dx [("moved", .ref tt)]) := by rw [upd_same]; rfl
      have hm4 : PrsAt (upd H3 y (.ins (RC K) dx (putF "moved" (.ref tt) []))) (soL m) := fun e he => k4 _ _ (fun z => by have := hm3 e he; rw [z, hy3] at this; cases this) (hm3 e he)
      generalize upd H3 y (.ins (RC K) dx (putF "moved" (.ref tt) [])) = H4 at k4 hT4 hy4 hm4 ⊢
      refine ⟨_, rfl, y, _, _, _, _, rfl, hy4, c_Renaming T, na_Renaming_moved T, rfl, tt, rfl, ⟨_, SqT.of hT4⟩, fun D2 hD2 => ?_⟩
      refine dc_tup (K := K) (xs := rfp (soL m)) (fun i H5 => Same H4 H5 ∧ H5 D2 = some (.dK (((prs (soL m)).take i).map fun p => (Sum.inl p.1, V.int p.2)))) ⟨Same.new hD2, upd_same⟩ (fun i H5 _ h => (h.1).st (SqT.of hT4)) ?_ ?_
      · rintro i x H5 hi ⟨s5, hS5⟩
        obtain ⟨hi2, rfl⟩ := rfp_at hi
        have hi3 : i < (prs (soL m)).length := by rw [List.length_map]; exact hi2
        have e5 : (prs (soL m))[i] = (soL m)[i].2 := List.getElem_map ..
        refine ⟨_, _, rfl, SqT.of (s5 _ _ (hm4 _ (List.getElem_mem hi2))), rfl, _, _, rfl, _, _, rfl, rfl, rfl, _, rfl, _, rfl, _, .inl _, rfl, hS5, ?_, s5.mut hD2, ?_⟩
        · rw [List.length_map, List.length_take, List.length_map, soL_len]; exact Nat.lt_of_le_of_lt (Nat.min_le_right _ _) (sz2 (by omega))
        · rw [upd_same, take_snoc hi3, e5]
          rw [putK_fresh]
          rw [← e5]
          exact nd_at (by rw [mvq]; exact nd_mv vp.n1) hi3
      · rintro H5 ⟨s5, hS5⟩
        rw [List.take_of_length_le (by rw [rfp_len, List.length_map]; exact Nat.le_refl _), mvq] at hS5
        have hy5 := s5 _ _ hy4
        refine ⟨_, rfl, y, _, dx, _, rfl, hy5, c_Renaming T, na_Renaming_becomes T, (show 1 < 1000 by decide), ?_⟩
        have kk : ∀ b o, b ≠ y → H4 b = some o → (upd H5 y (.ins (RC K) dx (putF "becomes" (.ref D2) [("moved", .ref tt)]))) b = some o := fun b o nb hb => by rw [upd_ne nb]; exact s5 _ _ hb
        refine q2 _ (fun b o nb hb => kk _ _ nb (k4 _ _ nb (s3 _ _ (s1 _ _ hb)))) ⟨dx, tt, D2, by rw [upd_same]; rfl, soL m, kk _ _ nty hT4, mvq, fun e he => kk _ _ ?_ (hm4 e he), ?_⟩
        · intro z
          have := hm4 e he
          rw [z, hy4] at this; cases this
        · have nd : D2 ≠ y := fun z => by rw [z, hy5] at hS5; cases hS5
          rw [upd_ne nd]; exact hS5
  · obtain ⟨ds, v, b⟩ := F.binds1 (ps := ["self", "pairs"]) 2 1 (by simp) rfl fun _ _ _ _ _ _ _ us its hl h1 => match us, its, hl, h1 with | [_, _], [_], _, _ => ⟨_, rfl, rfl⟩
    cases v
    obtain ⟨ds, v, b0⟩ := F.binds1 (ps := ["self", "pairs"]) 1 0 (by simp) rfl fun _ _ _ _ _ _ _ us its hl h1 => match us, its, hl, h1 with | [_], [_], _, _ => ⟨_, rfl, rfl⟩
    exact ⟨b, ds, v, b0⟩
end
end K29
/-! set(l) of a list of ints; sorted of such a set, of any size below the scan's bound -/
namespace Cm
open PySem PySem.Spec PyProof.Rows
open L2 hiding Same
section
variable {P : Program} {w : World} {A : Around} {E : Value → Shared → Prop} {s : Shared} {a : Addr}
theorem call_set_lstI {l : Addr} {items : Array Value} (ns : List Int) {Q : Value → Shared → Prop} (hh : A.handled = none) (hl : s.heap.IsList l items) (hit : IntsAre items.toList ns) (hb : ns.length + 1 < scanBound)
    (h : ∀ (h' : Heap) (tk c : Nat), SetR w h' s.heap.objs.size (fun j => decide (j ∈ ns)) c → c ≤ ns.length → (∀ b o, s.heap.get? b = some o → h'.get? b = some o) → Q (.ref s.heap.objs.size) { s with heap := h', toks := tk }) :
    wpAny (model P w) A (call (.type "set") [.ref l]) Q E s := by
  have hisz : items.size = ns.length := by
    have q := IntsAre.length hit
    rw [Array.length_toList] at q
    exact q
  obtain ⟨c, tl, hmro⟩ := F.called_set.mro
  have hmade := F.called_set.made
  have hsub := F.called_set.sub
  refine wpAny_call (codeAny_of_tree ?_)
  show wpAny _ _ (callAny (.type "set") _) _ _ _
  refine wpAny_pure ⟨Code.quiet_builtin _ (by decide +kernel), codeAny_builtin F.entry_type_call ?_⟩
  rw [Around.under_plain (weight_type_call_type "set" [.ref l] []) rfl]
  have h1 := F.called_set.notType
  have h2 := F.called_set.canCreate
  have hct := F.typeCall_set_1 (.ref l)
  repeat (any_goals (first | assumption | wp_step))

  refine codeAny_mono (code_set_led1 (.ref l) (E := E) (Q₁ := fun obj s₁ => obj = .ref s.heap.objs.size ∧ s₁ = { s with heap := s.heap.push { cls := .type "set", dict := none, data := .set #[] 0 (.fresh 0 0 (!w.params.followText "set-order")) } }) ⟨rfl, rfl⟩) fun r s₁ hr => ?_
  cases r with
  | error e => exact hr
  | ok fl =>
    cases fl with
    | ret obj =>
      obtain ⟨rfl, rfl⟩ := hr
      have hS : (s.heap.push { cls := .type "set", dict := none, data := .set #[] 0 (.fresh 0 0 (!w.params.followText "set-order")) }).get? s.heap.objs.size = some { cls := .type "set", dict := none, data := .set #[] 0 (.fresh 0 0 (!w.params.followText "set-order")) } := Heap.get?_push_size _ rfl
      have hT : Shared.TypeIs { s with heap := s.heap.push { cls := .type "set", dict := none, data := .set #[] 0 (.fresh 0 0 (!w.params.followText "set-order")) } } (.ref s.heap.objs.size) "set" := ⟨_, hS, rfl⟩
      have hli := F.called_set.init.lookup
      have hbi := F.called_set.init.bind (.ref s.heap.objs.size)
      repeat (any_goals (first | assumption | wp_step))

      refine codeAny_mono (codeAny_call_builtin (R := wants (fun r s₂ => r = .none ∧ ∃ h' tk c, s₂ = { s with heap := h', toks := tk } ∧ SetR w h' s.heap.objs.size (fun j => decide (j ∈ ns)) c ∧ c ≤ ns.length ∧
          (∀ b o, s.heap.get? b = some o → h'.get? b = some o)) E) F.called_set.init.plain F.entry_set_init (check_set_init_1 hT ?_)) fun r₂ s₂ hr₂ => ?_
      · obtain ⟨ol, hol, hcl, nl, hdl⟩ := hl
        obtain ⟨ocls, odict, odata, oslots⟩ := ol
        simp only at hcl hdl
        subst hcl; subst hdl
        have hol' : (s.heap.push { cls := .type "set", dict := none, data := .set #[] 0 (.fresh 0 0 (!w.params.followText "set-order")) }).get? l = some { cls := .type "list", dict := odict, data := .seq items nl, slots := oslots } := Heap.get?_push_of_some _ hol
        have hsls := F.sub_list_set
        have hslf := F.sub_list_frozenset
        have hne : (Value.type "list" == Value.type "dict") = false := by decide
        have hl1 : (s.heap.push { cls := .type "set", dict := none, data := .set #[] 0 (.fresh 0 0 (!w.params.followText "set-order")) }).IsList l items := ⟨_, hol', rfl, nl, rfl⟩
        unfold Builtin.«set.__init__» noKeywords Builtin.Frozenset.updateFrom
        generalize hPI : pyIter = PI
        wp_walk
        subst hPI

        refine wpAny_pyIter_list hl1 ?_
        refine wpAny_bind (wpAny_runValue ?_)
        have hlS : l < s.heap.objs.size := Heap.lt_size hol
        have hh3 : A.in1.in1.in1.handled = none := by simp [hh]
        have hz1 : (s.heap.push { cls := .type "set", dict := none, data := .set #[] 0 (.fresh 0 0 (!w.params.followText "set-order")) }).objs.size = s.heap.objs.size + 1 := Heap.size_push ..
        have hneI : l ≠ (s.heap.push { cls := .type "set", dict := none, data := .set #[] 0 (.fresh 0 0 (!w.params.followText "set-order")) }).objs.size := by
          rw [Heap.size_push]; exact Nat.ne_of_lt (Nat.lt_succ_of_lt hlS)
        have hSf : s.heap.objs.size ∉ [(s.heap.push { cls := .type "set", dict := none, data := .set #[] 0 (.fresh 0 0 (!w.params.followText "set-order")) }).objs.size, l] := by
          rw [Heap.size_push]; simp only [List.mem_cons, List.mem_singleton, List.not_mem_nil, or_false, not_or]
          exact ⟨Nat.ne_of_lt (Nat.lt_succ_self _), Nat.ne_of_gt hlS⟩
        have hval : ∀ (i : Nat) (v : Value), items[i]? = some v → ∃ k t, ns[i]? = some k ∧ v = .int k t := fun i v hv => by
          have hi : i < ns.length := by rw [← hisz]; exact (Array.getElem?_eq_some_iff.mp hv).1
          obtain ⟨t, e⟩ := PyProof.Rows.IntsAre.int_at hit i v (by rw [Array.getElem?_toList]; exact hv)
          refine ⟨ns[i], t, List.getElem?_eq_getElem hi, ?_⟩
          rw [e, List.getD_eq_getElem?_getD, List.getElem?_eq_getElem hi] <;> rfl
        refine set_update_ints ((Walks.list hh3 _ l hneI items).toS) s.heap.objs.size
          hSf ns hisz hb hval (items.size - 0) 0 _ (by omega) (Nat.zero_le _)
          ⟨⟨_, Heap.get?_push_size _ rfl, rfl, rfl⟩, (hl1.push _)⟩ ?hS0 ?hR
        case hS0 =>
          have hget : ((s.heap.push { cls := .type "set", dict := none, data := .set #[] 0 (.fresh 0 0 (!w.params.followText "set-order")) }).push { cls := .type "list_iterator", data := .fields #[.ref l, .int 0 0] }).get? s.heap.objs.size
              = some { cls := .type "set", dict := none, data := .set #[] 0 (.fresh 0 0 (!w.params.followText "set-order")) } := Heap.get?_push_of_some _ hS
          exact ⟨0, Nat.le_refl 0, setR_new_at hget⟩
        case hR =>
          intro s' c' hm hc' hS'
          obtain ⟨h', g2, d', tk', os'⟩ := s'
          have eg : g2 = s.gens := hm.gens
          have ed : d' = s.drawn := hm.drawn
          have eo : os' = s.os := hm.os
          subst eg; subst ed; subst eo
          show wpAny _ _ _ _ _ _
          refine wpAny_pure ?_
          show wpAny _ _ (ret Value.none) _ _ _
          rw [hisz] at hc'
          refine wpAny_pure ⟨rfl, h', tk', c', rfl, hS', hc', fun b o e => ?_⟩
          have hb0 : b < s.heap.objs.size := Heap.lt_size e
          have hb1 : b ≠ s.heap.objs.size := Nat.ne_of_lt hb0
          have hb2 : b ≠ (s.heap.push { cls := .type "set", dict := none, data := .set #[] 0 (.fresh 0 0 (!w.params.followText "set-order")) }).objs.size := by
            rw [Heap.size_push]; exact Nat.ne_of_lt (Nat.lt_succ_of_lt hb0)
          exact hm.heap b o (by simp only [List.mem_cons, List.mem_singleton, List.not_mem_nil, or_false, not_or]; exact ⟨hb1, hb2⟩) (Heap.get?_push_of_some _ (Heap.get?_push_of_some _ e))

      · cases r₂ with
        | error e => exact hr₂
        | ok fl₂ =>
          cases fl₂ with
          | ret r =>
            obtain ⟨rfl, h', tk, c', rfl, hS', hc', hk'⟩ := hr₂
            repeat (any_goals (first | assumption | wp_step))
            exact h _ _ _ hS' hc' hk'
          | _ => exact hr₂.elim
    | _ => exact hr.elim

end
section
variable {P : Program} {w : World} {A : Around} {E : Value → Shared → Prop} {s : Shared} {a : Addr}
theorem sorted_setW {S : Int → Bool} {n : Nat} {Q : Value → Shared → Prop} (R : SetR w s.heap a S n) (hh : A.handled = none) (h64 : n < 4096)
    (hQ : ∀ s' p (out : Array Value) (c : Nat) (ns : List Int), (∀ b o, s.heap.get? b = some o → s'.heap.get? b = some o) → s'.gens = s.gens → s'.os = s.os → s.heap.objs.size ≤ p →
      s'.heap.get? p = some (seqObj "list" out c) → IntsAre out.toList ns → ns.Pairwise (· < ·) → (∀ k, k ∈ ns ↔ S k = true) → ns.length = n → Q (.ref p) s') :
    wpAny (model P w) A (call (.builtin "sorted") [.ref a]) Q E s := by
  obtain ⟨o, es, ep, t, ho, hex, hd, g, nd, hm, hb, hf, hn, hr, hl⟩ := R
  refine Calls.call_function_entry kind_sorted plain_sorted entry_sorted (args_sorted1 _) ?_
  unfold Builtin.«sorted»
  refine wpAny_bind (m := checkCount "sorted" 1 1 _) (wpAny_pure ?_)
  refine wpAny_bind (collect_set (A := A.in1) hh ⟨o, ho, hex.1, hd⟩ hf hb hr hl fun s1 vs k1 hz g1 o1 pm => ?_)
  have hvl : vs.length = n := by rw [pm.length_eq, List.length_map, Array.length_toList]; exact hn
  have hI : IntsAre vs (vs.map Builtin.Re.reRawOf) := ints_of vs fun v hv => by
    obtain ⟨e, he, q⟩ := List.mem_map.mp (pm.mem_iff.mp hv)
    obtain ⟨k, tk, h1, _⟩ := g e he
    exact ⟨k, tk, by rw [← q]; exact h1⟩
  have pk : (vs.map Builtin.Re.reRawOf).Perm (es.toList.map keyOf) := by
    have q := pm.map Builtin.Re.reRawOf
    rw [List.map_map] at q
    exact q
  refine wpAny_bind (wpAny_newList ?_ (by rw [hvl, sizeLine_eq]; omega))
  have hoL : (s1.heap.push (seqObj "list" vs.toArray 0)).get? s1.heap.objs.size = some (seqObj "list" vs.toArray 0) := Heap.get?_push_size _ rfl
  refine wpAny_bind (wpAny_holding (wpAny_call_entry slot_list_sort ⟨_, hoL, rfl⟩ entry_list_sort (SrtO.list_sort_ord SrtO.swo_int hoL (by rw [hvl, sizeLine_eq]; omega) (fun h2 => SrtO.ints_sortable hI h2) fun out so st => ⟨_, rfl, ?_⟩) (args_list_sort _)))
  obtain ⟨a1, a2, a3⟩ := SrtO.ints_out hI so st
  obtain ⟨c, hc⟩ := sortedHeap_at (vs := vs) (out := out.toArray) hoL
  have pn : (out.map SrtO.iv).Perm (es.toList.map keyOf) := a2.trans pk
  refine wpAny_pure ⟨_, rfl, hQ _ s1.heap.objs.size out.toArray c (out.map SrtO.iv) (fun b u e => ?_) g1 o1 hz hc a1 (lt_of_le_nodup _ a3 (pn.nodup_iff.mpr nd)) (fun k => by rw [pn.mem_iff, ← hm k]) ?_⟩
  · have q := k1 b u e
    have hlt := Heap.lt_size q
    show (sortedHeap (s1.heap.push (seqObj "list" vs.toArray 0)) s1.heap.objs.size vs out.toArray).get? b = some u
    rw [sortedHeap_old (Nat.ne_of_lt hlt) (by rw [size_push']; exact Nat.lt_succ_of_lt hlt)]
    exact Heap.get?_push_of_some _ q
  · rw [pn.length_eq, List.length_map, Array.length_toList]; exact hn
end
section
variable {X : Cx}
/-- sorted(set(..)): the members, ascending -/
def rSetI (K : PySem.W.Frag) (w : World) : List V → Hp → VK → Prop := fun xs H Q => ∃ (l : Addr) (ns : List Int), xs = [V.ref l] ∧ SqL K H l (ns.map V.int) ∧ ns.length ≤ 4000 ∧ ∀ p n, n ≤ ns.length → H p = none → Q (.ref p) (upd H p (SetO w p (fun j => decide (j ∈ ns)) n))
theorem call_setI (hc : X.calm = true) : CallR X (.type "set") (rSetI X.K X.w) := by
  intro pins s σ H xs us Q I r h
  obtain ⟨l, ns, rfl, hs, hn, q⟩ := h
  obtain rfl := Vals.ref1 r
  obtain ⟨its, rv, pl, hz⟩ := I.list hs
  have hi := rv.ints
  refine call_set_lstI ns (I.ok.hd hc) pl.isList (by simpa using hi) (by show ns.length + 1 < 4096; omega) fun h' tk c R hcn kk => ?_
  exact ⟨.ref _, _, I.laid (t' := tk) (h' := h') kk (Nat.le_refl _) (setO_new R), rfl, q _ c hcn (I.hok.fresh (Nat.le_refl _))⟩
def rSortedSetW (w : World) : List V → Hp → VK → Prop := fun vs H Q => ∃ (a : Addr) (S : Int → Bool) (n : Nat), vs = [V.ref a] ∧ H a = some (SetO w a S n) ∧ n < 4096 ∧
  ∀ (ns : List Int) (p : Addr), ns.Pairwise (· < ·) → (∀ k : Int, k ∈ ns ↔ S k = true) → ns.length = n → H p = none → Q (.ref p) (upd H p (.lst (ns.map V.int)))
theorem cr_sortedSetW (hc : X.calm = true) : CallR X (.builtin "sorted") (rSortedSetW X.w) := by
  intro pins s σ H vs us Q I r h
  obtain ⟨a, S, n, rfl, ha, h64, q⟩ := h
  have R := setO_get I ha
  rw [Vals.ref1 r]
  refine sorted_setW R (I.ok.hd hc) h64 fun s' p out c ns k g o hp hg hi hs hm hl => ?_
  have hlen : (ns.map V.int).length ≤ sizeLine := by rw [List.length_map, hl, sizeLine_eq]; omega
  have hn : H p = none := I.hok.fresh hp
  have J : Inv X pins σ (upd H p (.lst (ns.map V.int))) { s with heap := s'.heap, gens := s'.gens, drawn := s'.drawn, toks := s'.toks } :=
    I.call (ch := []) (Un.laid k hp hn) (I.hok.laid k hp ⟨hlen, out.toList, c, vals_of_ints hi, hg⟩) (by rw [g]; exact I.bare) (fun _ z => nomatch z)
  have e : s' = { s with heap := s'.heap, gens := s'.gens, drawn := s'.drawn, toks := s'.toks } := by
    cases s'
    cases s
    cases o
    rfl
  rw [e]
  exact ⟨.ref p, _, J, rfl, q ns p hs hm hl hn⟩
end
end Cm
/-! x(v): a local name that holds an instance with an own __call__ -/
namespace Cm
open PySem PySem.Spec PyProof.Rows L2
theorem icall_with {M : Model} {A : Around} {E : Value → Shared → Prop} {s : Shared} {pos : Pos} {q : Addr} {front : List Value} {Q : Value → Shared → Prop} {as : List (Bool × Sem Value)} (hp : (as.any (·.1)) = false)
    (h : wpAny M A (evalArgs (.ref q) true as []) (fun b t => (∃ ob D od, PySem.W.InstAt t.heap q ob D od ∧ ob.data = .plain) ∧ wpAny M A (call (.ref q) (front ++ b.pos) b.kw) Q E t) E s) : wpAny M A (callWith pos (.ref q) front as []) Q E s := by
  unfold callWith
  refine wpAny_bind (wpAny_holding (wpAny_mono h (fun b t ⟨⟨ob, D, od, J, pl⟩, hc⟩ => wpAny_bind (wpAny_standAt ?_)) fun _ _ z => z))
  have L := PySem.W.kco_keeper (M := M) J pl
  simp only [hp, List.any_nil, Bool.or_false]
  refine wpAny_bind (L.here ?_)
  dsimp only
  exact wpAny_bind (wpAny_mono (wpAny_operateT hc) (fun r t2 hr => wpAny_bind (wpAny_holding (wpAny_point (wpAny_pure hr)))) fun _ _ z => z)
def ICal (P : Program) (w : World) (K : PySem.W.Frag) (mg : Str → Option Value) (base : Heap) (k : Nat) (C : Addr) (sp : Sp) : Prop :=
  ∃ f fd ps, FnOk P w K mg base CX0 k f fd ps sp ∧ Binds K fd ps [] ∧ Meth K C "__call__" f ∧ PySem.W.fnIn K f = true
section
variable {X : Cx} {j k i : Nat} {x : Str} {e : Expr} {es : List Expr} {p pos : Pos} {t : TA}
def tICall (P : Program) (w : World) (K : PySem.W.Frag) (mg : Str → Option Value) (base : Heap) (k i : Nat) (t : TA) : TE := fun σ H Q => ∃ a, σ[i]? = some (some (.ref a)) ∧
  t σ H fun vs H1 => ∃ C dx fs sp, H1 a = some (.ins C dx fs) ∧ ICal P w K mg base k C sp ∧ sp (.ref a :: vs) H1 Q E0
theorem pe_icall (hr : Room j X.A) (hk : k ≤ j) (hN : X.N[i]? = some x) (hv : Vis X.env.scope x) (ha : PA X (e :: es) t)
    (hdb : (x == ("__debug__" : Str)) = false := by decide) (hcd : (x == ("__classdict__" : Str)) = false := by decide)
    (he : starEach (e :: es) X.env = (false, eval e X.env) :: starEach es X.env := by rfl) (hpl : (backTo pos (starEach es X.env)).any (·.1) = false := by rfl) :
    PE X (.Call (.Name x p) (e :: es) [] pos) (tICall X.prog X.w X.K X.mg X.base k i t) := by
  refine ⟨fun pins s σ H Q I h => ?_⟩
  obtain ⟨a, hs, ht⟩ := h
  refine wpAny_Call_Name_kw (thn ((pe_var (pos := p) hN hv hdb hcd).run pins s σ H (fun v H1 => v = .ref a ∧ H1 = H) I ⟨.ref a, hs, rfl, rfl⟩) fun u s1 ⟨v, H1, I1, r1, q1⟩ => ?_)
  obtain ⟨rfl, rfl⟩ := q1
  cases r1
  have hz := ha.run pos pins s1 σ _ _ I1 ht
  rw [he] at hz ⊢
  refine icall_with (by show (false || (backTo pos (starEach es X.env)).any (·.1)) = false; rw [hpl]; rfl) (Calls.evalArgs_plain (thn hz fun us s2 ⟨vs, H2, I2, r, C, dx, fs, sp, hi, ⟨f, fd, ps, F, b, M, fi⟩, q⟩ => ?_))
  obtain ⟨mA, O, _⟩ := ins_get I2.hok hi
  obtain ⟨od, J, _⟩ := O.look
  refine ⟨⟨_, _, _, J, rfl⟩, wpAny_call (PySem.W.kco_code I2.kIn J rfl M.at_ M.fn fi ?_)⟩
  have r2 : Vals (.ref a :: vs) (.ref a :: us) := .cons rfl r
  have hl : ((Value.ref a :: us) ++ []).length = ps.length := by rw [List.append_nil, ← r2.length]; exact F.len _ _ _ _ q
  have b2 := b s2 (.ref a :: us) I2.kIn hl
  rw [List.append_nil] at b2
  refine codeAny_mono (F.run X.A X.stack s2 H2 ⟨.ref a :: us, []⟩ (.ref a :: us) (.ref a :: vs) Q E0 (hr.mono hk) I2.env0 b2 r2 q) fun r s3 z => ?_
  match r, z with
  | .error e, z => exact (pass0 (X := X)) pins σ H2 s2 e s3 I2 z
  | .ok (.ret u), z => exact I2.after z
  | .ok .next, z => exact (show False from z).elim
  | .ok .brk, z => exact (show False from z).elim
  | .ok .cont, z => exact (show False from z).elim
end
end Cm
namespace K29
open PySem PySem.Spec PyProof.Rows Cm
open L2 hiding Same
/-! ### methods -/
theorem val_lk (M : List Pr) (n : Int) : ((valV (M.map fun p => ((Sum.inl p.1 : L2.Key), V.int p.2)) (Sum.inl n)).getD (.int n)) = .int (lk M n) := by
  induction M with
  | nil => rfl
  | cons p M ih =>
    rw [lk]
    by_cases h : p.1 = n
    · rw [if_pos h, List.map_cons, valV_pos (by rw [h])]; rfl
    · rw [if_neg h, List.map_cons, valV_neg (by intro e; injection e with e; exact h e)]; exact ih
theorem dec_int (a b : Int) : decide (V.int a = V.int b) = decide (a = b) := by simp
def spAsc (K : PySem.W.Frag) : Sp := fun vs H Q _ => ∃ (a : Addr) (ns : List Int), vs = [.ref a] ∧ SqL K H a (ns.map V.int) ∧ ns.length ≤ 1000 ∧
  ∀ (ms : List Int) (p : Addr) (H' : Hp), Same H H' → H' p = some (.lst (ms.map V.int)) → ms.Nodup → (∀ k, k ∈ ms ↔ k ∈ ns) → ms.length ≤ ns.length → Q (.ref p) H'
def spRen (K : PySem.W.Frag) : Sp := fun vs H Q _ => ∃ (x : Addr) (M : List Pr) (n : Int), vs = [.ref x, .int n] ∧ RenAt K H x M ∧ Q (.int (lk M n)) H
def spLen (K : PySem.W.Frag) : Sp := fun vs H Q _ => ∃ (x : Addr) (M : List Pr), vs = [.ref x] ∧ RenAt K H x M ∧ Q (.int M.length) H
def spEq (K : PySem.W.Frag) : Sp := fun vs H Q _ => ∃ (x : Addr) (M : List Pr) (y : V), vs = [.ref x, y] ∧ RenAt K H x M ∧ M.length ≤ 100 ∧ ((∃ (b : Addr) (N : List Pr), y = .ref b ∧ RenAt K H b N ∧ N.length ≤ 100 ∧ Q (.bl (decide (M = N))) H) ∨ (∃ (t : Addr) (xs : List V), y = .ref t ∧ H t = some (.tup xs) ∧ Q (.bl false) H))
def spKeeps (K : PySem.W.Frag) : Sp := fun vs H Q _ => ∃ (x a : Addr) (M : List Pr) (ns : List Int), vs = [.ref x, .ref a] ∧ RenAt K H x M ∧ H a = some (.lst (ns.map V.int)) ∧ ns.length ≤ 100 ∧ ∀ H', Same H H' → Q (.bl (ns.all fun n => decide (lk M n = n))) H'
theorem dp_prs {K : PySem.W.Frag} {H : Hp} : ∀ (l : PL), PrsAt H l → DpAll K H (rfp l) ((prs l).map pd)
  | [], _ => .nil
  | e :: l, h => .cons (pd_dp (h e List.mem_cons_self)) (dp_prs l fun q hq => h q (List.mem_cons_of_mem _ hq))
theorem lay_pd (p : Pr) : (pd p).canLay0 = true ∧ (pd p).depth ≤ 1 := by
  constructor
  · simp [pd, PyData.canLay0, PyData.canLayAll0]
  · simp [pd, PyData.depth, PyData.depthAll]
theorem shp_pds : ∀ (M : List Pr), PyData.canLayAll0 (M.map pd) = true ∧ PyData.depthAll (M.map pd) ≤ 1
  | [] => ⟨rfl, by simp [PyData.depthAll]⟩
  | p :: M => by
    obtain ⟨h1, h2⟩ := shp_pds M
    obtain ⟨g1, g2⟩ := lay_pd p
    refine ⟨by simp [PyData.canLayAll0, h1, g1], ?_⟩
    simp only [List.map_cons, PyData.depthAll]
    omega
theorem shp_prs (M : List Pr) : SeqAt.shaped (.tuple (M.map pd)) = true := by
  obtain ⟨h1, h2⟩ := shp_pds M
  show ((PyData.tuple (M.map pd)).canLay0 && decide ((PyData.tuple (M.map pd)).depth ≤ 64)) = true
  rw [Bool.and_eq_true]
  exact ⟨by simp only [PyData.canLay0]; exact h1, decide_eq_true (by simp only [PyData.depth]; omega)⟩
theorem eqvA_prs : ∀ M N : List Pr, PyData.eqvAll (M.map pd) (N.map pd) = decide (M = N)
  | [], [] => by simp [PyData.eqvAll]
  | [], _ :: _ => by simp [PyData.eqvAll]
  | _ :: _, [] => by simp [PyData.eqvAll]
  | p :: M, q :: N => by
    have h := eqvA_prs M N
    show (PyData.eqv (pd p) (pd q) && PyData.eqvAll (M.map pd) (N.map pd)) = _
    rw [h]
    have e : PyData.eqv (pd p) (pd q) = decide (p = q) := by
      obtain ⟨a, b⟩ := p
      obtain ⟨c, d⟩ := q
      simp only [pd, PyData.eqv, PyData.eqvAll]
      by_cases h1 : a = c <;> by_cases h2 : b = d <;> simp [h1, h2]
    rw [e]
    by_cases h1 : p = q <;> by_cases h2 : M = N <;> simp [h1, h2]
theorem eqv_prs (M N : List Pr) : PyData.eqv (.tuple (M.map pd)) (.tuple (N.map pd)) = decide (M = N) := by
  simp only [PyData.eqv]; exact eqvA_prs M N
section
variable {P : Program} {w : World} {K : PySem.W.Frag} {mg : Str → Option Value} {base : Heap} {sa : Addr} {sx : List Int}
theorem ren_ty (T : Tx K mg sa sx) {H : Hp} {x : Addr} {dx : Addr} {fs : List (Str × V)} (h : H x = some (.ins (RC K) dx fs)) : TyX K H (.ref x) (.ref (RC K)) := .base (.ins h (c_Renaming T) (x_cc T) (x_cget T) (x_ctak T) (x_mro T))
theorem ok_ascending (T : Tx K mg sa sx) : Cal P w K mg base 1 "ascending" (spAsc K) := by
  obtain ⟨fd, F⟩ := f_ascending T
  refine ⟨_, fd, ["things"], fnok F sc_ascending (fun vs H Q E h => ?_) (fun cdv A outer s H vs Q E hr h => ?_), F.bindsN fun _ _ _ _ _ _ us hl => match us, hl with | [_], _ => rfl, g_ascending T, F.kp⟩
  · obtain ⟨a, ns, rfl, _⟩ := h; rfl
  · obtain ⟨a, ns, rfl, ha, hl, q⟩ := h
    refine ⟨_, (pss_one (ps_ret (pe_callB (id := "sorted") (cr_sortedSetW rfl) rfl (n_sorted T) (by decide +kernel) (pa_cons (pe_callTy (T := "set") (call_setI rfl) rfl (n_set T) (by decide +kernel) (pa_cons (pv 0) pa_nil)) pa_nil)))), ?_⟩
    refine ⟨_, rfl, a, ns, rfl, ha, by omega, fun p n hn hp => ?_⟩
    refine ⟨p, _, n, rfl, upd_same, by omega, fun ms p2 pw hm hlm hp2 => ?_⟩
    refine q ms p2 _ ((Same.new hp).trans (Same.new hp2)) upd_same (pw.imp fun h => by omega) (fun k => by rw [hm k]; exact decide_eq_true_iff) (by omega)
theorem ok_renamed (T : Tx K mg sa sx) : MCal P w K mg base 1 (RC K) "renamed" (spRen K) := by
  obtain ⟨fd, F⟩ := f_Renaming_renamed T
  refine ⟨c_Renaming T, _, fd, ["self", "n"], fnok F sc_Renaming_renamed (fun vs H Q E h => ?_) (fun cdv A outer s H vs Q E hr h => ?_), F.bindsN fun _ _ _ _ _ _ us hl => match us, hl with | [_, _], _ => rfl, me_Renaming_renamed T⟩
  · obtain ⟨x, M, n, rfl, _⟩ := h; rfl
  · obtain ⟨x, M, n, rfl, ⟨dx, t, d, hx, l, ht, e, hl, hd⟩, q⟩ := h
    refine ⟨_, (pss_one (ps_ret (pe_dget2 (hu_of hr) (pe_fld (pv 0) rfl) (pv 1) (pv 1) ⟨by rfl, by rfl, by rfl, by rfl⟩))), ?_⟩
    refine ⟨_, rfl, x, _, dx, _, _, rfl, hx, c_Renaming T, na_Renaming_becomes T, rfl, d, rfl, .inl ⟨_, .inl hd⟩, _, rfl, _, rfl, _, DGet.k (k := .inl n) hd, ?_⟩
    rw [val_lk]; exact q
theorem ok_call (T : Tx K mg sa sx) : MCal P w K mg base 2 (RC K) "__call__" (spRen K) := by
  obtain ⟨fd, F⟩ := f_Renaming_call T
  refine ⟨c_Renaming T, _, fd, ["self", "n"], fnok F sc_Renaming_call (fun vs H Q E h => ?_) (fun cdv A outer s H vs Q E hr h => ?_), F.bindsN fun _ _ _ _ _ _ us hl => match us, hl with | [_, _], _ => rfl, me_Renaming_call T⟩
  · obtain ⟨x, M, n, rfl, _⟩ := h; rfl
  · obtain ⟨x, M, n, rfl, hx, q⟩ := h
    refine ⟨_, (pss_one (ps_ret (pe_mcalA (ok_renamed T) hr (by decide) (pv 0) (pa_cons (pv 1) pa_nil)))), ?_⟩
    have hx' := hx
    obtain ⟨dx, t, d, h1, _⟩ := hx'
    exact ⟨_, rfl, _, dx, _, rfl, h1, rfl, _, rfl, x, M, n, rfl, hx, q⟩
theorem ok_len (T : Tx K mg sa sx) : MCal P w K mg base 1 (RC K) "__len__" (spLen K) := by
  obtain ⟨fd, F⟩ := f_Renaming_len T
  refine ⟨c_Renaming T, _, fd, ["self"], fnok F sc_Renaming_len (fun vs H Q E h => ?_) (fun cdv A outer s H vs Q E hr h => ?_), F.bindsN fun _ _ _ _ _ _ us hl => match us, hl with | [_], _ => rfl, me_Renaming_len T⟩
  · obtain ⟨x, M, rfl, _⟩ := h; rfl
  · obtain ⟨x, M, rfl, ⟨dx, t, d, hx, l, ht, e, hl, hd⟩, q⟩ := h
    refine ⟨_, (pss_one (ps_ret (pe_callB (id := "len") call_len_seq rfl (n_len T) (by decide +kernel) (pa_cons (pe_fld (pv 0) rfl) pa_nil)))), ?_⟩
    refine ⟨_, rfl, x, _, dx, _, _, rfl, hx, c_Renaming T, na_Renaming_moved T, rfl, t, _, rfl, .inr (SqT.of ht), ?_⟩
    rw [rfp_len, show l.length = M.length by rw [← e, List.length_map]]; exact q
theorem ok_eq (T : Tx K mg sa sx) : MCal P w K mg base 1 (RC K) "__eq__" (spEq K) := by
  obtain ⟨fd, F⟩ := f_Renaming_eq T
  refine ⟨c_Renaming T, _, fd, ["self", "other"], fnok F sc_Renaming_eq (fun vs H Q E h => ?_) (fun cdv A outer s H vs Q E hr h => ?_), F.bindsN fun _ _ _ _ _ _ us hl => match us, hl with | [_, _], _ => rfl, me_Renaming_eq T⟩
  · obtain ⟨x, M, y, rfl, _⟩ := h; rfl
  · obtain ⟨x, M, y, rfl, ⟨dx, t, d, hx, l, ht, e, hl, hd⟩, lM, h⟩ := h
    refine ⟨_, (pss_one (ps_ret (pe_and (pe_callB (id := "isinstance") (r := rIsi K) call_isi rfl (n_isinstance T) (by decide +kernel) (pa_cons (pv 1) (pa_cons (pe_glob (v := .ref _) rfl (g_Renaming T) rfl) pa_nil))) (pe_one (pe_cmpR (op_eqD hr.units) (pe_fld (pv 0) rfl) (pe_fld (pv 1) rfl) (nomark _)))))), ?_⟩
    rcases h with ⟨b, N, rfl, ⟨dx2, t2, d2, hb, l2, ht2, e2, hl2, hd2⟩, lN, q⟩ | ⟨t2, xs, rfl, h2, q⟩
    · refine ⟨_, rfl, .ref b, .ref (RC K), _, _, true, rfl, .own _, ren_ty T hb, x_kit T, true, rfl, iteT ?_⟩
      refine ⟨_, rfl, x, _, dx, _, _, rfl, hx, c_Renaming T, na_Renaming_moved T, rfl, _, rfl, b, _, dx2, _, _, rfl, hb, c_Renaming T, na_Renaming_moved T, rfl, _, _, .tup (SqT.of ht) (dp_prs l hl), .tup (SqT.of ht2) (dp_prs l2 hl2), shp_prs _, shp_prs _, ?_⟩
      rw [eqv_prs, e, e2]
      exact q
    · exact ⟨_, rfl, .ref t2, .ref (RC K), _, _, false, rfl, .own _, .base (.tup h2), x_kitt T, false, rfl, iteF q⟩
theorem ok_keeps (T : Tx K mg sa sx) : MCal P w K mg base 2 (RC K) "keeps" (spKeeps K) := by
  obtain ⟨fd, F⟩ := f_Renaming_keeps T
  refine ⟨c_Renaming T, _, fd, ["self", "numbers"], fnok F sc_Renaming_keeps (fun vs H Q E h => ?_) (fun cdv A outer s H vs Q E hr h => ?_), F.bindsN fun _ _ _ _ _ _ us hl => match us, hl with | [_, _], _ => rfl, me_Renaming_keeps T⟩
  · obtain ⟨x, a, M, ns, rfl, _⟩ := h; rfl
  · obtain ⟨x, a, M, ns, rfl, hx, ha, hl, q⟩ := h
    refine ⟨_, (pss_one (ps_ret (pe_callB (id := "all") (cr_all rfl) rfl (n_all T) (by decide +kernel) (pa_cons (pe_lc (own := [("n", 2)]) (g := gName 2) rfl sc_Renaming_keeps.nd (pi_list (pv 1)) (blkOk_by (own := [("n", 2)]) (N := ["self", "numbers", "n"]) (sc := defScope s_Renaming_keeps) (by decide +kernel)) (fun _ _ _ _ _ => pg_name (i := 2) sc_Renaming_keeps.nd rfl (by first | exact Or.inl rfl | exact Or.inr rfl)) (fun _ _ _ _ _ => pts_nil) (fun _ _ _ _ _ => (pe_cmpR op_eq (pe_mcalA (ok_renamed T) hr (by decide) (pv 0) (pa_cons (pv 2) pa_nil)) (pv 2) (nomark _)))) pa_nil)))), ?_⟩
    refine ⟨_, rfl, a, rfl, ⟨_, SqL.of ha⟩, fun D hD => ?_⟩
    refine lc_list (K := K) (xs := ns.map V.int) (fun i H' => Same H H' ∧ H' D = some (.lst (((ns.take i).map fun n => decide (lk M n = n)).map V.bl))) ⟨Same.new hD, upd_same⟩ (fun i H' _ h => SqL.of (h.1 _ _ ha)) ?_ ?_
    · rintro i v H' hi ⟨sm, hS⟩
      obtain ⟨hi2, rfl⟩ := map_at hi
      obtain ⟨dx, t, d, h1, hm⟩ := hx.same sm
      refine ⟨rfl, _, rfl, _, dx, _, rfl, h1, rfl, _, rfl, x, M, ns[i], rfl, ⟨dx, t, d, h1, hm⟩, _, rfl, rfl, ?_⟩
      refine ⟨_, hS, sz2 (by simp; omega), sm.mut hD, ?_⟩
      rw [upd_same, take_snoc hi2, List.map_append, List.map_append, dec_int]; rfl
    · rintro H' ⟨sm, hS⟩
      rw [List.take_of_length_le (by rw [List.length_map]; exact Nat.le_refl _)] at hS
      refine ⟨D, _, rfl, SqL.of hS, ?_⟩
      rw [List.all_map]
      exact q _ sm
end
end K29
namespace K29
open PySem PySem.Spec PyProof.Rows Cm
open L2 hiding Same
/-! ### renamings made of pairs that stand -/
def ShP (ps : List Pr) : Prop := ∀ p ∈ ps, sh p.1 = true ∧ sh p.2 = true
def itP (p : Pr) : It := .sq true [.nu p.1, .nu p.2]
def thP (l : PL) : Th := .sq false ((prs l).map itP)
theorem itP_at {K : PySem.W.Frag} {H : Hp} {a : Addr} {p : Pr} (h : H a = some (.tup (pv2 p))) : ItAt K H (.ref a) (itP p) := ⟨a, rfl, SqT.of h, (by show 2 ≤ 10; decide)⟩
theorem itP_pair {p : Pr} (h : sh p.1 = true ∧ sh p.2 = true) : pairI (itP p) = some p := by
  show (if (sh p.1 && sh p.2) = true then some (p.1, p.2) else none) = some p
  rw [h.1, h.2]; rfl
theorem th_pl {K : PySem.W.Frag} {H : Hp} {a : Addr} {l : PL} (ha : H a = some (.lst (rfp l))) (hl : PrsAt H l) (ln : l.length ≤ 20) : ThAt K H (.ref a) (thP l) := by
  refine ⟨a, l.map fun e => (V.ref e.1, itP e.2), rfl, ?_, ?_, by rw [List.length_map]; exact ln, fun q hq => ?_⟩
  · rw [List.map_map]; exact SqL.of ha
  · rw [List.map_map, List.map_map]; rfl
  · obtain ⟨e, he, rfl⟩ := List.mem_map.mp hq
    exact itP_at (hl e he)
theorem tell_pl {l : PL} (h : ShP (prs l)) : Tells (thP l) (prs l) := ⟨_, _, rfl, by
  rw [List.map_map]
  exact List.map_congr_left fun p hp => itP_pair (h p hp)⟩
/-- one more pair in the list at D -/
theorem pl_snoc {H1 H' : Hp} {D q : Addr} {m : PL} {p : Pr} (sm : Same H1 H') (hD : H1 D = none) (hS : H' D = some (.lst (rfp m))) (hm : PrsAt H' m) (hq : H' q = none) :
    Same H1 (upd (upd H' q (.tup (pv2 p))) D (.lst (rfp m ++ [V.ref q]))) ∧ (upd (upd H' q (.tup (pv2 p))) D (.lst (rfp m ++ [V.ref q]))) D = some (.lst (rfp (m ++ [(q, p)]))) ∧ PrsAt (upd (upd H' q (.tup (pv2 p))) D (.lst (rfp m ++ [V.ref q]))) (m ++ [(q, p)]) := by
  have ne : D ≠ q := ne_of_none hS hq
  refine ⟨(sm.trans (Same.new hq)).mut hD, by rw [upd_same]; unfold rfp; rw [List.map_append]; rfl, fun e he => ?_⟩
  have key : (upd H' q (.tup (pv2 p))) e.1 = some (.tup (pv2 e.2)) := by
    rcases List.mem_append.mp he with he | he
    · exact Same.new hq _ _ (hm e he)
    · rw [List.mem_singleton.mp he]; exact upd_same
  have nD : e.1 ≠ D := fun z => by
    rw [z, upd_ne ne, hS] at key; cases key
  rw [upd_ne nD]; exact key
theorem made {K : PySem.W.Frag} {H : Hp} {v : V} {th : Th} {ps : List Pr} {Q : VK} {E : XK} (hv : ThAt K H v th) (ht : Tells th ps) (vp : Val ps) (q : ∀ x H', Same H H' → RenAt K H' x (mv ps) → Q (.ref x) H') :
    ∀ y dx, H y = none → H dx = none → dx ≠ y → spInit K [.ref y, v] (upd (upd H dx (.own y)) y (.ins (RC K) dx [])) (fun u H2 => u = .non ∧ Q (.ref y) H2) E := by
  intro y dx hy hdx ne
  have s0 : Same H (upd (upd H dx (.own y)) y (.ins (RC K) dx [])) := (Same.new hdx).trans (Same.new (by rw [upd_ne ne.symm]; exact hy))
  refine ⟨y, dx, v, th, rfl, upd_same, hv.same s0, fun i hi => ?_, fun ps' ht' vp' H' k r => ⟨rfl, ?_⟩⟩
  · rw [ht.right vp] at hi; cases hi
  · have e : ps' = ps := by
      obtain ⟨t, is, rfl, e1⟩ := ht
      obtain ⟨t2, is2, e2, e3⟩ := ht'
      cases e2
      rw [e1] at e3
      exact (List.map_inj_right (fun a b h => Option.some.inj h)).mp e3.symm
    subst e
    exact q y H' (fun b o hb => k b o (ne_of_none hb hy) (s0 _ _ hb)) r
theorem sh_lk {A : List Pr} (h : ShP A) {n : Int} (hn : sh n = true) : sh (lk A n) = true := by
  induction A with
  | nil => exact hn
  | cons p A ih =>
    rw [lk]
    split
    · exact (h p List.mem_cons_self).2
    · exact ih fun q hq => h q (List.mem_cons_of_mem _ hq)
theorem sh_f1 {A : List Pr} (h : ShP A) {n : Int} (hn : n ∈ f1 A) : sh n = true := by
  obtain ⟨b, hb⟩ := mem_f1 hn
  exact (h _ hb).1
theorem sh_mv {A : List Pr} (h : ShP A) : ShP (mv A) := fun p hp => h p (mem_mv.mp hp).1
theorem sh_fl {A : List Pr} (h : ShP A) : ShP (fl2 A) := fun p hp => by
  obtain ⟨a, b⟩ := p
  have := h _ (mem_fl.mp hp)
  exact ⟨this.2, this.1⟩
theorem len_mv (A : List Pr) : (mv A).length ≤ A.length := by
  unfold mv
  rw [(so_perm _).length_eq]
  exact List.length_filter_le _ _
theorem len_fl (A : List Pr) : (fl2 A).length = A.length := List.length_map ..
theorem catA {K : PySem.W.Frag} {H : Hp} {a b : Addr} {xs ys : List V} {Q : VK} (ha : SqT K H a xs) (hb : SqT K H b ys) (hl : xs.length + ys.length ≤ sizeLine) (q : ∀ c H', Same H H' → SqT K H' c (xs ++ ys) → Q (.ref c) H') : rCatA K (.ref a) (.ref b) H Q := by
  refine ⟨a, b, xs, ys, rfl, rfl, ha, hb, hl, fun e => ?_, fun _ e => ?_, fun _ _ p hp => q p _ (Same.new hp) (SqT.of upd_same)⟩
  · subst e; exact q b H (Cm.Same.refl _) hb
  · subst e; exact q a H (Cm.Same.refl _) (by rw [List.append_nil]; exact ha)
def spInv (K : PySem.W.Frag) : Sp := fun vs H Q _ => ∃ (x : Addr) (M : List Pr), vs = [.ref x] ∧ RenAt K H x M ∧ Val M ∧ ShP M ∧ M.length ≤ 20 ∧ ∀ y H', Same H H' → RenAt K H' y (mv (fl2 M)) → Q (.ref y) H'
def spMul (K : PySem.W.Frag) : Sp := fun vs H Q _ => ∃ (x y : Addr) (A B : List Pr), vs = [.ref x, .ref y] ∧ RenAt K H x A ∧ RenAt K H y B ∧ Val A ∧ Val B ∧ ShP A ∧ ShP B ∧ A.length ≤ 10 ∧ B.length ≤ 10 ∧
  ∀ (ns : List Int) z H', ns.Nodup → (∀ a ∈ f1 A, a ∈ ns) → (∀ a ∈ f1 B, a ∈ ns) → ns.length ≤ 20 → Same H H' → RenAt K H' z (mv (cmp A B ns)) → Q (.ref z) H'
def swp (a b : Int) : List Pr := if a = b then [] else [(a, b), (b, a)]
theorem val_swp (a b : Int) : Val (swp a b) := by
  unfold swp
  by_cases h : a = b
  · rw [if_pos h]; exact ⟨List.nodup_nil, List.nodup_nil, fun p hp => by cases hp⟩
  · rw [if_neg h]
    have h2 : ¬ b = a := fun z => h z.symm
    refine ⟨by simp [f1, h], by simp [f2, h2], fun p hp => ?_⟩
    rcases List.mem_cons.mp hp with e | hp
    · rw [e]; simp [f1]
    · rw [List.mem_singleton.mp hp]; simp [f1]
def spSwap (K : PySem.W.Frag) : Sp := fun vs H Q E => ∃ (v1 v2 : V) (i1 i2 : It), vs = [.ref (RC K), v1, v2] ∧ ItAt K H v1 i1 ∧ ItAt K H v2 i2 ∧
  (∀ a b, i1 = .fl (.nu a) → i2 = .fl (.nu b) → sh a = true → sh b = true → ∀ x H', Same H H' → RenAt K H' x (mv (swp a b)) → Q (.ref x) H') ∧
  ((shI i1 && shI i2) = false → ∀ H' d, Same H H' → H' d = some (.xd [("at", .int 0)]) → E (.ref (BC K)) (some d) H')
theorem shI_nu {it : It} (h : shI it = true) : ∃ k, it = .fl (.nu k) ∧ sh k = true := by
  cases it with
  | sq t fs => cases h
  | fl f => obtain ⟨k, e, h⟩ := shF_nu (show shF f = true from h); exact ⟨k, by rw [e], h⟩
theorem sc_swap : FnScope ["cls", "n", "m"] ["cls", "n", "m"] (defScope s_Renaming_swap) := ⟨rfl, rfl, rfl, by decide +kernel, rfl, by decide +kernel, by decide +kernel⟩
section
variable {P : Program} {w : World} {K : PySem.W.Frag} {mg : Str → Option Value} {base : Heap} {sa : Addr} {sx : List Int}
def spI0 (K : PySem.W.Frag) : Sp := fun vs H Q _ => spInit K vs H Q fun _ _ _ => False
theorem kal1 (T : Tx K mg sa sx) (hP : PF P) : KCal P w K mg base 6 "Renaming" (RC K) (spI0 K) [] := by
  obtain ⟨fd, F, b, _⟩ := ok_init (P := P) (w := w) (base := base) T hP
  exact ⟨g_Renaming T, _, fd, _, [], m_Renaming T, Cm.FnOk.calm F, b, .nil⟩
theorem kal0 (T : Tx K mg sa sx) (hP : PF P) : KCal P w K mg base 6 "Renaming" (RC K) (spI0 K) [.ref (He.dflAt ("Renaming", some "__init__") 0 K)] := by
  obtain ⟨fd, F, _, ds, v, b⟩ := ok_init (P := P) (w := w) (base := base) T hP
  exact ⟨g_Renaming T, _, fd, _, ds, m_Renaming T, Cm.FnOk.calm F, b, v⟩
theorem ok_inverse (T : Tx K mg sa sx) (hP : PF P) : MCal P w K mg base 8 (RC K) "inverse" (spInv K) := by
  obtain ⟨fd, F⟩ := f_Renaming_inverse T
  refine ⟨c_Renaming T, _, fd, ["self"], fnok F sc_Renaming_inverse (fun vs H Q E h => ?_) (fun cdv A outer s H vs Q E hr h => ?_), F.bindsN fun _ _ _ _ _ _ us hl => match us, hl with | [_], _ => rfl, me_Renaming_inverse T⟩
  · obtain ⟨x, M, rfl, _⟩ := h; rfl
  · obtain ⟨x, M, rfl, ⟨dx, t, d, hx, l, ht, rfl, hl, hd⟩, vM, sM, lM, q⟩ := h
    refine ⟨_, (pss_one (ps_ret (pe_kal (kal1 T hP) hr (by decide) (pa_cons (pe_lc (own := [("n", 1), ("m", 2)]) (g := gTup K 2 (gCons (gName 1) (gCons (gName 2) gNil))) rfl sc_Renaming_inverse.nd (pi_tup (pe_fld (pv 0) rfl)) (blkOk_by (own := [("n", 1), ("m", 2)]) (N := ["self", "n", "m"]) (sc := defScope s_Renaming_inverse) (by decide +kernel)) (fun _ _ _ _ _ => pg_tup (by rfl) (pgs_cons (pg_name (i := 1) sc_Renaming_inverse.nd rfl (Or.inl rfl)) (pgs_cons (pg_name (i := 2) sc_Renaming_inverse.nd rfl (Or.inl rfl)) pgs_nil))) (fun _ _ _ _ _ => pts_nil) (fun _ _ _ _ _ => (pe_tup (pa_cons (pv 2) (pa_cons (pv 1) pa_nil))))) pa_nil)))), ?_⟩
    refine ⟨_, rfl, x, _, dx, _, _, rfl, hx, c_Renaming T, na_Renaming_moved T, rfl, t, rfl, ⟨_, SqT.of ht⟩, fun D hD => ?_⟩
    rw [List.length_map] at lM
    refine lc_tup (K := K) (xs := rfp l) (fun i H' => ∃ m : PL, Same H H' ∧ H' D = some (.lst (rfp m)) ∧ prs m = fl2 ((prs l).take i) ∧ PrsAt H' m ∧ m.length = i) ⟨[], Same.new hD, upd_same, rfl, fun e he => (by cases he), rfl⟩ (fun i H' _ h => let ⟨m, sm, _⟩ := h; SqT.of (sm _ _ ht)) ?_ ?_
    · rintro i x H' hi ⟨m, sm, hS, em, hm, lm⟩
      obtain ⟨hi2, rfl⟩ := rfp_at hi
      have hi3 : i < (prs l).length := by rw [List.length_map]; exact hi2
      refine ⟨_, _, rfl, SqT.of (sm _ _ (hl _ (List.getElem_mem hi2))), rfl, _, _, rfl, _, _, rfl, rfl, rfl, _, rfl, _, rfl, sz1 (by simp), fun p hp => ⟨rfp m, Same.new hp _ _ hS, sz2 (by rw [rfp_len]; omega), ?_⟩⟩
      obtain ⟨a1, a2, a3⟩ := pl_snoc (p := (l[i].2.2, l[i].2.1)) sm hD hS hm hp
      refine ⟨m ++ [(p, (l[i].2.2, l[i].2.1))], a1, a2, ?_, a3, by rw [List.length_append, lm]; rfl⟩
      rw [take_snoc hi3]
      unfold prs fl2 at em ⊢
      rw [List.map_append, List.map_append, em, List.getElem_map]; rfl
    · rintro H' ⟨m, sm, hS, em, hm, lm⟩
      rw [List.take_of_length_le (by rw [rfp_len, List.length_map]; exact Nat.le_refl _)] at em
      rw [rfp_len] at lm
      have sm2 : ShP (prs m) := by rw [em]; exact sh_fl sM
      refine made (th_pl hS hm (by omega)) (tell_pl sm2) (by rw [em]; exact val_fl vM) fun y H2 s2 r => ?_
      rw [em] at r
      exact q y H2 (sm.trans s2) r
end
end K29
namespace K29
open PySem PySem.Spec PyProof.Rows Cm
open L2 hiding Same
/-! ### one behind the other; swap -/
section
variable {P : Program} {w : World} {K : PySem.W.Frag} {mg : Str → Option Value} {base : Heap} {sa : Addr} {sx : List Int}
theorem ok_mul (T : Tx K mg sa sx) (hP : PF P) : MCal P w K mg base 8 (RC K) "__mul__" (spMul K) := by
  obtain ⟨fd, F⟩ := f_Renaming_mul T
  refine ⟨c_Renaming T, _, fd, ["self", "other"], fnok F sc_Renaming_mul (fun vs H Q E h => ?_) (fun cdv A outer s H vs Q E hr h => ?_), F.bindsN fun _ _ _ _ _ _ us hl => match us, hl with | [_, _], _ => rfl, me_Renaming_mul T⟩
  · obtain ⟨x, y, A, B, rfl, _⟩ := h; rfl
  · obtain ⟨x, y, M, N, rfl, hxM, hyN, vM, vN, sM, sN, lM, lN, q⟩ := h
    obtain ⟨dx, t, d, hx, l, ht, rfl, hl, hd⟩ := id hxM
    obtain ⟨dx2, t2, d2, hy, l2, ht2, rfl, hl2, hd2⟩ := id hyN
    refine ⟨_, (pss_cons (ps_set (i := 2) sc_Renaming_mul.nd rfl (by first | exact Or.inl rfl | exact Or.inr rfl) (pe_cal (ok_ascending T) hr (by decide) (pa_cons (pe_lc (own := [("n", 3), ("_", 4)]) (g := gTup K 2 (gCons (gName 3) (gCons (gName 4) gNil))) rfl sc_Renaming_mul.nd (pi_tup (pe_op op_catA (pe_fld (pv 0) rfl) (pe_fld (pv 1) rfl))) (blkOk_by (own := [("n", 3), ("_", 4)]) (N := ["self", "other", "numbers", "n", "_"]) (sc := defScope s_Renaming_mul) (by decide +kernel)) (fun _ _ _ _ _ => pg_tup (by rfl) (pgs_cons (pg_name (i := 3) sc_Renaming_mul.nd rfl (Or.inl rfl)) (pgs_cons (pg_name (i := 4) sc_Renaming_mul.nd rfl (Or.inl rfl)) pgs_nil))) (fun _ _ _ _ _ => pts_nil) (fun _ _ _ _ _ => (pv 3))) pa_nil)))
    (pss_one (ps_ret (pe_kal (kal1 T hP) hr (by decide) (pa_cons (pe_lc (own := [("n", 3)]) (g := gName 3) rfl sc_Renaming_mul.nd (pi_list (pv 2)) (blkOk_by (own := [("n", 3)]) (N := ["self", "other", "numbers", "n", "_"]) (sc := defScope s_Renaming_mul) (by decide +kernel)) (fun _ _ _ _ _ => pg_name (i := 3) sc_Renaming_mul.nd rfl (by first | exact Or.inl rfl | exact Or.inr rfl)) (fun _ _ _ _ _ => pts_nil) (fun _ _ _ _ _ => (pe_tup (pa_cons (pv 3) (pa_cons (pe_mcalA (ok_renamed T) hr (by decide) (pv 0) (pa_cons (pe_mcalA (ok_renamed T) hr (by decide) (pv 1) (pa_cons (pv 3) pa_nil)) pa_nil)) pa_nil))))) pa_nil))))), ?_⟩
    have e1 : (prs l).length = l.length := List.length_map ..
    have e2 : (prs l2).length = l2.length := List.length_map ..
    refine ⟨_, rfl, x, _, dx, _, _, rfl, hx, c_Renaming T, na_Renaming_moved T, rfl, _, rfl, y, _, dx2, _, _, rfl, hy, c_Renaming T, na_Renaming_moved T, rfl, ?_⟩
    refine catA (SqT.of ht) (SqT.of ht2) (by rw [rfp_len, rfp_len]; exact Nat.le_of_lt (sz2 (by omega))) fun c H1 s1 hc => ⟨c, rfl, ⟨_, hc⟩, fun D hD => ?_⟩
    have ell : rfp l ++ rfp l2 = rfp (l ++ l2) := by unfold rfp; rw [List.map_append]
    have hll : PrsAt H1 (l ++ l2) := fun e he => (List.mem_append.mp he).elim (fun z => s1 _ _ (hl e z)) fun z => s1 _ _ (hl2 e z)
    rw [ell] at hc
    refine lc_tup (K := K) (xs := rfp (l ++ l2)) (fun i H' => Same H1 H' ∧ H' D = some (.lst (((f1 (prs (l ++ l2))).take i).map V.int))) ⟨Same.new hD, upd_same⟩ (fun i H' _ h => (h.1).st hc) ?_ ?_
    · rintro i v H' hi ⟨sm, hS⟩
      obtain ⟨hi2, rfl⟩ := rfp_at hi
      have hi3 : i < (f1 (prs (l ++ l2))).length := by rw [List.length_map, List.length_map]; exact hi2
      refine ⟨_, _, rfl, SqT.of (sm _ _ (hll _ (List.getElem_mem hi2))), rfl, _, _, rfl, _, _, rfl, rfl, rfl, _, rfl, _, hS, sz2 (by simp only [List.length_map, List.length_take, List.length_append]; omega), sm.mut hD, ?_⟩
      rw [upd_same, take_snoc hi3, List.map_append]
      unfold f1 prs
      rw [List.getElem_map, List.getElem_map]; rfl
    · rintro H' ⟨sm, hS⟩
      rw [List.take_of_length_le (by rw [rfp_len, List.length_map, List.length_map]; exact Nat.le_refl _)] at hS
      have ef : f1 (prs (l ++ l2)) = f1 (prs l) ++ f1 (prs l2) := by unfold f1 prs; rw [List.map_append, List.map_append]
      rw [ef] at hS
      refine ⟨D, _, rfl, SqL.of hS, by simp only [List.length_append, List.length_map]; omega, fun ns p H2 s2 hp nd hm ln => ?_⟩
      have s3 := (s1.trans sm).trans s2
      have mA : ∀ a ∈ f1 (prs l), a ∈ ns := fun a ha => (hm a).mpr (List.mem_append.mpr (.inl ha))
      have mB : ∀ a ∈ f1 (prs l2), a ∈ ns := fun a ha => (hm a).mpr (List.mem_append.mpr (.inr ha))
      have shn : ∀ n ∈ ns, sh n = true := fun n hn => (List.mem_append.mp ((hm n).mp hn)).elim (sh_f1 sM) (sh_f1 sN)
      have lns : ns.length ≤ 20 := by simp only [List.length_append, List.length_map] at ln; omega
      refine ⟨_, rfl, p, rfl, ⟨_, SqL.of hp⟩, fun D2 hD2 => ?_⟩
      refine lc_list (K := K) (xs := ns.map V.int) (fun i H' => ∃ m : PL, Same H2 H' ∧ H' D2 = some (.lst (rfp m)) ∧ prs m = cmp (prs l) (prs l2) (ns.take i) ∧ PrsAt H' m ∧ m.length = i) ⟨[], Same.new hD2, upd_same, rfl, fun e he => (by cases he), rfl⟩ (fun i H' _ h => let ⟨m, sm, _⟩ := h; SqL.of (sm _ _ hp)) ?_ ?_
      · rintro i v H3 hi ⟨m, sm3, hS3, em, hm3, lm⟩
        obtain ⟨hi2, rfl⟩ := map_at hi
        have s4 := s3.trans sm3
        have hx4 := s4 _ _ hx
        have hy4 := s4 _ _ hy
        refine ⟨rfl, _, rfl, _, rfl, x, dx, _, rfl, hx4, rfl, _, rfl, y, dx2, _, rfl, hy4, rfl, _, rfl, y, _, ns[i], rfl, hyN.same s4, x, _, _, rfl, hxM.same s4, sz1 (by simp), fun p3 hp3 => ⟨rfp m, Same.new hp3 _ _ hS3, sz2 (by rw [rfp_len]; omega), ?_⟩⟩
        obtain ⟨a1, a2, a3⟩ := pl_snoc (p := (ns[i], lk (prs l) (lk (prs l2) ns[i]))) sm3 hD2 hS3 hm3 hp3
        refine ⟨m ++ [(p3, (ns[i], lk (prs l) (lk (prs l2) ns[i])))], a1, a2, ?_, a3, by rw [List.length_append, lm]; rfl⟩
        rw [take_snoc hi2]
        unfold prs cmp at em ⊢
        rw [List.map_append, List.map_append, em]; rfl
      · rintro H3 ⟨m, sm3, hS3, em, hm3, lm⟩
        rw [List.take_of_length_le (by rw [List.length_map]; exact Nat.le_refl _)] at em
        rw [List.length_map] at lm
        have sm2 : ShP (prs m) := by
          rw [em]
          intro p hp
          obtain ⟨n, hn, rfl⟩ := List.mem_map.mp hp
          exact ⟨shn n hn, sh_lk sM (sh_lk sN (shn n hn))⟩
        refine made (th_pl hS3 hm3 (by omega)) (tell_pl sm2) (by rw [em]; exact val_cmp vM vN nd mA mB) fun z H4 s4 r => ?_
        rw [em] at r
        exact q ns z H4 nd mA mB lns ((s3.trans sm3).trans s4) r
abbrev SwG (K : PySem.W.Frag) : Addr := cmG K (RC K) (.type "type") "swap"
theorem cr (T : Tx K mg sa sx) : ClX.CRead K (RC K) (.type "type") := ⟨x_crd T, x_cga T⟩
theorem ofc (T : Tx K mg sa sx) : ClX.CMet K (RC K) (.type "type") "swap" (cmP K (RC K) (.type "type") "swap") (SwG K) := cmB_ok (x_of T)
theorem ok_swap (T : Tx K mg sa sx) (hP : PF P) : FnR P w K mg base (CX P w) 8 (SwG K) (spSwap K) := by
  obtain ⟨oc, od, kV, doc, pm, an, cdv, ct, osl, lk', hcd⟩ := star_of (ws1 T) (x_ofst T)
  obtain ⟨fI, FI, bI, _⟩ := ok_init (P := P) (w := w) (base := base) T hP
  obtain ⟨fb, FB, bB⟩ := ok_bad (P := P) (w := w) (base := base) T hP
  have F := fn_of (CX := CX P w) (P := P) (w := w) (mg := mg) (base := base) (k := 7) (ps := ["cls", "n", "m"]) (sp := spSwap K) lk' hcd sc_swap (fun vs H Q E h => by obtain ⟨v1, v2, i1, i2, rfl, _⟩ := h; rfl) (fun A outer s H vs Q E hr h => by
    obtain ⟨v1, v2, i1, i2, rfl, h1, h2, q, qe⟩ := h
    refine ⟨_, (pss_cons (ps_if (PW.pt (pw_or (pt_not (pt_val (pe_cal (ok_is_short T) hr (by decide) (pa_cons (pv 1) pa_nil)))) (pw_or1 (pt_not (pt_val (pe_cal (ok_is_short T) hr (by decide) (pa_cons (pv 2) pa_nil))))))) (pss_one (ps_raise rfl (takes_of rfl rfl rfl rfl) (pmk_oex (exb T).oex (exb T).iC (exb T).tI FB (hr.mono (by decide)) bB .nil pass0 rfl (g_BadRenaming T) (pa_cons pe_int pa_nil)))) pss_nil)
    (pss_one (ps_ret (pe_makeL (i := 0) (m_Renaming T) FI (hr.mono (by decide)) rfl (Or.inl rfl) bI .nil (E := E) (passes_call (takes_of rfl rfl rfl rfl) (fun _ _ _ _ h => h)) (pa_cons (pe_ifExp (pt_cmpR op_eq (pv 1) (pv 2) (nomark _)) (pe_tup pa_nil) (pe_tup (pa_cons (pe_tup (pa_cons (pv 1) (pa_cons (pv 2) pa_nil))) (pa_cons (pe_tup (pa_cons (pv 2) (pa_cons (pv 1) pa_nil))) pa_nil)))) pa_nil))))), ?_⟩
    have raised : (shI i1 && shI i2) = false → ∀ a, H a = none → ∀ dx, upd H a (exo a (BC K) none) dx = none → dx ≠ a → E (.ref (BC K)) (some dx) (upd (del (upd (upd (upd H a (exo a (BC K) none)) dx (exd dx [("at", .int 0)])) a (exo a (BC K) (some dx))) a) dx (.xd [("at", .int 0)])) := fun hb a ha dx hdx ne => by
      rw [upd_ne ne] at hdx
      exact qe hb _ dx (bad_same ha hdx) upd_same
    refine ⟨_, rfl, v1, i1, rfl, h1, _, rfl, ?_⟩
    cases e1 : shI i1 with
    | false =>
      refine iteT (iteT ?_)
      refine ⟨(show 1 ≤ 1000 by decide), fun a ha => ⟨a, 0, rfl, by decide, by decide, upd_same, fun dx hdx ne => ⟨rfl, dx, [("at", .int 0)], upd_same, ?_, ?_, ?_⟩⟩⟩
      · rw [upd_ne ne, upd_same]
      · rw [upd_ne ne] at hdx; exact hdx
      · exact raised (by rw [e1]; rfl) a ha dx hdx ne
    | true =>
      refine iteF ⟨_, rfl, v2, i2, rfl, h2, _, rfl, ?_⟩
      cases e2 : shI i2 with
      | false =>
        refine iteT ?_
        refine ⟨(show 1 ≤ 1000 by decide), fun a ha => ⟨a, 0, rfl, by decide, by decide, upd_same, fun dx hdx ne => ⟨rfl, dx, [("at", .int 0)], upd_same, ?_, ?_, ?_⟩⟩⟩
        · rw [upd_ne ne, upd_same]
        · rw [upd_ne ne] at hdx; exact hdx
        · exact raised (by rw [e2]; simp) a ha dx hdx ne
      | true =>
        obtain ⟨a, rfl, sa⟩ := shI_nu e1
        obtain ⟨b, rfl, sb⟩ := shI_nu e2
        cases (show v1 = .int a from h1)
        cases (show v2 = .int b from h2)
        have q2 := q a b rfl rfl sa sb
        refine iteF ⟨rfl, ?_⟩
        refine ⟨_, rfl, _, rfl, rfl, _, rfl, ?_⟩
        refine dC (fun c => ?_) (fun c => ?_)
        · have e : a = b := by injection c
          have e0 : swp a b = [] := if_pos e
          refine ⟨sz1 (by simp), fun p hp => ?_⟩
          have v0 := val_swp a b
          rw [e0] at q2 v0
          exact made (th := .sq true []) (ps := []) ⟨p, [], rfl, SqT.of upd_same, rfl, Nat.zero_le _, fun q hq => by cases hq⟩ ⟨true, [], rfl, rfl⟩ v0 fun x H' s r => q2 x H' ((Same.new hp).trans s) r
        · have e : ¬ a = b := fun z => c (by rw [z])
          have e0 : swp a b = [(a, b), (b, a)] := if_neg e
          have v0 := val_swp a b
          rw [e0] at q2 v0
          refine ⟨_, rfl, _, rfl, sz1 (by simp), fun p1 hp1 => ⟨_, rfl, _, rfl, sz1 (by simp), fun p2 hp2 => ⟨sz1 (by simp), fun p hp => ?_⟩⟩⟩
          have s1 : Same H (upd H p1 (.tup (pv2 (a, b)))) := Same.new hp1
          have s2 : Same (upd H p1 (.tup (pv2 (a, b)))) (upd (upd H p1 (.tup (pv2 (a, b)))) p2 (.tup (pv2 (b, a)))) := Same.new hp2
          have s3 : Same (upd (upd H p1 (.tup (pv2 (a, b)))) p2 (.tup (pv2 (b, a)))) (upd (upd (upd H p1 (.tup (pv2 (a, b)))) p2 (.tup (pv2 (b, a)))) p (.tup [V.ref p1, V.ref p2])) := Same.new hp
          refine made (th := .sq true [itP (a, b), itP (b, a)]) (ps := [(a, b), (b, a)]) ⟨p, [(V.ref p1, itP (a, b)), (V.ref p2, itP (b, a))], rfl, SqT.of upd_same, rfl, (by show 2 ≤ 20; decide), fun q hq => ?_⟩ ⟨true, _, rfl, ?_⟩ v0 fun x H' s r => q2 x H' (((s1.trans s2).trans s3).trans s) r
          · rcases List.mem_cons.mp hq with z | hq
            · rw [z]; exact itP_at (s3 _ _ (s2 _ _ upd_same))
            · rw [List.mem_singleton.mp hq]; exact itP_at (s3 _ _ upd_same)
          · rw [List.map_cons, List.map_cons, List.map_nil, itP_pair ⟨sa, sb⟩, itP_pair ⟨sb, sa⟩]; rfl)
  refine fun A outer s H us vs Q E hr e0 r h => F.run A outer s H ⟨us, []⟩ us vs Q E hr e0 ?_ r h
  have hl : us.length = 3 := by
    rw [← r.length]
    obtain ⟨v1, v2, i1, i2, rfl, _⟩ := h; rfl
  match us, hl with
  | [_, _, _], _ => exact .of_eq rfl
end
end K29
/-! the bag that laws draw from -/
namespace Cm
open PySem PySem.Spec PyProof.Rows
open L2 hiding Same
def Bag (H : Hp) (p : Addr) : Prop := ∃ b m : Int, H p = some (.lst [V.int b, V.int m]) ∧ 0 ≤ b ∧ 0 ≤ m
theorem Bag.kp {H H' : Hp} {p q : Addr} (h : Bag H p) (k : Kp q H H') (n : p ≠ q) : Bag H' p := let ⟨b, m, e, r⟩ := h; ⟨b, m, k _ _ n e, r⟩
theorem Bag.same {H H' : Hp} {p : Addr} (h : Bag H p) (k : Same H H') : Bag H' p := let ⟨b, m, e, r⟩ := h; ⟨b, m, k _ _ e, r⟩
theorem Bag.ne {H : Hp} {p q : Addr} (h : Bag H p) (k : H q = none) : p ≠ q := let ⟨_, _, e, _⟩ := h; ne_of_none e k
theorem Bag.ne_tup {H : Hp} {p q : Addr} {xs : List V} (h : Bag H p) (e : H q = some (.tup xs)) : q ≠ p := by
  rintro rfl
  obtain ⟨b, m, e2, _⟩ := h
  rw [e] at e2
  cases e2
theorem Bag.ne_dT {H : Hp} {p q : Addr} {xs} (h : Bag H p) (e : H q = some (.dT xs)) : q ≠ p := by
  rintro rfl
  obtain ⟨b, m, e2, _⟩ := h
  rw [e] at e2
  cases e2
theorem Bag.ne_ins {H : Hp} {p q : Addr} {c d xs} (h : Bag H p) (e : H q = some (.ins c d xs)) : q ≠ p := by
  rintro rfl
  obtain ⟨b, m, e2, _⟩ := h
  rw [e] at e2
  cases e2
theorem cd {m : Int} (h0 : 0 < m) (h : m ≤ 1000000000) : CDivW 0 m :=
  ⟨h0, Nat.lt_of_lt_of_le (PySem.Flt.log2_lt_of (k := 30) (by decide) (show m.natAbs < 2 ^ 30 by omega)) (by decide)⟩
theorem cut_intsE (ns : List Int) (lo hi : Option Int) : ∃ ms : List Int, cutV (ns.map V.int) lo hi = ms.map V.int ∧ ms.length ≤ ns.length := by
  have h := cutV_length (ns.map V.int) lo hi
  unfold cutV at h ⊢
  rw [← List.map_drop, ← List.map_take] at h ⊢
  exact ⟨_, rfl, by simpa using h⟩
def spBag (K : PySem.W.Frag) : Sp := fun vs H Q _ => ∃ (a : Addr) (ns : List Int) (i : Int), vs = [.ref a, .int i] ∧ SqL K H a (ns.map V.int) ∧ 0 ≤ i ∧ i < 100 ∧ ∀ p H', H p = none → Same H H' → Bag H' p → Q (.ref p) H'
def spTake : Sp := fun vs H Q _ => ∃ p m, vs = [.ref p, .int m] ∧ Bag H p ∧ 0 < m ∧ m ≤ 1000000000 ∧ ∀ r H', 0 ≤ r → r < m → Kp p H H' → Bag H' p → Q (.int r) H'
def spOf (K : PySem.W.Frag) : Sp := fun vs H Q _ => ∃ p q xs, vs = [.ref p, .ref q] ∧ H q = some (.lst xs) ∧ 0 < xs.length ∧ xs.length ≤ 1000 ∧ Bag H p ∧ p ≠ q ∧ ∀ v H', v ∈ xs → Kp p H H' → Bag H' p → Q v H'
end Cm
namespace K29
open PySem PySem.Spec PyProof.Rows Cm
open L2 hiding Same
section
variable {P : Program} {w : World} {K : PySem.W.Frag} {mg : Str → Option Value} {base : Heap} {sa : Addr} {sx : List Int}
theorem ok_l_bag (T : Tx K mg sa sx) : Cal P w K mg base 1 "_law_bag" (Cm.spBag K) := by
  obtain ⟨fd, F⟩ := f_l_bag T
  refine ⟨_, fd, ["_law_script", "_law_at"], fnok F sc_l_bag (fun vs H Q E h => ?_) (fun cdv A outer s H vs Q E hr h => ?_), F.bindsN fun _ _ _ _ _ _ us hl => match us, hl with | [_, _], _ => rfl, g__law_bag T, F.kp⟩
  · obtain ⟨a, ns, i, rfl, _⟩ := h; rfl
  · obtain ⟨a, ns, i, rfl, hS, i0, i1, k⟩ := h
    refine ⟨_, (pss_cons (ps_set (i := 2) sc_l_bag.nd rfl (by first | exact Or.inl rfl | exact Or.inr rfl) (pe_ifExp (pt_cmpR op_lt (pv 1) (pe_callB (id := "len") call_len_seq rfl (n_len T) (by decide +kernel) (pa_cons (pv 0) pa_nil)) (nomark _)) (pe_ix ix_list (pv 0) (pv 1) (fun _ _ => rfl)) pe_int))
    (pss_cons (ps_set (i := 3) sc_l_bag.nd rfl (by first | exact Or.inl rfl | exact Or.inr rfl) (pe_op op_add (pe_op op_mul pe_int (pv 1)) pe_int))
    (pss_cons (ps_for PassesOwn.never rfl (pi_enum rfl (n_enumerate T) (pa_cons (pe_slice sl_list (pv 0) po_none (po_some pe_int)) pa_nil)) (pg_tup (by rfl) (pgs_cons (pg_name (i := 4) sc_l_bag.nd rfl (by first | exact Or.inl rfl | exact Or.inr rfl)) (pgs_cons (pg_name (i := 5) sc_l_bag.nd rfl (by first | exact Or.inl rfl | exact Or.inr rfl)) pgs_nil)))
      (pss_one (ps_set (i := 3) sc_l_bag.nd rfl (by first | exact Or.inl rfl | exact Or.inr rfl) (pe_op op_mod (pe_callTy (T := "int") call_int1 rfl (n_int T) (by decide +kernel) (pa_cons (pe_op op_add (pe_op op_add (pe_op op_add (pe_op op_mul (pv 3) pe_int) (pe_op op_mod (pe_callTy (T := "int") call_int1 rfl (n_int T) (by decide +kernel) (pa_cons (pv 5) pa_nil)) pe_int)) (pe_op op_mul pe_int (pv 4))) pe_int) pa_nil)) pe_int))))
    (pss_one (ps_ret (pe_lst (pa_cons (pe_ifExp (pt_cmpR op_ge (pe_callB (id := "abs") call_abs rfl (n_abs T) (by decide +kernel) (pa_cons (pv 2) pa_nil)) (pe_op op_pow pe_int pe_int) (nomark _)) (pe_callB (id := "abs") call_abs rfl (n_abs T) (by decide +kernel) (pa_cons (pv 2) pa_nil)) pe_int) (pa_cons (pv 3) pa_nil)))))))), ?_⟩
    refine ⟨_, rfl, _, rfl, a, _, rfl, .inl hS, _, _, rfl, rfl, _, rfl, dC (fun hi => have hi2 : i.toNat < ns.length := (by rw [List.length_map] at hi; omega); ⟨_, rfl, _, rfl, a, _, i, V.int (ns[i.toNat]'hi2), rfl, rfl, hS, at_of (j := i.toNat) (by omega) (by simp [hi2]), ?_⟩) (fun hi => ?_)⟩
    all_goals
      refine ⟨_, rfl, _, _, rfl, rfl, .inl ⟨by decide, by decide⟩, _, _, rfl, rfl, ?_⟩
      refine ⟨_, rfl, _, rfl, a, _, rfl, hS, fun L hL => ⟨L, _, rfl, SqL.of upd_same, ?_⟩⟩
      obtain ⟨ms, em, _⟩ := cut_intsE ns none (some 40)
      rw [em]
      refine for_it (walk_enum (K := K) (a := L) (xs := ms.map V.int)) (fun j σ H' => ∃ (c m : Int) (k4 k5 : Option V), σ = [some (.ref a), some (.int i), some (.int c), some (.int m), k4, k5] ∧ 0 ≤ m ∧ Same H H' ∧ H' L = some (.lst (ms.map V.int))) ⟨_, _, none, none, rfl, by omega, Same.new hL, upd_same⟩ (fun j σ H' _ ⟨_, _, _, _, _, _, _, z⟩ => SqL.of z) ?_ ?_
      · rintro j x σ G G' hj ⟨c, m, k4, k5, rfl, m0, sG, gL⟩ ⟨Tp, x1, x2, rfl, hT, rfl, ex1, ex2⟩
        cases (Option.some.inj ex1)
        have ex3 : (ms.map V.int)[j]? = some x2 := ex2
        obtain ⟨hj3, rfl⟩ := map_at ex3
        refine ⟨Tp, _, rfl, SqT.of upd_same, rfl, _, _, rfl, _, _, rfl, rfl, ?_⟩
        refine ⟨_, rfl, _, _, rfl, rfl, .inr ⟨by decide, by decide⟩, _, rfl, .inl ⟨_, rfl, _, _, rfl, rfl, (by show (0 : Int) < 2147483549; decide), _, _, rfl, rfl, _, rfl, _, _, rfl, rfl, .inl ⟨by decide, by decide⟩, _, _, rfl, rfl, _, _, rfl, rfl, .inl ⟨_, rfl, _, _, rfl, rfl, (by show (0 : Int) < 2147483549; decide), ?_⟩⟩⟩
        exact ⟨_, _, _, _, rfl, Int.emod_nonneg _ (by decide), sG.mut (sG.free hT), (upd_ne (ne_of_none gL hT)).trans gL⟩
      · rintro σ G ⟨c, m, k4, k5, rfl, m0, sG, gL⟩
        refine ⟨_, rfl, _, rfl, _, _, rfl, rfl, ⟨by decide, by decide, by decide⟩, _, _, rfl, rfl, _, rfl, dC (fun hc => ?_) (fun hc => ?_)⟩
        · refine ⟨_, rfl, _, rfl, _, rfl, sz1 (by simp), fun q hq => ?_⟩
          exact k q _ (sG.free hq) (sG.mut (sG.free hq)) ⟨_, m, upd_same, by split <;> omega, m0⟩
        · refine ⟨_, rfl, sz1 (by simp), fun q hq => ?_⟩
          exact k q _ (sG.free hq) (sG.mut (sG.free hq)) ⟨0, m, upd_same, Int.le_refl _, m0⟩
theorem ok_l_take (T : Tx K mg sa sx) : Cal P w K mg base 1 "_law_take" Cm.spTake := by
  obtain ⟨fd, F⟩ := f_l_take T
  refine ⟨_, fd, ["_law_bag_here", "_law_many"], fnok F sc_l_take (fun vs H Q E h => ?_) (fun cdv A outer s H vs Q E hr h => ?_), F.bindsN fun _ _ _ _ _ _ us hl => match us, hl with | [_, _], _ => rfl, g__law_take T, F.kp⟩
  · obtain ⟨p, m, rfl, _⟩ := h; rfl
  · obtain ⟨p, m, rfl, ⟨b, x, hp, b0, x0⟩, m0, m1, k⟩ := h
    refine ⟨_, (pss_cons (ps_if (pt_cmpR op_gt (pe_ix ix_list (pv 0) pe_int (fun _ _ => rfl)) pe_int (nomark _)) (pss_cons (ps_set (i := 2) sc_l_take.nd rfl (by first | exact Or.inl rfl | exact Or.inr rfl) (pe_op op_mod (pe_callTy (T := "int") call_int1 rfl (n_int T) (by decide +kernel) (pa_cons (pe_ix ix_list (pv 0) pe_int (fun _ _ => rfl)) pa_nil)) (pv 1)))
      (pss_cons (ps_asg (pe_op op_fdivW (pe_ix ix_list (pv 0) pe_int (fun _ _ => rfl)) (pv 1)) (pg_sub (pv 0) pe_int set_list))
      (pss_one (ps_ret (pv 2))))) pss_nil)
    (pss_cons (ps_asg (pe_op op_mod (pe_callTy (T := "int") call_int1 rfl (n_int T) (by decide +kernel) (pa_cons (pe_op op_add (pe_op op_mul (pe_ix ix_list (pv 0) pe_int (fun _ _ => rfl)) pe_int) pe_int) pa_nil)) pe_int) (pg_sub (pv 0) pe_int set_list))
    (pss_one (ps_ret (pe_op op_mod (pe_op op_fdivW (pe_op op_mod (pe_callTy (T := "int") call_int1 rfl (n_int T) (by decide +kernel) (pa_cons (pe_op op_mul (pe_op op_fdivW (pe_ix ix_list (pv 0) pe_int (fun _ _ => rfl)) pe_int) pe_int) pa_nil)) pe_int) pe_int) (pv 1)))))), ?_⟩
    have ix : ∀ {H' : Hp} {xs : List V}, H' p = some (.lst xs) → SqL K H' p xs := fun h => SqL.of h
    refine ⟨_, rfl, p, _, 0, _, rfl, rfl, ix hp, rfl, _, _, rfl, rfl, _, rfl, dC (fun hb => ?_) (fun hb => ?_)⟩
    · refine ⟨_, rfl, p, _, 0, _, rfl, rfl, ix hp, rfl, .inl ⟨_, rfl, _, rfl, _, _, rfl, rfl, m0, ?_⟩⟩
      refine ⟨_, rfl, p, _, 0, _, rfl, rfl, ix hp, rfl, _, rfl, _, _, rfl, rfl, cd m0 m1, _, rfl, p, _, 0, 0, rfl, rfl, hp, rfl, ?_⟩
      exact ⟨_, rfl, k _ _ (Int.emod_nonneg _ (by omega)) (Int.emod_lt_of_pos _ m0) Kp.refl.at ⟨_, _, upd_same, Int.ediv_nonneg b0 (by omega), x0⟩⟩
    · refine ⟨_, rfl, p, _, 1, _, rfl, rfl, ix hp, rfl, _, _, rfl, rfl, .inr ⟨by decide, by decide⟩, _, _, rfl, rfl, .inl ⟨_, rfl, _, _, rfl, rfl, (by show (0 : Int) < 2147483587; decide), _, rfl, p, _, 1, 1, rfl, rfl, hp, rfl, ?_⟩⟩
      refine ⟨_, rfl, p, _, 1, _, rfl, rfl, ix upd_same, rfl, _, _, rfl, rfl, cd (by decide) (by decide), _, _, rfl, rfl, .inr ⟨by decide, by decide⟩, .inl ⟨_, rfl, _, _, rfl, rfl, (by show (0 : Int) < 2147483629; decide), _, _, rfl, rfl, cd (by decide) (by decide), _, rfl, _, _, rfl, rfl, m0, ?_⟩⟩
      exact k _ _ (Int.emod_nonneg _ (by omega)) (Int.emod_lt_of_pos _ m0) Kp.refl.at ⟨_, _, upd_same, b0, Int.emod_nonneg _ (by decide)⟩
theorem ok_l_of (T : Tx K mg sa sx) : Cal P w K mg base 2 "_law_of" (Cm.spOf K) := by
  obtain ⟨fd, F⟩ := f_l_of T
  refine ⟨_, fd, ["_law_bag_here", "_law_some"], fnok F sc_l_of (fun vs H Q E h => ?_) (fun cdv A outer s H vs Q E hr h => ?_), F.bindsN fun _ _ _ _ _ _ us hl => match us, hl with | [_, _], _ => rfl, g__law_of T, F.kp⟩
  · obtain ⟨p, q, xs, rfl, _⟩ := h; rfl
  · obtain ⟨p, q, xs, rfl, hq, x0, x1, hB, n, k⟩ := h
    refine ⟨_, (pss_one (ps_ret (pe_ix ix_list (pv 1) (pe_cal (ok_l_take T) hr (by decide) (pa_cons (pv 0) (pa_cons (pe_callB (id := "len") call_len_seq rfl (n_len T) (by decide +kernel) (pa_cons (pv 1) pa_nil)) pa_nil))) (fun _ _ => rfl)))), ?_⟩
    refine ⟨_, rfl, _, rfl, _, rfl, q, _, rfl, .inl (SqL.of hq), p, (xs.length : Int), rfl, hB, by omega, by omega, fun r H1 r0 r1 k1 b1 => ?_⟩
    have hr2 : r.toNat < xs.length := by omega
    exact ⟨q, xs, r, xs[r.toNat], rfl, rfl, SqL.of (k1 _ _ (Ne.symm n) hq), at_of (j := r.toNat) (by omega) (by simp [hr2]), k _ _ (List.getElem_mem hr2) k1 b1⟩
end
end K29
namespace K29
open PySem PySem.Spec PyProof.Rows Cm
open L2 hiding Same
/-! ### five numbers -/
def Nums (ns : List Int) : Prop := ns.Nodup ∧ ∀ n ∈ ns, sh n = true
def spNums : Sp := fun vs H Q _ => ∃ p, vs = [.ref p, .int 5] ∧ Bag H p ∧ ∀ ns q H', ns.length = 5 → Nums ns → Kp p H H' → Bag H' p → H' q = some (.lst (ns.map V.int)) → H q = none → Q (.ref q) H'
theorem sh_ok {k : Int} (h1 : -999999999 ≤ k) (h2 : k ≤ 999999999) : sh k = true := by
  unfold sh
  apply decide_eq_true
  split <;> omega
theorem sh_lo {k : Int} (h : sh k = true) : -999999999 ≤ k ∧ k ≤ 999999999 := by
  unfold sh at h
  have := of_decide_eq_true h
  split at this <;> omega
theorem bag_list {H : Hp} {p a : Addr} {ns : List Int} (hB : Bag H p) (ha : H a = some (.lst (ns.map V.int))) (h : ns.length ≠ 2) : a ≠ p := by
  rintro rfl
  obtain ⟨b, m, e, _⟩ := hB
  rw [ha] at e
  have e2 : ns.map V.int = [V.int b, V.int m] := by injection e with e; injection e
  have := congrArg List.length e2
  rw [List.length_map] at this
  exact h this
theorem rg_take (i : Nat) : ((List.range (i + 1)).map fun k : Nat => (k : Int)) = ((List.range i).map fun k : Nat => (k : Int)) ++ [(i : Int)] := by rw [List.range_succ, List.map_append]; rfl
theorem spare_ex {ns : List Int} (h : ns.length < 5) : ∃ s r, (((List.range 5).map fun k : Nat => (k : Int)).filter fun n => decide (n ∉ ns)) = s :: r ∧ s ∉ ns ∧ 0 ≤ s ∧ s < 5 := by
  cases e : (((List.range 5).map fun k : Nat => (k : Int)).filter fun n => decide (n ∉ ns)) with
  | nil =>
    rw [List.filter_eq_nil_iff] at e
    have := sub_len (xs := (List.range 5).map fun k : Nat => (k : Int)) (ys := ns) (by decide) fun x hx => by
      have := e x hx
      simpa using this
    simp at this; omega
  | cons s r =>
    have hm : s ∈ (((List.range 5).map fun k : Nat => (k : Int)).filter fun n => decide (n ∉ ns)) := by rw [e]; exact List.mem_cons_self
    obtain ⟨h1, h2⟩ := List.mem_filter.mp hm
    obtain ⟨k, hk, rfl⟩ := List.mem_map.mp h1
    have := List.mem_range.mp hk
    exact ⟨_, r, rfl, of_decide_eq_true h2, by omega, by omega⟩
section
variable {P : Program} {w : World} {K : PySem.W.Frag} {mg : Str → Option Value} {base : Heap} {sa : Addr} {sx : List Int}
theorem ok_l_numbers (T : Tx K mg sa sx) : Cal P w K mg base 3 "_law_numbers" spNums := by
  obtain ⟨fd, F⟩ := f_l_numbers T
  refine ⟨_, fd, ["_law_bag_here", "_law_many"], fnok F sc_l_numbers (fun vs H Q E h => ?_) (fun cdv A outer s H vs Q E hr h => ?_), F.bindsN fun _ _ _ _ _ _ us hl => match us, hl with | [_, _], _ => rfl, g__law_numbers T, F.kp⟩
  · obtain ⟨p, rfl, _⟩ := h; rfl
  · obtain ⟨p, rfl, hB, k⟩ := h
    refine ⟨_, (pss_cons (ps_set (i := 2) sc_l_numbers.nd rfl (by first | exact Or.inl rfl | exact Or.inr rfl) (pe_lst pa_nil))
    (pss_cons (ps_for PassesOwn.never rfl (pi_range1 rfl (n_range T) (pa_cons (pv 1) pa_nil)) (pg_name (i := 3) sc_l_numbers.nd rfl (by first | exact Or.inl rfl | exact Or.inr rfl))
      (pss_cons (ps_set (i := 4) sc_l_numbers.nd rfl (by first | exact Or.inl rfl | exact Or.inr rfl) (pe_cal (ok_l_of T) hr (by decide) (pa_cons (pv 0) (pa_cons (pe_lst (pa_cons (pe_cal (ok_l_take T) hr (by decide) (pa_cons (pv 0) (pa_cons pe_int pa_nil))) (pa_cons (pe_cal (ok_l_take T) hr (by decide) (pa_cons (pv 0) (pa_cons pe_int pa_nil))) (pa_cons (pe_op op_sub (pe_un un_neg pe_int) (pe_cal (ok_l_take T) hr (by decide) (pa_cons (pv 0) (pa_cons pe_int pa_nil)))) pa_nil)))) pa_nil))))
      (pss_cons (ps_setLc (i := 5) (own := [("_law_one", 6)]) (g := gName 6) rfl sc_l_numbers.nd rfl rfl (sw_true rfl rfl rfl (by decide +kernel)) (pi_range1 rfl (n_range T) (pa_cons (pv 1) pa_nil)) (blkOk_by (own := [("_law_one", 6)]) (N := ["_law_bag_here", "_law_many", "_law_found", "_law_k", "_law_number", "_law_spare", "_law_one"]) (sc := defScope s_l_numbers) (by decide +kernel)) (fun _ _ _ _ _ => pg_name (i := 6) sc_l_numbers.nd rfl (by first | exact Or.inl rfl | exact Or.inr rfl)) (fun _ _ _ _ _ => (pts_one (pt_cmpR (show OpR _ _ (rIn K true) from op_notIn_seq) (pv 6) (pv 2) (by rfl)))) (fun _ _ _ _ _ => (pv 6)))
      (pss_one (ps_expr (pe_bm PySem.F.plainAttrs_list PySem.F.slot_list_append PySem.F.type_list_append mt_append (pv 2) (pa_cons (pe_ifExp (pt_cmpR op_notIn_seq (pv 4) (pv 2) (by rfl)) (pv 4) (pe_ix ix_list (pv 5) pe_int (fun _ _ => rfl))) pa_nil)))))))
    (pss_one (ps_ret (pv 2))))), ?_⟩
    refine ⟨sz1 (by simp), fun f hf => ?_⟩
    have nf : p ≠ f := hB.ne hf
    refine ⟨_, rfl, 5, rfl, by decide, by decide, ?_⟩
    refine for_range (lo := 0) (n := (5 : Int).toNat) (fun i σ H' => ∃ (ns : List Int) (v3 v4 v5 v6 : Option V), σ = [some (.ref p), some (.int 5), some (.ref f), v3, v4, v5, v6] ∧ Kp p H H' ∧ Bag H' p ∧ H' f = some (.lst (ns.map V.int)) ∧ ns.length = i ∧ Nums ns)
      ⟨[], _, _, _, _, rfl, (Cm.Same.new hf).kp, hB.same (Same.new hf), upd_same, rfl, List.nodup_nil, fun n hn => by cases hn⟩ ?_ ?_
    · rintro i σ H1 hi ⟨ns, v3, v4, v5, v6, rfl, k1, b1, hF, ln, nd, hsh⟩
      have hi5 : i < 5 := hi
      refine ⟨_, rfl, _, rfl, p, 4, rfl, b1, by decide, by decide, fun r1 G1 l1 u1 k2 b2 => ⟨_, rfl, p, 1000000000, rfl, b2, by decide, by decide, fun r2 G2 l2 u2 k3 b3 => ⟨_, rfl, _, rfl, p, 999999999, rfl, b3, by decide, by decide, fun r3 G3 l3 u3 k4 b4 => ⟨_, _, rfl, rfl, sz1 (by simp), fun q hq => ?_⟩⟩⟩⟩
      refine ⟨p, q, _, rfl, upd_same, by simp, by simp, b4.same (Same.new hq), b4.ne hq, fun v G4 hv k5 b5 => ?_⟩
      have kA : Kp p H1 G4 := (((k2.trans k3).trans k4).trans (Same.new hq).kp).trans k5
      obtain ⟨z, rfl, hz⟩ : ∃ z, v = .int z ∧ sh z = true := by
        rcases List.mem_cons.mp hv with e | hv
        · exact ⟨r1, e, sh_ok (by omega) (by omega)⟩
        rcases List.mem_cons.mp hv with e | hv
        · exact ⟨r2, e, sh_ok (by omega) (by omega)⟩
        · exact ⟨_, List.mem_singleton.mp hv, sh_ok (by omega) (by omega)⟩
      have hF4 := kA _ _ nf.symm hF
      refine ⟨_, rfl, 5, rfl, by decide, by decide, fun D hD => ?_⟩
      have fin : ∀ (G6 : Hp) (y : Int) (v4 v5 v6 : Option V), Same G4 G6 → y ∉ ns → sh y = true → ∃ (ns' : List Int) (w3 w4 w5 w6 : Option V), [some (V.ref p), some (.int 5), some (.ref f), some (.int (0 + (i : Int))), v4, v5, v6] = [some (.ref p), some (.int 5), some (.ref f), w3, w4, w5, w6] ∧ Kp p H (upd G6 f (.lst (ns.map V.int ++ [V.int y]))) ∧ Bag (upd G6 f (.lst (ns.map V.int ++ [V.int y]))) p ∧ (upd G6 f (.lst (ns.map V.int ++ [V.int y]))) f = some (.lst (ns'.map V.int)) ∧ ns'.length = i + 1 ∧ Nums ns' := fun G6 y v4 v5 v6 s6 hy sy => by
        refine ⟨ns ++ [y], _, _, _, _, rfl, kmut ((k1.trans kA).trans s6.kp) hf, ?_, by rw [upd_same, List.map_append]; rfl, by simp [ln], nodup_app nd hy, fun n hn => ?_⟩
        · obtain ⟨b, m, e, r⟩ := b5.same s6
          exact ⟨b, m, by rw [upd_ne nf]; exact e, r⟩
        · rcases List.mem_append.mp hn with hn | hn
          · exact hsh n hn
          · rw [List.mem_singleton.mp hn]; exact sy
      refine lc_range (lo := 0) (n := (5 : Int).toNat) (fun j G => Same G4 G ∧ G D = some (.lst ((((List.range j).map fun k : Nat => (k : Int)).filter fun n => decide (n ∉ ns)).map V.int))) ⟨Same.new hD, upd_same⟩ ?_ ?_
      · rintro j G hj ⟨sm, hS⟩
        have e0 : (0 : Int) + (j : Int) = j := by omega
        rw [e0]
        refine ⟨rfl, _, rfl, _, rfl, f, _, rfl, .inl (SqL.of (sm _ _ hF4)), rfl, flat_ints _, _, rfl, ?_⟩
        rw [inV_ints]
        refine uC (fun c => ?_) (fun c => ?_)
        · refine ⟨_, rfl, _, hS, sz2 ?_, sm.mut hD, ?_⟩
          · rw [List.length_map]
            have h1 := List.length_filter_le (fun n => decide (n ∉ ns)) ((List.range j).map fun k : Nat => (k : Int))
            rw [List.length_map, List.length_range] at h1
            have h2 : j < 5 := hj
            omega
          · rw [upd_same, rg_take, List.filter_append, List.filter_cons_of_pos (by simpa using c), List.filter_nil, List.map_append]; rfl
        · refine ⟨sm, ?_⟩
          rw [rg_take, List.filter_append, List.filter_cons_of_neg (by simpa using c), List.filter_nil, List.append_nil]; exact hS
      · rintro G ⟨sm, hS⟩
        have hF5 := sm _ _ hF4
        refine ⟨_, rfl, .inl ⟨rfl, _, SqL.of hF5⟩, _, rfl, _, rfl, f, _, rfl, .inl (SqL.of hF5), rfl, flat_ints _, _, rfl, ?_⟩
        rw [inV_ints]
        refine uC (fun c => ?_) (fun c => ?_)
        · exact ⟨_, rfl, f, _, _, rfl, rfl, hF5, sz2 (by rw [List.length_map]; omega), fin G z _ _ _ sm c hz⟩
        · obtain ⟨s, r, es, hs, s0, s5⟩ := spare_ex (ns := ns) (by omega)
          have hS2 : G D = some (.lst ((s :: r).map V.int)) := by rw [← es]; exact hS
          exact ⟨_, rfl, D, _, 0, .int s, rfl, rfl, SqL.of hS2, at_int (ns := s :: r) (i := 0) (by simp), f, _, _, rfl, rfl, hF5, sz2 (by rw [List.length_map]; omega), fin G s _ _ _ sm hs (sh_ok (by omega) (by omega))⟩
    · rintro σ H1 ⟨ns, v3, v4, v5, v6, rfl, k1, b1, hF, ln, nd⟩
      exact ⟨_, rfl, k ns f H1 ln nd k1 b1 hF hf⟩
end
end K29
namespace K29
open PySem PySem.Spec PyProof.Rows Cm
open L2 hiding Same
/-! ### pairs drawn -/
def spPairs (K : PySem.W.Frag) : Sp := fun vs H Q _ => ∃ p a ns, vs = [.ref p, .ref a] ∧ Bag H p ∧ H a = some (.lst (ns.map V.int)) ∧ ns.length = 5 ∧ Nums ns ∧
  ∀ (l : PL) q H', Kp p H H' → Bag H' p → H' q = some (.lst (rfp l)) → q ≠ p → PrsAt H' l → l.length ≤ 5 → Val (prs l) → ShP (prs l) → Q (.ref q) H'
theorem erase_perm {xs : List Int} {i : Nat} (hi : i < xs.length) : (xs[i] :: xs.eraseIdx i).Perm xs := by
  induction xs generalizing i with
  | nil => simp at hi
  | cons x xs ih =>
    cases i with
    | zero => simp
    | succ i =>
      have hi2 : i < xs.length := by simpa using hi
      have h := ih (i := i) hi2
      simp only [List.getElem_cons_succ, List.eraseIdx_cons_succ]
      exact (List.Perm.swap x xs[i] _).trans (h.cons x)
theorem erase_map {xs : List Int} {i : Nat} : (xs.map V.int).eraseIdx i = (xs.eraseIdx i).map V.int := by
  induction xs generalizing i with
  | nil => rfl
  | cons x xs ih => cases i with
    | zero => rfl
    | succ i => simp only [List.map_cons, List.eraseIdx_cons_succ, ih]
theorem idx_ok {r : Int} {n : Nat} (h0 : 0 ≤ r) (h1 : r < n) : seqIndex? r n = some r.toNat := by
  unfold seqIndex?
  have e : (if r < 0 then r + (n : Int) else r) = r := if_neg (by omega)
  simp only [e]
  rw [if_pos]
  simp [h0, h1]
theorem PrsAt.kp {H H' : Hp} {p : Addr} {l : PL} (h : PrsAt H l) (hB : Bag H p) (k : Kp p H H') : PrsAt H' l := fun e he => k _ _ (hB.ne_tup (h e he)) (h e he)
theorem PrsAt.lst {H : Hp} {c : Addr} {o : HO} {xs : List V} {l : PL} (h : PrsAt H l) (hc : H c = some (.lst xs)) : PrsAt (upd H c o) l := fun e he => by
  have := h e he
  rw [upd_ne (fun z => by rw [z, hc] at this; cases this)]; exact this
theorem Bag.upd {H : Hp} {p c : Addr} {o : HO} (h : Bag H p) (n : p ≠ c) : Bag (upd H c o) p := let ⟨b, m, e, r⟩ := h; ⟨b, m, by rw [upd_ne n]; exact e, r⟩
theorem perm_pop {A F L : List Int} {i : Nat} (hi : i < F.length) (h : (A ++ F).Perm L) : ((A ++ [F[i]]) ++ F.eraseIdx i).Perm L := by
  rw [List.append_assoc]
  exact ((erase_perm hi).append_left A).trans h
theorem mem_erase {xs : List Int} {i : Nat} {x : Int} (h : x ∈ xs.eraseIdx i) : x ∈ xs := (List.eraseIdx_sublist xs i).mem h
section
variable {P : Program} {w : World} {K : PySem.W.Frag} {mg : Str → Option Value} {base : Heap} {sa : Addr} {sx : List Int}
theorem ok_l_pairs (T : Tx K mg sa sx) : Cal P w K mg base 3 "_law_pairs" (spPairs K) := by
  obtain ⟨fd, F⟩ := f_l_pairs T
  refine ⟨_, fd, ["_law_bag_here", "_law_nums"], fnok F sc_l_pairs (fun vs H Q E h => ?_) (fun cdv A outer s H vs Q E hr h => ?_), F.bindsN fun _ _ _ _ _ _ us hl => match us, hl with | [_, _], _ => rfl, g__law_pairs T, F.kp⟩
  · obtain ⟨p, a, ns, rfl, _⟩ := h; rfl
  · obtain ⟨p, a, ns, rfl, hB, ha, ln, ⟨nd, hsh⟩, q⟩ := h
    refine ⟨_, (pss_cons (ps_setLc (i := 2) (own := [("_law_n", 3)]) (g := gName 3) rfl sc_l_pairs.nd rfl rfl (sw_true rfl rfl rfl (by decide +kernel)) (pi_list (pv 1)) (blkOk_by (own := [("_law_n", 3)]) (N := ["_law_bag_here", "_law_nums", "_law_left", "_law_n", "_law_firsts", "_law_seconds", "_law_pairs_here", "_law_k"]) (sc := defScope s_l_pairs) (by decide +kernel)) (fun _ _ _ _ _ => pg_name (i := 3) sc_l_pairs.nd rfl (by first | exact Or.inl rfl | exact Or.inr rfl)) (fun _ _ _ _ _ => pts_nil) (fun _ _ _ _ _ => (pv 3)))
    (pss_cons (ps_while PassesOwn.never (PW.pt (pw_and (pt_cmpR op_gt (pe_callB (id := "len") call_len_seq rfl (n_len T) (by decide +kernel) (pa_cons (pv 2) pa_nil)) pe_int (nomark _)) (pw_and1 (pt_cmpR op_eq (pe_cal (ok_l_take T) hr (by decide) (pa_cons (pv 0) (pa_cons pe_int pa_nil))) pe_int (nomark _)))))
      (pss_one (ps_expr (pe_bm PySem.F.plainAttrs_list PySem.F.slot_list_pop PySem.F.type_list_pop mt_popAt (pv 2) (pa_cons (pe_cal (ok_l_take T) hr (by decide) (pa_cons (pv 0) (pa_cons (pe_callB (id := "len") call_len_seq rfl (n_len T) (by decide +kernel) (pa_cons (pv 2) pa_nil)) pa_nil))) pa_nil)))))
    (pss_cons (ps_par3 (i := 4) (j := 5) (l := 6) rfl sc_l_pairs.nd rfl rfl rfl (by decide) (by decide) (by decide) rfl rfl rfl (pa_cons (pe_callTy (T := "list") call_list_of rfl (n_list T) (by decide +kernel) (pa_cons (pv 2) pa_nil)) (pa_cons (pe_callTy (T := "list") call_list_of rfl (n_list T) (by decide +kernel) (pa_cons (pv 2) pa_nil)) (pa_cons (pe_lst pa_nil) pa_nil))) (by rfl))
    (pss_cons (ps_for PassesOwn.never rfl (pi_range1 rfl (n_range T) (pa_cons (pe_callB (id := "len") call_len_seq rfl (n_len T) (by decide +kernel) (pa_cons (pv 2) pa_nil)) pa_nil)) (pg_name (i := 7) sc_l_pairs.nd rfl (by first | exact Or.inl rfl | exact Or.inr rfl))
      (pss_one (ps_expr (pe_bm PySem.F.plainAttrs_list PySem.F.slot_list_append PySem.F.type_list_append mt_append (pv 6) (pa_cons (pe_tup (pa_cons (pe_bm PySem.F.plainAttrs_list PySem.F.slot_list_pop PySem.F.type_list_pop mt_popAt (pv 4) (pa_cons (pe_cal (ok_l_take T) hr (by decide) (pa_cons (pv 0) (pa_cons (pe_callB (id := "len") call_len_seq rfl (n_len T) (by decide +kernel) (pa_cons (pv 4) pa_nil)) pa_nil))) pa_nil)) (pa_cons (pe_bm PySem.F.plainAttrs_list PySem.F.slot_list_pop PySem.F.type_list_pop mt_popAt (pv 5) (pa_cons (pe_cal (ok_l_take T) hr (by decide) (pa_cons (pv 0) (pa_cons (pe_callB (id := "len") call_len_seq rfl (n_len T) (by decide +kernel) (pa_cons (pv 5) pa_nil)) pa_nil))) pa_nil)) pa_nil))) pa_nil)))))
    (pss_one (ps_ret (pv 6))))))), ?_⟩
    refine ⟨_, rfl, a, rfl, ⟨_, SqL.of ha⟩, fun L hL => ?_⟩
    have npL : p ≠ L := hB.ne hL
    refine lc_list (K := K) (xs := ns.map V.int) (fun i H' => Same H H' ∧ H' L = some (.lst ((ns.take i).map V.int))) ⟨Same.new hL, upd_same⟩ (fun i H' _ h => SqL.of (h.1 _ _ ha)) ?_ ?_
    · rintro i v H' hi ⟨sm, hS⟩
      obtain ⟨hi2, rfl⟩ := map_at hi
      refine ⟨rfl, _, rfl, _, hS, sz2 (by rw [List.length_map, List.length_take]; omega), sm.mut hL, ?_⟩
      rw [upd_same, take_snoc hi2, List.map_append]; rfl
    · rintro H1 ⟨s1, hL1⟩
      rw [List.take_of_length_le (by rw [List.length_map]; exact Nat.le_refl _)] at hL1
      refine while_by (fun σ G => ∃ L1 : List Int, σ = [some (.ref p), some (.ref a), some (.ref L), none, none, none, none, none] ∧ Kp p H G ∧ Bag G p ∧ G L = some (.lst (L1.map V.int)) ∧ L1.Nodup ∧ (∀ n ∈ L1, sh n = true) ∧ L1.length ≤ 5) (fun σ G => match G L with | some (.lst xs) => xs.length | _ => 0)
        ⟨ns, rfl, s1.kp, hB.same s1, hL1, nd, hsh, by omega⟩ ?_ ?_
      · rintro σ G ⟨L1, rfl, k1, b1, hG, nd1, sh1, ll⟩
        refine ⟨_, rfl, L, _, rfl, .inl (SqL.of hG), _, _, rfl, rfl, _, rfl, dC (fun c => ⟨_, rfl, p, 4, rfl, b1, by decide, by decide, fun r G2 h0 h1 k2 b2 => ⟨rfl, _, rfl, dC (fun c2 => ?g1) (fun c2 => ?g2)⟩⟩) (fun c => ?g3)⟩
        case g1 =>
          have hG2 := k2 _ _ npL.symm hG
          have lp : 0 < L1.length := by rw [List.length_map] at c; omega
          refine ⟨_, rfl, .inl ⟨rfl, _, SqL.of hG2⟩, _, rfl, _, rfl, L, _, rfl, .inl (SqL.of hG2), p, _, rfl, b2, by rw [List.length_map]; omega, by rw [List.length_map]; omega, fun r3 G3 g0 g1 k3 b3 => ?_⟩
          rw [List.length_map] at g1
          have hr : r3.toNat < L1.length := by omega
          have hG3 := k3 _ _ npL.symm hG2
          refine ⟨L, _, r3, r3.toNat, V.int L1[r3.toNat], rfl, rfl, hG3, by omega, by omega, idx_ok g0 (by rw [List.length_map]; exact g1), by rw [List.getElem?_map, List.getElem?_eq_getElem hr]; rfl, ⟨L1.eraseIdx r3.toNat, rfl, kmut ((k1.trans k2).trans k3) hL, ?_, by rw [upd_same, erase_map], (List.eraseIdx_sublist L1 _).nodup nd1, fun n hn => sh1 n (mem_erase hn), ?_⟩, ?_⟩
          · obtain ⟨b, m, e, rr⟩ := b3
            exact ⟨b, m, by rw [upd_ne npL]; exact e, rr⟩
          · rw [List.length_eraseIdx_of_lt hr]; omega
          · show (match (upd G3 L (.lst ((L1.map V.int).eraseIdx r3.toNat))) L with | some (.lst xs) => xs.length | _ => 0) < (match G L with | some (.lst xs) => xs.length | _ => 0)
            rw [upd_same, hG]
            show ((L1.map V.int).eraseIdx r3.toNat).length < (L1.map V.int).length
            rw [List.length_eraseIdx_of_lt (by rw [List.length_map]; exact hr), List.length_map]; omega
        case' g2 =>
          have hG := k2 _ _ npL.symm hG
          have k1 := k1.trans k2
          have b1 := b2
          clear c c2 k2 b2 h0 h1
        all_goals
          refine ⟨_, rfl, L, _, rfl, .inl (SqL.of hG), fun f hf => ⟨_, rfl, L, _, rfl, .inl (SqL.of (Same.new hf _ _ hG)), fun g hg => ⟨sz1 (by simp), fun t ht => ⟨_, _, _, rfl, ?_⟩⟩⟩⟩
          have sA := Same.new hf (o := .lst (L1.map V.int))
          have sB := Same.new hg (o := .lst (L1.map V.int))
          have sC := Same.new ht (o := .lst [])
          have hF5 := sC _ _ (sB _ _ (upd_same (a := f) (o := HO.lst (L1.map V.int))))
          have hS5 := sC _ _ (upd_same (a := g) (o := HO.lst (L1.map V.int)))
          have nfg : f ≠ g := ne_of_none (upd_same (a := f) (o := HO.lst (L1.map V.int))) hg
          have nft : f ≠ t := ne_of_none (sB _ _ (upd_same (a := f) (o := HO.lst (L1.map V.int)))) ht
          have ngt : g ≠ t := ne_of_none (upd_same (a := g) (o := HO.lst (L1.map V.int))) ht
          have npf : p ≠ f := b1.ne hf
          have hg0 := sA.free hg
          have npg : p ≠ g := b1.ne hg0
          have ht0 := sA.free (sB.free ht)
          have npt : p ≠ t := b1.ne ht0
          have hfH := kfree k1 npf.symm hf
          have hgH := kfree k1 npg.symm hg0
          have htH := kfree k1 npt.symm ht0
          have k5 := k1.trans ((sA.trans sB).trans sC).kp
          have b5 := b1.same ((sA.trans sB).trans sC)
          have hL5 := ((sA.trans sB).trans sC) _ _ hG
          clear sA sB sC
          have hT5 : ∀ X : Hp, (upd X t (.lst [])) t = some (.lst (rfp [])) := fun X => upd_same
          refine ⟨_, rfl, L, _, rfl, .inl (SqL.of hL5), _, rfl, by omega, by rw [List.length_map]; omega, ?_⟩
          refine for_range (lo := 0) (n := (((L1.map V.int).length : Nat) : Int).toNat) (fun i σ G5 => ∃ (l : PL) (Fs Ss : List Int) (v7 : Option V), σ = [some (.ref p), some (.ref a), some (.ref L), none, some (.ref f), some (.ref g), some (.ref t), v7] ∧ Kp p H G5 ∧ Bag G5 p ∧
            G5 f = some (.lst (Fs.map V.int)) ∧ G5 g = some (.lst (Ss.map V.int)) ∧ G5 t = some (.lst (rfp l)) ∧ PrsAt G5 l ∧ (f1 (prs l) ++ Fs).Perm L1 ∧ (f2 (prs l) ++ Ss).Perm L1 ∧ l.length = i)
            ⟨[], L1, L1, _, rfl, k5, b5, hF5, hS5, hT5 _, (fun e he => by cases he), List.Perm.refl _, List.Perm.refl _, rfl⟩ ?_ ?_
          · rintro i σ G6 hi ⟨l, Fs, Ss, v7, rfl, k6, b6, hF6, hS6, hT6, hl6, pF, pS, li⟩
            have hi2 : i < L1.length := by rw [List.length_map] at hi; omega
            have lF : 0 < Fs.length := by
              have := pF.length_eq
              simp only [List.length_append, List.length_map] at this; omega
            have lS : 0 < Ss.length := by
              have := pS.length_eq
              simp only [List.length_append, List.length_map] at this; omega
            have lF5 : Fs.length ≤ 5 := by
              have := pF.length_eq
              simp only [List.length_append] at this; omega
            have lS5 : Ss.length ≤ 5 := by
              have := pS.length_eq
              simp only [List.length_append] at this; omega
            refine ⟨_, rfl, .inl ⟨rfl, _, SqL.of hT6⟩, _, rfl, .inl ⟨rfl, _, SqL.of hF6⟩, _, rfl, _, rfl, f, _, rfl, .inl (SqL.of hF6), p, _, rfl, b6, by rw [List.length_map]; omega, by rw [List.length_map]; omega, fun r7 G7 h70 h71 k7 b7 => ?_⟩
            rw [List.length_map] at h71
            have hr7 : r7.toNat < Fs.length := by omega
            have hF7 := k7 _ _ npf.symm hF6
            refine ⟨f, _, r7, r7.toNat, V.int Fs[r7.toNat], rfl, rfl, hF7, by omega, by omega, idx_ok h70 (by rw [List.length_map]; exact h71), by rw [List.getElem?_map, List.getElem?_eq_getElem hr7]; rfl, ?_⟩
            have kA := kmut (o := .lst ((Fs.map V.int).eraseIdx r7.toNat)) (k6.trans k7) hfH
            have bA : Bag (upd G7 f (.lst ((Fs.map V.int).eraseIdx r7.toNat))) p := Bag.upd b7 npf
            have hFA : (upd G7 f (.lst ((Fs.map V.int).eraseIdx r7.toNat))) f = some (.lst ((Fs.eraseIdx r7.toNat).map V.int)) := by rw [upd_same, erase_map]
            have hSA : (upd G7 f (.lst ((Fs.map V.int).eraseIdx r7.toNat))) g = some (.lst (Ss.map V.int)) := (upd_ne nfg.symm).trans (k7 _ _ npg.symm hS6)
            have hTA : (upd G7 f (.lst ((Fs.map V.int).eraseIdx r7.toNat))) t = some (.lst (rfp l)) := (upd_ne nft.symm).trans (k7 _ _ npt.symm hT6)
            have hlA : PrsAt (upd G7 f (.lst ((Fs.map V.int).eraseIdx r7.toNat))) l := (hl6.kp b6 k7).lst hF7
            generalize upd G7 f (.lst ((Fs.map V.int).eraseIdx r7.toNat)) = GA at kA bA hFA hSA hTA hlA ⊢
            refine ⟨_, rfl, .inl ⟨rfl, _, SqL.of hSA⟩, _, rfl, _, rfl, g, _, rfl, .inl (SqL.of hSA), p, _, rfl, bA, by rw [List.length_map]; omega, by rw [List.length_map]; omega, fun r8 G8 h80 h81 k8 b8 => ?_⟩
            rw [List.length_map] at h81
            have hr8 : r8.toNat < Ss.length := by omega
            have hS8 := k8 _ _ npg.symm hSA
            refine ⟨g, _, r8, r8.toNat, V.int Ss[r8.toNat], rfl, rfl, hS8, by omega, by omega, idx_ok h80 (by rw [List.length_map]; exact h81), by rw [List.getElem?_map, List.getElem?_eq_getElem hr8]; rfl, sz1 (by simp), fun q9 hq9 => ?_⟩
            have kB := kmut (o := .lst ((Ss.map V.int).eraseIdx r8.toNat)) (kA.trans k8) hgH
            have bB : Bag (upd G8 g (.lst ((Ss.map V.int).eraseIdx r8.toNat))) p := Bag.upd b8 npg
            have hSB : (upd G8 g (.lst ((Ss.map V.int).eraseIdx r8.toNat))) g = some (.lst ((Ss.eraseIdx r8.toNat).map V.int)) := by rw [upd_same, erase_map]
            have hFB : (upd G8 g (.lst ((Ss.map V.int).eraseIdx r8.toNat))) f = some (.lst ((Fs.eraseIdx r7.toNat).map V.int)) := (upd_ne nfg).trans (k8 _ _ npf.symm hFA)
            have hTB : (upd G8 g (.lst ((Ss.map V.int).eraseIdx r8.toNat))) t = some (.lst (rfp l)) := (upd_ne ngt.symm).trans (k8 _ _ npt.symm hTA)
            have hlB : PrsAt (upd G8 g (.lst ((Ss.map V.int).eraseIdx r8.toNat))) l := (hlA.kp bA k8).lst hS8
            generalize upd G8 g (.lst ((Ss.map V.int).eraseIdx r8.toNat)) = GB at kB bB hSB hFB hTB hlB hq9 ⊢
            obtain ⟨_, a2, a3⟩ := pl_snoc (H1 := fun _ => none) (p := (Fs[r7.toNat], Ss[r8.toNat])) (fun _ _ h => by cases h) rfl hTB hlB hq9
            refine ⟨t, _, _, rfl, rfl, Same.new hq9 _ _ hTB, sz2 (by rw [rfp_len]; omega), ?_⟩
            refine ⟨l ++ [(q9, (Fs[r7.toNat], Ss[r8.toNat]))], Fs.eraseIdx r7.toNat, Ss.eraseIdx r8.toNat, _, rfl, kmut (kB.trans (Same.new hq9).kp) htH, Bag.upd (bB.same (Same.new hq9)) npt, ?_, ?_, a2, a3, ?_, ?_, by rw [List.length_append, li]; rfl⟩
            · rw [upd_ne nft]; exact Same.new hq9 _ _ hFB
            · rw [upd_ne ngt]; exact Same.new hq9 _ _ hSB
            · have e : f1 (prs (l ++ [(q9, (Fs[r7.toNat], Ss[r8.toNat]))])) = f1 (prs l) ++ [Fs[r7.toNat]] := by unfold f1 prs; rw [List.map_append, List.map_append]; rfl
              rw [e]; exact perm_pop hr7 pF
            · have e : f2 (prs (l ++ [(q9, (Fs[r7.toNat], Ss[r8.toNat]))])) = f2 (prs l) ++ [Ss[r8.toNat]] := by unfold f2 prs; rw [List.map_append, List.map_append]; rfl
              rw [e]; exact perm_pop hr8 pS
          · rintro σ G6 ⟨l, Fs, Ss, v7, rfl, k6, b6, hF6, hS6, hT6, hl6, pF, pS, li⟩
            rw [List.length_map] at li
            have eF : Fs = [] := by
              have := pF.length_eq
              simp only [List.length_append, List.length_map] at this
              exact List.length_eq_zero_iff.mp (by omega)
            have eS : Ss = [] := by
              have := pS.length_eq
              simp only [List.length_append, List.length_map] at this
              exact List.length_eq_zero_iff.mp (by omega)
            rw [eF, List.append_nil] at pF
            rw [eS, List.append_nil] at pS
            refine ⟨_, rfl, q l t G6 k6 b6 hT6 npt.symm hl6 (by omega) ⟨pF.nodup_iff.mpr nd1, pS.nodup_iff.mpr nd1, fun x hx => pF.mem_iff.mpr (pS.mem_iff.mp (f2_mem hx))⟩ fun x hx => ⟨sh1 _ (pF.mem_iff.mp (f1_mem hx)), sh1 _ (pS.mem_iff.mp (f2_mem hx))⟩⟩
      · rintro σ G Q1 Q2 hh ⟨v, e1, b, xs, e2, sq, i, j, e3, e4, c, e5, z⟩
        refine ⟨v, e1, b, xs, e2, sq, i, j, e3, e4, c, e5, ?_⟩
        cases c with
        | false => exact hh _ _ z
        | true =>
          obtain ⟨v2, f1, p2, m2, g1, g2, g3, g4, f⟩ := z
          exact ⟨v2, f1, p2, m2, g1, g2, g3, g4, fun r H' h0 h1 hk hb => let ⟨rf, c2, e6, q⟩ := f r H' h0 h1 hk hb; ⟨rf, c2, e6, hh _ _ q⟩⟩
end
end K29
namespace K29
open PySem PySem.Spec PyProof.Rows Cm
open L2 hiding Same
/-! ### the first wrong one, as the law tells it -/
def wvO : Option Int → V
  | some i => .int i
  | none => .non
def spWrong (K : PySem.W.Frag) : Sp := fun vs H Q _ => ∃ (v : V) (th : Th), vs = [v] ∧ ThAt K H v th ∧ ∀ H', Same H H' → Q (wvO (wrong th)) H'
theorem pairF_len {fs : List Fl} (h : fs.length ≠ 2) : pairF fs = none := by
  cases e : pairF fs with
  | none => rfl
  | some p => exact absurd (by rw [(pairF_some e).1]; rfl) h
theorem pairF_two {x y : Fl} (h : (shF x && shF y) = false) : pairF [x, y] = none := by
  cases e : pairF [x, y] with
  | none => rfl
  | some p =>
    obtain ⟨h1, h2, h3⟩ := pairF_some e
    cases h1
    have : (sh p.1 && sh p.2) = false := h
    rw [h2, h3] at this; cases this
section
variable {P : Program} {w : World} {K : PySem.W.Frag} {mg : Str → Option Value} {base : Heap} {sa : Addr} {sx : List Int}
theorem ok_l_is_short (T : Tx K mg sa sx) : Cal P w K mg base 1 "_law_is_short" (spShort K) := by
  obtain ⟨fd, F⟩ := f_l_is_short T
  refine ⟨_, fd, ["_law_n"], fnok F sc_l_is_short (fun vs H Q E h => ?_) (fun cdv A outer s H vs Q E hr h => ?_), F.bindsN fun _ _ _ _ _ _ us hl => match us, hl with | [_], _ => rfl, g__law_is_short T, F.kp⟩
  · obtain ⟨v, it, rfl, _⟩ := h; rfl
  · obtain ⟨v, it, rfl, hv, q⟩ := h
    refine ⟨_, (pss_one (ps_ret (pe_and (pe_callB (id := "isinstance") (r := rIsi K) call_isi rfl (n_isinstance T) (by decide +kernel) (pa_cons (pv 0) (pa_cons (pe_bltn (v := .ty "int") rfl (n_int T) (by decide +kernel) rfl) pa_nil))) (pe_and (pe_not (pe_callB (id := "isinstance") (r := rIsi K) call_isi rfl (n_isinstance T) (by decide +kernel) (pa_cons (pv 0) (pa_cons (pe_bltn (v := .ty "bool") rfl (n_bool T) (by decide +kernel) rfl) pa_nil)))) (pe_one (pe_cmpR op_lt (pe_callB (id := "abs") call_abs rfl (n_abs T) (by decide +kernel) (pa_cons (pv 0) pa_nil)) pe_int (nomark _))))))), ?_⟩
    cases it with
    | fl f =>
      cases (show v = f.v from hv)
      cases f with
      | nu k =>
        refine ⟨_, rfl, _, .ty "int", _, .type "int", true, rfl, .ty _, .base (.int k), kit_ty (by decide +kernel), true, rfl, iteT ?_⟩
        refine ⟨_, rfl, _, .ty "bool", _, .type "bool", false, rfl, .ty _, .base (.int k), kit_ty (by decide +kernel), false, rfl, true, rfl, iteT ?_⟩
        refine ⟨_, rfl, k, rfl, _, _, rfl, rfl, ?_⟩
        have e : decide ((if k < 0 then -k else k) < 1000000000) = sh k := by
          unfold sh
          apply Bool.eq_iff_iff.mpr
          rw [decide_eq_true_iff, decide_eq_true_iff]; omega
        show Q (.bl (decide ((if k < 0 then -k else k) < 1000000000))) H
        rw [e]; exact q
      | bo c =>
        refine ⟨_, rfl, _, .ty "int", _, .type "int", true, rfl, .ty _, .base (.bl c), kit_ty (by decide +kernel), true, rfl, iteT ?_⟩
        exact ⟨_, rfl, _, .ty "bool", _, .type "bool", true, rfl, .ty _, .base (.bl c), kit_ty (by decide +kernel), true, rfl, false, rfl, iteF q⟩
      | st z => exact ⟨_, rfl, _, .ty "int", _, .type "int", false, rfl, .ty _, .base (.str z), kit_ty (by decide +kernel), false, rfl, iteF q⟩
      | nn => exact ⟨_, rfl, _, .ty "int", _, .type "int", false, rfl, .ty _, .base .non, kit_ty (by decide +kernel), false, rfl, iteF q⟩
    | sq t fs =>
      obtain ⟨a, rfl, ha, _⟩ := hv
      exact ⟨_, rfl, _, .ty "int", _, .type "int", false, rfl, .ty _, ha.ty, tyn_int t, false, rfl, iteF q⟩
theorem ok_l_wrong (T : Tx K mg sa sx) : Cal P w K mg base 2 "_law_wrong" (spWrong K) := by
  obtain ⟨fd, F⟩ := f_l_wrong T
  refine ⟨_, fd, ["_law_things"], fnok F sc_l_wrong (fun vs H Q E h => ?_) (fun cdv A outer s H vs Q E hr h => ?_), F.bindsN fun _ _ _ _ _ _ us hl => match us, hl with | [_], _ => rfl, g__law_wrong T, F.kp⟩
  · obtain ⟨v, th, rfl, _⟩ := h; rfl
  · obtain ⟨v, th, rfl, hv, q⟩ := h
    refine ⟨_, (pss_cons (ps_if (pt_not (pt_val (pe_callB (id := "isinstance") (r := rIsiT K) call_isiT rfl (n_isinstance T) (by decide +kernel) (pa_cons (pv 0) (pa_cons (pe_tup (pa_cons (pe_bltn (v := .ty "list") rfl (n_list T) (by decide +kernel) rfl) (pa_cons (pe_bltn (v := .ty "tuple") rfl (n_tuple T) (by decide +kernel) rfl) pa_nil))) pa_nil))))) (pss_one (ps_ret (pe_un un_neg pe_int))) pss_nil)
    (pss_cons (ps_par (i := 1) (j := 2) rfl sc_l_wrong.nd rfl rfl (by decide) rfl rfl (pa_cons (pe_lst pa_nil) (pa_cons (pe_lst pa_nil) pa_nil)) (by rfl))
    (pss_cons (ps_for PassesOwn.never rfl (pi_enumS rfl (n_enumerate T) (pa_cons (pv 0) pa_nil)) (pg_tup (by rfl) (pgs_cons (pg_name (i := 3) sc_l_wrong.nd rfl (by first | exact Or.inl rfl | exact Or.inr rfl)) (pgs_cons (pg_name (i := 4) sc_l_wrong.nd rfl (by first | exact Or.inl rfl | exact Or.inr rfl)) pgs_nil)))
      (pss_cons (ps_if (PW.pt (pw_or (pt_not (pt_val (pe_callB (id := "isinstance") (r := rIsiT K) call_isiT rfl (n_isinstance T) (by decide +kernel) (pa_cons (pv 4) (pa_cons (pe_tup (pa_cons (pe_bltn (v := .ty "list") rfl (n_list T) (by decide +kernel) rfl) (pa_cons (pe_bltn (v := .ty "tuple") rfl (n_tuple T) (by decide +kernel) rfl) pa_nil))) pa_nil))))) (pw_or1 (pt_cmpR op_ne (pe_callB (id := "len") call_len_seq rfl (n_len T) (by decide +kernel) (pa_cons (pv 4) pa_nil)) pe_int (nomark _))))) (pss_one (ps_ret (pv 3))) pss_nil)
      (pss_cons (ps_if (PW.pt (pw_or (pt_not (pt_val (pe_cal (ok_l_is_short T) hr (by decide) (pa_cons (pe_ix L2.ix_seq (pv 4) pe_int (fun _ _ => rfl)) pa_nil)))) (pw_or1 (pt_not (pt_val (pe_cal (ok_l_is_short T) hr (by decide) (pa_cons (pe_ix L2.ix_seq (pv 4) pe_int (fun _ _ => rfl)) pa_nil))))))) (pss_one (ps_ret (pv 3))) pss_nil)
      (pss_cons (ps_if (PW.pt (pw_or (pt_cmpR op_in_seq (pe_ix L2.ix_seq (pv 4) pe_int (fun _ _ => rfl)) (pv 1) (by rfl)) (pw_or1 (pt_cmpR op_in_seq (pe_ix L2.ix_seq (pv 4) pe_int (fun _ _ => rfl)) (pv 2) (by rfl))))) (pss_one (ps_ret (pv 3))) pss_nil)
      (pss_cons (ps_expr (pe_bm PySem.F.plainAttrs_list PySem.F.slot_list_append PySem.F.type_list_append mt_append (pv 1) (pa_cons (pe_ix L2.ix_seq (pv 4) pe_int (fun _ _ => rfl)) pa_nil)))
      (pss_one (ps_expr (pe_bm PySem.F.plainAttrs_list PySem.F.slot_list_append PySem.F.type_list_append mt_append (pv 2) (pa_cons (pe_ix L2.ix_seq (pv 4) pe_int (fun _ _ => rfl)) pa_nil)))))))))
    (pss_cons (ps_for PassesOwn.never rfl (pi_enum rfl (n_enumerate T) (pa_cons (pv 2) pa_nil)) (pg_tup (by rfl) (pgs_cons (pg_name (i := 3) sc_l_wrong.nd rfl (by first | exact Or.inl rfl | exact Or.inr rfl)) (pgs_cons (pg_name (i := 5) sc_l_wrong.nd rfl (by first | exact Or.inl rfl | exact Or.inr rfl)) pgs_nil)))
      (pss_one (ps_if (pt_cmpR op_notIn_seq (pv 5) (pv 1) (by rfl)) (pss_one (ps_ret (pv 3))) pss_nil)))
    (pss_one (ps_ret pe_non)))))), ?_⟩
    cases th with
    | od f =>
      cases (show v = f.v from hv)
      refine ⟨_, rfl, sz1 (by simp), fun tp htp => ?_⟩
      exact ⟨_, tp, _, _, _, false, rfl, upd_same, pbx, fl_tyx f, fl_seq f, false, rfl, iteT ⟨_, rfl, q _ (Same.new htp)⟩⟩
    | sq t is =>
      obtain ⟨a0, l, rfl, ha, rfl, hl, hits⟩ := hv
      refine ⟨_, rfl, sz1 (by simp), fun tp htp => ?_⟩
      have s1 := Same.new (o := .tup [V.ty "list", V.ty "tuple"]) htp
      refine ⟨_, tp, _, _, _, true, rfl, upd_same, pbx, (ha.same s1).ty, tyn_seq t, true, rfl, iteF ?_⟩
      generalize upd H tp _ = H1 at s1 ⊢
      refine ⟨sz1 (by simp), fun f hf => ⟨sz1 (by simp), fun g hg => ⟨_, _, rfl, ?_⟩⟩⟩
      have nfg : f ≠ g := ne_of_none upd_same hg
      have hg1 : H1 g = none := by rw [upd_ne nfg.symm] at hg; exact hg
      have sfg : Same H1 (upd (upd H1 f (.lst [])) g (.lst [])) := (Same.new hf).trans (Same.new hg)
      have ff : (upd (upd H1 f (.lst [])) g (.lst [])) f = some (.lst []) := by rw [upd_ne nfg, upd_same]
      have gg : (upd (upd H1 f (.lst [])) g (.lst [])) g = some (.lst []) := upd_same
      generalize upd (upd H1 f (.lst [])) g (.lst []) = H2 at sfg ff gg ⊢
      refine for_enumS (K := K) (t := t) (a := a0) (xs := l.map (·.1)) (fun R r => ⟨_, rfl, r⟩) (ha.same (s1.trans sfg)) (fun i σ H' => ∃ (fs ss : List Int) (v3 v4 : Option V), σ = [some (.ref a0), some (.ref f), some (.ref g), v3, v4, none] ∧ fs.length = i ∧ ss.length = i ∧
        scan fs ss i ((l.map (·.2)).drop i) = scan [] [] 0 (l.map (·.2)) ∧ Same H1 H' ∧ H' f = some (.lst (fs.map V.int)) ∧ H' g = some (.lst (ss.map V.int))) ⟨[], [], none, none, rfl, rfl, rfl, rfl, sfg, ff, gg⟩ (fun i σ H' h => ?_) ?_ ?_
      · obtain ⟨fs, ss, v3, v4, _, _, _, _, sm, _, _⟩ := h
        exact ha.same (s1.trans sm)
      · rintro i x σ H' Tp hi ⟨fs, ss, v3, v4, rfl, l1, l2, hsc, sm, hF, hG⟩ hT
        obtain ⟨hi2, rfl⟩ := l_at hi
        refine ⟨Tp, _, rfl, SqT.of upd_same, rfl, _, _, rfl, _, _, rfl, rfl, ?_⟩
        have hit := hits _ (List.getElem_mem hi2)
        have sT : Same H' (upd H' Tp (.tup [.int (i : Nat), l[i].1])) := Same.new hT
        have hF := sT _ _ hF
        have hG := sT _ _ hG
        have sm := sm.trans sT
        generalize upd H' Tp _ = H3 at sT hF hG sm ⊢
        have hdr : (l.map (·.2)).drop i = l[i].2 :: (l.map (·.2)).drop (i + 1) := by
          rw [drop_at (by rw [List.length_map]; exact hi2), List.getElem_map]
        rw [hdr] at hsc
        have ret : ∀ Ha, Same H1 Ha → scan fs ss i (l[i].2 :: (l.map (·.2)).drop (i + 1)) = .inl i → Q (.int (i : Nat)) Ha := fun Ha sa he => by
          have := q Ha (s1.trans sa)
          have e : wrong (.sq t (l.map (·.2))) = some ((i : Nat) : Int) := by
            show (wrongI (l.map (·.2))).map (fun i => (i : Int)) = _
            unfold wrongI
            rw [← hsc, he]; rfl
          rw [e] at this; exact this
        refine ⟨_, rfl, sz1 (by simp), fun tq htq => ?_⟩
        have sq := Same.new (o := .tup [V.ty "list", V.ty "tuple"]) htq
        have hF := sq _ _ hF
        have hG := sq _ _ hG
        have sm := sm.trans sq
        have hit3 := hit.same (s1.trans sm)
        cases hk : l[i].2 with
        | fl fx =>
          rw [hk] at hit3 ret
          have ex : l[i].1 = fx.v := hit3
          refine ⟨_, tq, _, _, _, false, rfl, upd_same, pbx, by rw [ex]; exact fl_tyx fx, fl_seq fx, false, rfl, iteT (iteT ⟨_, rfl, ret _ sm (scan_none rfl)⟩)⟩
        | sq tt fs2 =>
          rw [hk] at hit3 ret hsc
          obtain ⟨b, eb, hb, lb⟩ := hit3
          refine ⟨_, tq, _, _, _, true, rfl, upd_same, pbx, by rw [eb]; exact hb.ty, tyn_seq tt, true, rfl, iteF ?_⟩
          generalize upd H3 tq _ = H4 at sq hF hG sm hb ⊢
          rw [eb]
          refine ⟨_, rfl, b, _, rfl, hb.sq, rfl, _, rfl, uC (fun c => ?_) (fun c => ?_)⟩
          · have : fs2.length ≠ 2 := fun z => c (by rw [List.length_map, z]; rfl)
            exact ⟨_, rfl, ret _ sm (scan_none (pairF_len this))⟩
          have e2 : fs2.length = 2 := by
            rw [List.length_map] at c
            injection c with c; omega
          obtain ⟨x, y, rfl⟩ : ∃ x y, fs2 = [x, y] := by
            match fs2, e2 with
            | [x, y], _ => exact ⟨x, y, rfl⟩
          have hb1 := hb.sq
          refine ⟨_, rfl, ix_pair hb1 rfl ⟨x.v, .fl x, rfl, rfl, _, rfl, ?_⟩⟩
          cases ex : shF x with
          | false =>
            refine bT (by show (!shF x) = true; rw [ex]; rfl) (iteT ⟨_, rfl, ret _ sm (scan_none (pairF_two (by rw [ex]; rfl)))⟩)
          | true =>
          refine bF (by show (!shF x) = false; rw [ex]; rfl) ⟨_, rfl, ix_pair hb1 rfl ⟨y.v, .fl y, rfl, rfl, _, rfl, ?_⟩⟩
          cases ey : shF y with
          | false =>
            refine bT (by show (!shF y) = true; rw [ey]; rfl) ⟨_, rfl, ret _ sm (scan_none (pairF_two (by rw [ex, ey]; rfl)))⟩
          | true =>
          refine bF (by show (!shF y) = false; rw [ey]; rfl) ?_
          obtain ⟨ka, rfl, sa'⟩ := shF_nu ex
          obtain ⟨kb, rfl, sb'⟩ := shF_nu ey
          have hp : pairI (.sq tt [.nu ka, .nu kb]) = some (ka, kb) := by
            show (if (sh ka && sh kb) = true then some (ka, kb) else none) = _
            rw [sa', sb']; rfl
          refine ⟨_, rfl, ix_pair hb1 rfl ⟨_, rfl, f, _, rfl, .inl (SqL.of hF), rfl, flat_ints _, _, rfl, ?_⟩⟩
          rw [show Fl.v (.nu ka) = .int ka from rfl, inV_ints]
          refine dC (fun c3 => iteT ⟨_, rfl, ret _ sm (scan_bad hp (.inl c3))⟩) (fun c3 => ⟨_, rfl, ix_pair hb1 rfl ⟨_, rfl, g, _, rfl, .inl (SqL.of hG), rfl, flat_ints _, _, rfl, ?_⟩⟩)
          rw [show Fl.v (.nu kb) = .int kb from rfl, inV_ints]
          refine dC (fun c4 => ⟨_, rfl, ret _ sm (scan_bad hp (.inr c4))⟩) (fun c4 => ?_)
          rw [scan_ok hp c3 c4] at hsc
          refine ⟨_, rfl, .inl ⟨rfl, _, SqL.of hF⟩, _, rfl, ix_pair hb1 rfl ⟨f, _, _, rfl, rfl, hF, sz2 (by rw [List.length_map]; omega), ?_⟩⟩
          have sm5 : Same H1 (upd H4 f (.lst (fs.map V.int ++ [V.int ka]))) := sm.mut hf
          have hF5 : (upd H4 f (.lst (fs.map V.int ++ [V.int ka]))) f = some (.lst ((fs ++ [ka]).map V.int)) := by rw [upd_same, List.map_append]; rfl
          have hG5 : (upd H4 f (.lst (fs.map V.int ++ [V.int ka]))) g = some (.lst (ss.map V.int)) := by rw [upd_ne nfg.symm]; exact hG
          have hb5 : Sq K (upd H4 f (.lst (fs.map V.int ++ [V.int ka]))) b [V.int ka, V.int kb] := by
            have hz := hits _ (List.getElem_mem hi2)
            rw [hk] at hz
            obtain ⟨b', eb', hb', _⟩ := hz
            have : b' = b := by rw [eb] at eb'; injection eb' with e; exact e.symm
            rw [this] at hb'
            exact (hb'.same (s1.trans sm5)).sq
          refine ⟨_, rfl, .inl ⟨rfl, _, SqL.of hG5⟩, _, rfl, ix_pair hb5 rfl ⟨g, _, _, rfl, rfl, hG5, sz2 (by rw [List.length_map]; omega), ?_⟩⟩
          exact ⟨fs ++ [ka], ss ++ [kb], _, _, rfl, by simp [l1], by simp [l2], hsc, sm5.mut hg1, (upd_ne nfg).trans hF5, by rw [upd_same, List.map_append]; rfl⟩
      · rintro σ H' ⟨fs, ss, v3, v4, rfl, l1, l2, hsc, sm, hF, hG⟩
        rw [List.drop_of_length_le (by simp), scan] at hsc
        have ew : wrong (.sq t (l.map (·.2))) = (miss fs 0 ss).map fun i => (i : Int) := by
          show (wrongI (l.map (·.2))).map (fun i => (i : Int)) = _
          unfold wrongI; rw [← hsc]; rfl
        rw [ew] at q
        refine ⟨_, rfl, g, _, rfl, SqL.of hG, for_it (walk_enum (K := K) (a := g) (xs := ss.map V.int)) (fun j σ H5 => ∃ v3 v4 v5 : Option V, σ = [some (.ref a0), some (.ref f), some (.ref g), v3, v4, v5] ∧ miss fs j (ss.drop j) = miss fs 0 ss ∧ Same H1 H5 ∧ H5 f = some (.lst (fs.map V.int)) ∧ H5 g = some (.lst (ss.map V.int))) ⟨_, _, _, rfl, rfl, sm, hF, hG⟩ (fun j σ H' _ ⟨_, _, _, _, _, _, _, z⟩ => SqL.of z) ?_ ?_⟩
        · rintro j x σ G G' hj ⟨v3, v4, v5, rfl, hm, sm, hF, hG⟩ ⟨Tp, x1, x2, rfl, hT, rfl, ex1, ex2⟩
          cases (Option.some.inj ex1)
          have ex3 : (ss.map V.int)[j]? = some x2 := ex2
          obtain ⟨hj3, rfl⟩ := map_at ex3
          refine ⟨Tp, _, rfl, SqT.of upd_same, rfl, _, _, rfl, _, _, rfl, rfl, ?_⟩
          have sT : Same G (upd G Tp (.tup [.int (j : Nat), .int ss[j]])) := Same.new hT
          have hF := sT _ _ hF
          have hG := sT _ _ hG
          have sm := sm.trans sT
          generalize upd G Tp _ = G2 at hF hG sm ⊢
          rw [drop_at hj3, miss] at hm
          refine ⟨_, rfl, _, rfl, f, _, rfl, .inl (SqL.of hF), rfl, flat_ints _, _, rfl, ?_⟩
          rw [inV_ints]
          refine uC (fun c => ?_) (fun c => ?_)
          · rw [if_neg c] at hm
            rw [← hm] at q
            exact ⟨_, rfl, q _ (s1.trans sm)⟩
          · rw [if_pos c] at hm
            exact ⟨_, _, _, rfl, hm, sm, hF, hG⟩
        · rintro σ G ⟨v3, v4, v5, rfl, hm, sm, hF, hG⟩
          rw [List.drop_of_length_le (by simp), miss] at hm
          rw [← hm] at q
          exact q _ (s1.trans sm)
end
end K29
namespace K29
open PySem PySem.Spec PyProof.Rows Cm
open L2 hiding Same
/-! ### spoilt pairs -/
def OkV (K : PySem.W.Frag) (p : Addr) (H : Hp) (v : V) : Prop := ∃ it, ItAt K H v it ∧ v ≠ .ref p
def AllV (K : PySem.W.Frag) (p : Addr) (H : Hp) (xs : List V) : Prop := ∀ v ∈ xs, OkV K p H v
theorem AllV.nil {K : PySem.W.Frag} {p : Addr} {H : Hp} : AllV K p H [] := fun v h => by cases h
theorem AllV.cons {K : PySem.W.Frag} {p : Addr} {H : Hp} {v : V} {xs : List V} (a : OkV K p H v) (b : AllV K p H xs) : AllV K p H (v :: xs) := fun u hu => (List.mem_cons.mp hu).elim (fun e => e ▸ a) (b u)
theorem ItAt.kp {K : PySem.W.Frag} {p : Addr} {H H' : Hp} {v : V} {it : It} (k : Kp p H H') (n : v ≠ .ref p) (h : ItAt K H v it) : ItAt K H' v it := by
  cases it with
  | fl f => exact h
  | sq t fs =>
    obtain ⟨a, rfl, h, r⟩ := h
    have na : a ≠ p := fun z => n (by rw [z])
    refine ⟨a, rfl, ?_, r⟩
    cases t
    · exact Kp.sl k na h
    · exact Kp.st k na h
theorem OkV.same {K : PySem.W.Frag} {p : Addr} {H H' : Hp} {v : V} (s : Same H H') (h : OkV K p H v) : OkV K p H' v := let ⟨it, a, b⟩ := h; ⟨it, a.same s, b⟩
theorem OkV.kp {K : PySem.W.Frag} {p : Addr} {H H' : Hp} {v : V} (s : Kp p H H') (h : OkV K p H v) : OkV K p H' v := let ⟨it, a, b⟩ := h; ⟨it, a.kp s b, b⟩
theorem AllV.same {K : PySem.W.Frag} {p : Addr} {H H' : Hp} {xs : List V} (s : Same H H') (h : AllV K p H xs) : AllV K p H' xs := fun v hv => (h v hv).same s
theorem OkV.fl {K : PySem.W.Frag} {p : Addr} {H : Hp} (f : Fl) : OkV K p H f.v := ⟨.fl f, rfl, by cases f <;> intro z <;> cases z⟩
theorem OkV.sq {K : PySem.W.Frag} {p a : Addr} {H : Hp} {t : Bool} (fs : List Fl) (h : H a = some (if t = true then .tup (fs.map Fl.v) else .lst (fs.map Fl.v))) (n : a ≠ p) (l : fs.length ≤ 10) : OkV K p H (.ref a) := by
  refine ⟨.sq t fs, ⟨a, rfl, ?_, l⟩, fun z => n (by injection z)⟩
  cases t
  · exact SqL.of h
  · exact SqT.of h
/-- things, apart from p -/
def ThO (K : PySem.W.Frag) (p : Addr) (H : Hp) (v : V) : Th → Prop
  | .od f => v = f.v
  | .sq t is => ∃ (a : Addr) (l : List (V × It)), v = .ref a ∧ a ≠ p ∧ SqB K t H a (l.map (·.1)) ∧ l.map (·.2) = is ∧ l.length ≤ 10 ∧ ∀ q ∈ l, ItAt K H q.1 q.2 ∧ q.1 ≠ .ref p
theorem ThO.at {K : PySem.W.Frag} {p : Addr} {H : Hp} {v : V} {th : Th} (h : ThO K p H v th) : ThAt K H v th := by
  cases th with
  | od f => exact h
  | sq t is => obtain ⟨a, l, e, n, h, r, r2, r3⟩ := h; exact ⟨a, l, e, h, r, Nat.le_trans r2 (by decide), fun q hq => (r3 q hq).1⟩
theorem ThO.kp {K : PySem.W.Frag} {p : Addr} {H H' : Hp} {v : V} {th : Th} (k : Kp p H H') (h : ThO K p H v th) : ThO K p H' v th := by
  cases th with
  | od f => exact h
  | sq t is =>
    obtain ⟨a, l, e, n, h, r, r2, r3⟩ := h
    refine ⟨a, l, e, n, ?_, r, r2, fun q hq => ⟨(r3 q hq).1.kp k (r3 q hq).2, (r3 q hq).2⟩⟩
    cases t
    · exact Kp.sl k n h
    · exact Kp.st k n h
theorem ThO.same {K : PySem.W.Frag} {p : Addr} {H H' : Hp} {v : V} {th : Th} (s : Same H H') (h : ThO K p H v th) : ThO K p H' v th := h.kp s.kp
def ip (l : PL) : List (V × It) := l.map fun e => (V.ref e.1, itP e.2)
theorem ip_fst (l : PL) : (ip l).map (·.1) = rfp l := by unfold ip rfp; rw [List.map_map]; rfl
theorem ip_ok {K : PySem.W.Frag} {p : Addr} {H : Hp} {l : PL} (h : PrsAt H l) (hB : Bag H p) : ∀ q ∈ ip l, ItAt K H q.1 q.2 ∧ q.1 ≠ .ref p := fun q hq => by
  obtain ⟨e, he, rfl⟩ := List.mem_map.mp hq
  exact ⟨itP_at (h e he), fun z => hB.ne_tup (h e he) (by injection z)⟩
def spSpoilt (K : PySem.W.Frag) : Sp := fun vs H Q _ => ∃ (p a b : Addr) (l : PL) (ns : List Int), vs = [.ref p, .ref a, .ref b] ∧ Bag H p ∧ H a = some (.lst (rfp l)) ∧ a ≠ p ∧ PrsAt H l ∧ l.length ≤ 5 ∧ H b = some (.lst (ns.map V.int)) ∧ ns.length = 5 ∧ Nums ns ∧
  ∀ q is H', Kp p H H' → Bag H' p → ThO K p H' (.ref q) (.sq false is) → Q (.ref q) H'
theorem int_mem {ns : List Int} {v : V} (h : v ∈ ns.map V.int) : ∃ n ∈ ns, v = .int n := by
  obtain ⟨n, hn, rfl⟩ := List.mem_map.mp h
  exact ⟨n, hn, rfl⟩
section
variable {P : Program} {w : World} {K : PySem.W.Frag} {mg : Str → Option Value} {base : Heap} {sa : Addr} {sx : List Int}
theorem ok_l_spoilt (T : Tx K mg sa sx) : Cal P w K mg base 3 "_law_spoilt" (spSpoilt K) := by
  obtain ⟨fd, F⟩ := f_l_spoilt T
  refine ⟨_, fd, ["_law_bag_here", "_law_pairs_here", "_law_nums"], fnok F sc_l_spoilt (fun vs H Q E h => ?_) (fun cdv A outer s H vs Q E hr h => ?_), F.bindsN fun _ _ _ _ _ _ us hl => match us, hl with | [_, _, _], _ => rfl, g__law_spoilt T, F.kp⟩
  · obtain ⟨p, a, b, l, ns, rfl, _⟩ := h; rfl
  · obtain ⟨p, a, b, l, ns, rfl, hB, ha, nap, hl, ll, hb, ln, ⟨nd, hsh⟩, q⟩ := h
    refine ⟨_, (pss_cons (ps_par (i := 3) (j := 4) rfl sc_l_spoilt.nd rfl rfl (by decide) rfl rfl (pa_cons (pe_cal (ok_l_of T) hr (by decide) (pa_cons (pv 0) (pa_cons (pv 2) pa_nil))) (pa_cons (pe_cal (ok_l_of T) hr (by decide) (pa_cons (pv 0) (pa_cons (pv 2) pa_nil))) pa_nil)) (by rfl))
    (pss_cons (ps_set (i := 5) sc_l_spoilt.nd rfl (by first | exact Or.inl rfl | exact Or.inr rfl) (pe_op op_add pe_int (pe_cal (ok_l_take T) hr (by decide) (pa_cons (pv 0) (pa_cons pe_int pa_nil)))))
    (pss_cons (ps_set (i := 6) sc_l_spoilt.nd rfl (by first | exact Or.inl rfl | exact Or.inr rfl) (pe_lst (pa_cons pe_non (pa_cons pe_int (pa_cons pe_str (pa_cons (pe_tup (pa_cons (pv 3) pa_nil)) (pa_cons (pe_tup (pa_cons (pv 3) (pa_cons (pv 4) (pa_cons (pv 3) pa_nil)))) (pa_cons (pe_tup (pa_cons (pv 3) (pa_cons pe_bl pa_nil))) (pa_cons (pe_tup (pa_cons pe_bl (pa_cons (pv 3) pa_nil))) (pa_cons (pe_tup (pa_cons (pv 3) (pa_cons (pv 5) pa_nil))) (pa_cons (pe_tup (pa_cons (pe_un un_neg (pv 5)) (pa_cons (pv 3) pa_nil))) (pa_cons (pe_tup (pa_cons (pv 3) (pa_cons pe_non pa_nil))) pa_nil))))))))))))
    (pss_cons (ps_set (i := 7) sc_l_spoilt.nd rfl (by first | exact Or.inl rfl | exact Or.inr rfl) (pe_cal (ok_l_of T) hr (by decide) (pa_cons (pv 0) (pa_cons (pe_op op_cat (pv 6) (pe_lst (pa_cons (pe_tup (pa_cons (pv 3) (pa_cons (pv 4) pa_nil))) (pa_cons (pe_tup (pa_cons (pv 3) (pa_cons (pv 4) pa_nil))) (pa_cons (pe_tup (pa_cons (pv 3) (pa_cons (pv 4) pa_nil))) (pa_cons (pe_lst (pa_cons (pv 3) (pa_cons (pv 4) pa_nil))) (pa_cons (pe_tup (pa_cons (pe_callTy (T := "str") call_str_int rfl (n_str T) (by decide +kernel) (pa_cons (pv 3) pa_nil)) (pa_cons (pv 4) pa_nil))) (pa_cons (pe_lst pa_nil) (pa_cons (pe_op op_pow pe_int pe_int) pa_nil))))))))) pa_nil))))
    (pss_cons (ps_set (i := 8) sc_l_spoilt.nd rfl (by first | exact Or.inl rfl | exact Or.inr rfl) (pe_cal (ok_l_take T) hr (by decide) (pa_cons (pv 0) (pa_cons (pe_op op_add (pe_callB (id := "len") call_len_seq rfl (n_len T) (by decide +kernel) (pa_cons (pv 1) pa_nil)) pe_int) pa_nil))))
    (pss_cons (ps_if (pt_cmpR op_eq (pe_cal (ok_l_take T) hr (by decide) (pa_cons (pv 0) (pa_cons pe_int pa_nil))) pe_int (nomark _)) (pss_one (ps_ret (pe_op op_cat (pe_op op_cat (pe_slice sl_list (pv 1) po_none (po_some (pv 8))) (pe_lst (pa_cons (pv 7) pa_nil))) (pe_slice sl_list (pv 1) (po_some (pv 8)) po_none)))) pss_nil)
    (pss_one (ps_ret (pe_op op_cat (pe_op op_cat (pe_slice sl_list (pv 1) po_none (po_some (pv 8))) (pe_lst (pa_cons (pv 7) pa_nil))) (pe_slice sl_list (pv 1) (po_some (pe_op op_add (pv 8) pe_int)) po_none)))))))))), ?_⟩
    have nbp : b ≠ p := bag_list hB hb (by omega)
    have lb : 0 < (ns.map V.int).length := by rw [List.length_map]; omega
    have lb2 : (ns.map V.int).length ≤ 1000 := by rw [List.length_map]; omega
    refine ⟨_, rfl, _, rfl, p, b, _, rfl, hb, lb, lb2, hB, nbp.symm, fun v1 H1 m1 k1 b1 => ?_⟩
    obtain ⟨n1, hn1, rfl⟩ := int_mem m1
    have hb1 := k1 _ _ nbp hb
    refine ⟨_, rfl, _, rfl, p, b, _, rfl, hb1, lb, lb2, b1, nbp.symm, fun v2 H2 m2 k2 b2 => ?_⟩
    obtain ⟨n2, hn2, rfl⟩ := int_mem m2
    refine ⟨_, _, rfl, ?_⟩
    refine ⟨_, rfl, p, 1000, rfl, b2, by decide, by decide, fun r H3 r0 r1 k3 b3 => ⟨_, _, rfl, rfl, ?_⟩⟩
    have kk := (k1.trans k2).trans k3
    refine ⟨_, rfl, sz1 (by simp), fun t1 h1 => ?_⟩
    have s1 : Same H3 (upd H3 t1 (.tup [V.int n1])) := Same.new h1
    have i1 : OkV K p (upd H3 t1 (.tup [V.int n1])) (.ref t1) := OkV.sq (t := true) [.nu n1] upd_same (b3.ne h1).symm (by simp)
    have c1 := b3.same s1
    generalize upd H3 t1 (.tup [V.int n1]) = G1 at s1 i1 c1 ⊢
    refine ⟨_, rfl, _, rfl, _, rfl, sz1 (by simp), fun t2 h2 => ?_⟩
    have s2 : Same G1 (upd G1 t2 (.tup [V.int n1, V.int n2, V.int n1])) := Same.new h2
    have i2 : OkV K p (upd G1 t2 (.tup [V.int n1, V.int n2, V.int n1])) (.ref t2) := OkV.sq (t := true) [.nu n1, .nu n2, .nu n1] upd_same (c1.ne h2).symm (by simp)
    have c2 := c1.same s2
    generalize upd G1 t2 (.tup [V.int n1, V.int n2, V.int n1]) = G2 at s2 i2 c2 ⊢
    refine ⟨_, rfl, sz1 (by simp), fun t3 h3 => ?_⟩
    have s3 : Same G2 (upd G2 t3 (.tup [V.int n1, V.bl true])) := Same.new h3
    have i3 : OkV K p (upd G2 t3 (.tup [V.int n1, V.bl true])) (.ref t3) := OkV.sq (t := true) [.nu n1, .bo true] upd_same (c2.ne h3).symm (by simp)
    have c3 := c2.same s3
    generalize upd G2 t3 (.tup [V.int n1, V.bl true]) = G3 at s3 i3 c3 ⊢
    refine ⟨_, rfl, sz1 (by simp), fun t4 h4 => ?_⟩
    have s4 : Same G3 (upd G3 t4 (.tup [V.bl false, V.int n1])) := Same.new h4
    have i4 : OkV K p (upd G3 t4 (.tup [V.bl false, V.int n1])) (.ref t4) := OkV.sq (t := true) [.bo false, .nu n1] upd_same (c3.ne h4).symm (by simp)
    have c4 := c3.same s4
    generalize upd G3 t4 (.tup [V.bl false, V.int n1]) = G4 at s4 i4 c4 ⊢
    refine ⟨_, rfl, _, rfl, sz1 (by simp), fun t5 h5 => ?_⟩
    have s5 : Same G4 (upd G4 t5 (.tup [V.int n1, V.int (1000000000 + r)])) := Same.new h5
    have i5 : OkV K p (upd G4 t5 (.tup [V.int n1, V.int (1000000000 + r)])) (.ref t5) := OkV.sq (t := true) [.nu n1, .nu (1000000000 + r)] upd_same (c4.ne h5).symm (by simp)
    have c5 := c4.same s5
    generalize upd G4 t5 (.tup [V.int n1, V.int (1000000000 + r)]) = G5 at s5 i5 c5 ⊢
    refine ⟨_, rfl, _, rfl, _, rfl, sz1 (by simp), fun t6 h6 => ?_⟩
    have s6 : Same G5 (upd G5 t6 (.tup [V.int (-(1000000000 + r)), V.int n1])) := Same.new h6
    have i6 : OkV K p (upd G5 t6 (.tup [V.int (-(1000000000 + r)), V.int n1])) (.ref t6) := OkV.sq (t := true) [.nu (-(1000000000 + r)), .nu n1] upd_same (c5.ne h6).symm (by simp)
    have c6 := c5.same s6
    generalize upd G5 t6 (.tup [V.int (-(1000000000 + r)), V.int n1]) = G6 at s6 i6 c6 ⊢
    refine ⟨_, rfl, sz1 (by simp), fun t7 h7 => ?_⟩
    have s7 : Same G6 (upd G6 t7 (.tup [V.int n1, V.non])) := Same.new h7
    have i7 : OkV K p (upd G6 t7 (.tup [V.int n1, V.non])) (.ref t7) := OkV.sq (t := true) [.nu n1, .nn] upd_same (c6.ne h7).symm (by simp)
    have c7 := c6.same s7
    generalize upd G6 t7 (.tup [V.int n1, V.non]) = G7 at s7 i7 c7 ⊢
    refine ⟨sz1 (by simp), fun od hod => ?_⟩
    have s8 : Same G7 (upd G7 od (.lst [V.non, V.int 7, V.str "ab", .ref t1, .ref t2, .ref t3, .ref t4, .ref t5, .ref t6, .ref t7])) := Same.new hod
    have ho8 : (upd G7 od (.lst [V.non, V.int 7, V.str "ab", .ref t1, .ref t2, .ref t3, .ref t4, .ref t5, .ref t6, .ref t7])) od = some (.lst [V.non, V.int 7, V.str "ab", .ref t1, .ref t2, .ref t3, .ref t4, .ref t5, .ref t6, .ref t7]) := upd_same
    have c8 := c7.same s8
    generalize upd G7 od (.lst [V.non, V.int 7, V.str "ab", .ref t1, .ref t2, .ref t3, .ref t4, .ref t5, .ref t6, .ref t7]) = G8 at s8 ho8 c8 ⊢
    have a8 : AllV K p G8 [V.non, V.int 7, V.str "ab", .ref t1, .ref t2, .ref t3, .ref t4, .ref t5, .ref t6, .ref t7] :=
      .cons (.fl .nn) (.cons (.fl (.nu 7)) (.cons (.fl (.st "ab")) (.cons (i1.same (s2.trans (s3.trans (s4.trans (s5.trans (s6.trans (s7.trans s8))))))) (.cons (i2.same (s3.trans (s4.trans (s5.trans (s6.trans (s7.trans s8)))))) (.cons (i3.same (s4.trans (s5.trans (s6.trans (s7.trans s8))))) (.cons (i4.same (s5.trans (s6.trans (s7.trans s8)))) (.cons (i5.same (s6.trans (s7.trans s8))) (.cons (i6.same (s7.trans s8)) (.cons (i7.same s8) .nil)))))))))
    have s38 := s1.trans (s2.trans (s3.trans (s4.trans (s5.trans (s6.trans (s7.trans s8))))))
    clear i1 i2 i3 i4 i5 i6 i7 c1 c2 c3 c4 c5 c6 c7 s1 s2 s3 s4 s5 s6 s7 s8 h1 h2 h3 h4 h5 h6 h7
    refine ⟨_, rfl, _, rfl, ?_⟩
    refine ⟨_, rfl, _, rfl, sz1 (by simp), fun t9 h9 => ?_⟩
    have s9 : Same G8 (upd G8 t9 (.tup [V.int n1, V.int n2])) := Same.new h9
    have i9 : OkV K p (upd G8 t9 (.tup [V.int n1, V.int n2])) (.ref t9) := OkV.sq (t := true) [.nu n1, .nu n2] upd_same (c8.ne h9).symm (by simp)
    have c9 := c8.same s9
    generalize upd G8 t9 (.tup [V.int n1, V.int n2]) = G9 at s9 i9 c9 ⊢
    refine ⟨_, rfl, _, rfl, sz1 (by simp), fun t10 h10 => ?_⟩
    have s10 : Same G9 (upd G9 t10 (.tup [V.int n1, V.int n2])) := Same.new h10
    have i10 : OkV K p (upd G9 t10 (.tup [V.int n1, V.int n2])) (.ref t10) := OkV.sq (t := true) [.nu n1, .nu n2] upd_same (c9.ne h10).symm (by simp)
    have c10 := c9.same s10
    generalize upd G9 t10 (.tup [V.int n1, V.int n2]) = G10 at s10 i10 c10 ⊢
    refine ⟨_, rfl, _, rfl, sz1 (by simp), fun t11 h11 => ?_⟩
    have s11 : Same G10 (upd G10 t11 (.tup [V.int n1, V.int n2])) := Same.new h11
    have i11 : OkV K p (upd G10 t11 (.tup [V.int n1, V.int n2])) (.ref t11) := OkV.sq (t := true) [.nu n1, .nu n2] upd_same (c10.ne h11).symm (by simp)
    have c11 := c10.same s11
    generalize upd G10 t11 (.tup [V.int n1, V.int n2]) = G11 at s11 i11 c11 ⊢
    refine ⟨_, rfl, _, rfl, sz1 (by simp), fun t12 h12 => ?_⟩
    have s12 : Same G11 (upd G11 t12 (.lst [V.int n1, V.int n2])) := Same.new h12
    have i12 : OkV K p (upd G11 t12 (.lst [V.int n1, V.int n2])) (.ref t12) := OkV.sq (t := false) [.nu n1, .nu n2] upd_same (c11.ne h12).symm (by simp)
    have c12 := c11.same s12
    generalize upd G11 t12 (.lst [V.int n1, V.int n2]) = G12 at s12 i12 c12 ⊢
    have hn1' := sh_lo (hsh _ hn1)
    refine ⟨_, rfl, n1, rfl, log_of (Nat.lt_of_le_of_lt (show n1.natAbs ≤ 999999999 by omega) (by decide)), _, rfl, sz1 (by simp), fun t13 h13 => ?_⟩
    generalize ((toString n1 : String) : Str) = zs at h13 ⊢
    have s13 : Same G12 (upd G12 t13 (.tup [V.str zs, V.int n2])) := Same.new h13
    have i13 : OkV K p (upd G12 t13 (.tup [V.str zs, V.int n2])) (.ref t13) := OkV.sq (t := true) [.st zs, .nu n2] upd_same (c12.ne h13).symm (by simp)
    have c13 := c12.same s13
    generalize upd G12 t13 (.tup [V.str zs, V.int n2]) = G13 at s13 i13 c13 ⊢
    refine ⟨sz1 (by simp), fun t14 h14 => ?_⟩
    have s14 : Same G13 (upd G13 t14 (.lst [])) := Same.new h14
    have i14 : OkV K p (upd G13 t14 (.lst [])) (.ref t14) := OkV.sq (t := false) [] upd_same (c13.ne h14).symm (by simp)
    have c14 := c13.same s14
    generalize upd G13 t14 (.lst []) = G14 at s14 i14 c14 ⊢
    refine ⟨_, _, rfl, rfl, ⟨by decide, by decide, by decide⟩, sz1 (by simp), fun ml hml => ?_⟩
    have s15 : Same G14 (upd G14 ml (.lst [.ref t9, .ref t10, .ref t11, .ref t12, .ref t13, .ref t14, V.int (10 ^ (18 : Int).toNat)])) := Same.new hml
    have sx := s9.trans (s10.trans (s11.trans (s12.trans (s13.trans (s14.trans s15)))))
    have a15 : AllV K p (upd G14 ml (.lst [.ref t9, .ref t10, .ref t11, .ref t12, .ref t13, .ref t14, V.int (10 ^ (18 : Int).toNat)])) [.ref t9, .ref t10, .ref t11, .ref t12, .ref t13, .ref t14, V.int (10 ^ (18 : Int).toNat)] :=
      .cons (i9.same (s10.trans (s11.trans (s12.trans (s13.trans (s14.trans s15)))))) (.cons (i10.same (s11.trans (s12.trans (s13.trans (s14.trans s15))))) (.cons (i11.same (s12.trans (s13.trans (s14.trans s15)))) (.cons (i12.same (s13.trans (s14.trans s15))) (.cons (i13.same (s14.trans s15)) (.cons (i14.same s15) (.cons (.fl (.nu _)) .nil))))))
    have a16 := a8.same sx
    have hod := sx _ _ ho8
    have c15 := c14.same s15
    have s315 := s38.trans sx
    clear i9 i10 i11 i12 i13 i14 s9 s10 s11 s12 s13 s14 s15 h9 h10 h11 h12 h13 h14 c9 c10 c11 c12 c13 c14 s38 sx a8 ho8 c8
    refine ⟨od, ml, [V.non, V.int 7, V.str "ab", .ref t1, .ref t2, .ref t3, .ref t4, .ref t5, .ref t6, .ref t7], [.ref t9, .ref t10, .ref t11, .ref t12, .ref t13, .ref t14, V.int (10 ^ (18 : Int).toNat)], rfl, rfl, hod, upd_same, sz1 (by simp), fun qq hqq => ?_⟩
    generalize upd G14 ml (.lst [.ref t9, .ref t10, .ref t11, .ref t12, .ref t13, .ref t14, V.int (10 ^ (18 : Int).toNat)]) = G15 at a15 a16 hod c15 s315 hqq ⊢
    have aa : AllV K p G15 ([V.non, V.int 7, V.str "ab", .ref t1, .ref t2, .ref t3, .ref t4, .ref t5, .ref t6, .ref t7] ++ [.ref t9, .ref t10, .ref t11, .ref t12, .ref t13, .ref t14, V.int (10 ^ (18 : Int).toNat)]) := fun v hv => (List.mem_append.mp hv).elim (a16 v) (a15 v)
    have lx : 0 < ([V.non, V.int 7, V.str "ab", .ref t1, .ref t2, .ref t3, .ref t4, .ref t5, .ref t6, .ref t7] ++ [.ref t9, .ref t10, .ref t11, .ref t12, .ref t13, .ref t14, V.int (10 ^ (18 : Int).toNat)]).length ∧ ([V.non, V.int 7, V.str "ab", .ref t1, .ref t2, .ref t3, .ref t4, .ref t5, .ref t6, .ref t7] ++ [.ref t9, .ref t10, .ref t11, .ref t12, .ref t13, .ref t14, V.int (10 ^ (18 : Int).toNat)]).length ≤ 1000 := by simp
    generalize [V.non, V.int 7, V.str "ab", .ref t1, .ref t2, .ref t3, .ref t4, .ref t5, .ref t6, .ref t7] ++ [.ref t9, .ref t10, .ref t11, .ref t12, .ref t13, .ref t14, V.int (10 ^ (18 : Int).toNat)] = xs at aa lx ⊢
    have sq := Same.new hqq (o := .lst xs)
    refine ⟨p, qq, xs, rfl, upd_same, lx.1, lx.2, c15.same sq, c15.ne hqq, fun v H5 hv k5 b5 => ?_⟩
    obtain ⟨it, hit, nv⟩ := ((aa v hv).same sq).kp k5
    have kA : Kp p H H5 := (kk.trans (s315.trans sq).kp).trans k5
    clear aa sq hqq hod c15 s315 a15 a16 hml
    have ha5 := kA _ _ nap ha
    have hl5 := hl.kp hB kA
    refine ⟨_, rfl, _, rfl, a, _, rfl, .inl (SqL.of ha5), _, _, rfl, rfl, p, _, rfl, b5, by rw [rfp_len]; omega, by rw [rfp_len]; omega, fun r6 H6 r60 r61 k6 b6 => ?_⟩
    rw [rfp_len] at r61
    refine ⟨_, rfl, p, 2, rfl, b6, by decide, by decide, fun r7 H7 _ _ k7 b7 => ⟨rfl, _, rfl, ?_⟩⟩
    have kB := (kA.trans k6).trans k7
    have ha7 := kB _ _ nap ha
    have hl7 := hl.kp hB kB
    have hit7 := (hit.kp k6 nv).kp k7 nv
    obtain ⟨cn, rfl⟩ := Int.eq_ofNat_of_zero_le r60
    have fin : ∀ (Hf : Hp) (q5 : Addr) (c c' : Nat), c ≤ c' → Same H7 Hf → q5 ≠ p → Hf q5 = some (.lst (((rfp l).take c ++ [v]) ++ (rfp l).drop c')) → Q (.ref q5) Hf := fun Hf q5 c c' lcc sf nq hq => by
      refine q q5 _ Hf (kB.trans sf.kp) (b7.same sf) ⟨q5, ((ip l).take c ++ [(v, it)]) ++ (ip l).drop c', rfl, nq, ?_, rfl, ?_, fun z hz => ?_⟩
      · refine SqL.of ?_
        rw [hq, List.map_append, List.map_append, List.map_take, List.map_drop, ip_fst]; rfl
      · have := List.length_take_le c (ip l)
        have e : (ip l).length = l.length := List.length_map ..
        simp only [List.length_append, List.length_drop, List.length_cons, List.length_nil, List.length_take]; omega
      · rcases List.mem_append.mp hz with hz | hz
        · rcases List.mem_append.mp hz with hz | hz
          · exact ip_ok (hl7.same sf) (b7.same sf) z (List.mem_of_mem_take hz)
          · rw [List.mem_singleton.mp hz]; exact ⟨hit7.same sf, nv⟩
        · exact ip_ok (hl7.same sf) (b7.same sf) z (List.mem_of_mem_drop hz)
    refine dC (fun c => ?_) (fun c => ?_)
    · refine ⟨_, rfl, _, rfl, _, rfl, a, _, rfl, SqL.of ha7, fun q1 hq1 => ?_⟩
      rw [Cm.cutT]
      have s1 := Same.new hq1 (o := .lst ((rfp l).take cn))
      refine ⟨_, rfl, sz1 (by simp), fun q2 hq2 => ⟨q1, q2, _, _, rfl, rfl, Same.new hq2 _ _ upd_same, upd_same, Nat.le_of_lt (sz2 (by simp only [List.length_take, List.length_cons, List.length_nil, rfp_len]; omega)), fun q3 hq3 => ?_⟩⟩
      have s2 := s1.trans ((Same.new hq2 (o := .lst [v])).trans (Same.new hq3 (o := .lst ((rfp l).take cn ++ [v]))))
      refine ⟨_, rfl, _, rfl, _, rfl, a, _, rfl, SqL.of (s2 _ _ ha7), fun q4 hq4 => ?_⟩
      rw [Cm.cutD]
      have s3 := s2.trans (Same.new hq4 (o := .lst ((rfp l).drop cn)))
      refine ⟨q3, q4, _, _, rfl, rfl, Same.new hq4 _ _ upd_same, upd_same, Nat.le_of_lt (sz2 (by simp only [List.length_append, List.length_take, List.length_drop, List.length_cons, List.length_nil, rfp_len]; omega)), fun q5 hq5 => ?_⟩
      exact fin _ q5 cn cn (Nat.le_refl _) (s3.trans (Same.new hq5)) (b7.ne (s3.free hq5)).symm upd_same
    · refine ⟨_, rfl, _, rfl, _, rfl, a, _, rfl, SqL.of ha7, fun q1 hq1 => ?_⟩
      rw [Cm.cutT]
      have s1 := Same.new hq1 (o := .lst ((rfp l).take cn))
      refine ⟨_, rfl, sz1 (by simp), fun q2 hq2 => ⟨q1, q2, _, _, rfl, rfl, Same.new hq2 _ _ upd_same, upd_same, Nat.le_of_lt (sz2 (by simp only [List.length_take, List.length_cons, List.length_nil, rfp_len]; omega)), fun q3 hq3 => ?_⟩⟩
      have s2 := s1.trans ((Same.new hq2 (o := .lst [v])).trans (Same.new hq3 (o := .lst ((rfp l).take cn ++ [v]))))
      refine ⟨_, rfl, _, rfl, _, _, rfl, rfl, _, rfl, a, _, rfl, SqL.of (s2 _ _ ha7), fun q4 hq4 => ?_⟩
      rw [show (cn : Int) + 1 = ((cn + 1 : Nat) : Int) from rfl]
      rw [Cm.cutD]
      have s3 := s2.trans (Same.new hq4 (o := .lst ((rfp l).drop (cn + 1))))
      refine ⟨q3, q4, _, _, rfl, rfl, Same.new hq4 _ _ upd_same, upd_same, Nat.le_of_lt (sz2 (by simp only [List.length_append, List.length_take, List.length_drop, List.length_cons, List.length_nil, rfp_len]; omega)), fun q5 hq5 => ?_⟩
      exact fin _ q5 cn (cn + 1) (Nat.le_succ _) (s3.trans (Same.new hq5)) (b7.ne (s3.free hq5)).symm upd_same
end
end K29
namespace K29
open PySem PySem.Spec PyProof.Rows Cm
open L2 hiding Same
/-! ### made or refused -/
theorem takesF {X : Cx} : Takes X (fun _ _ _ _ => False) := fun u s' ⟨a, B, sI, pins, σ, H, cls, d, e, I, nb, up, sky, na, os, ag, w⟩ => w.elim
theorem made2 {K : PySem.W.Frag} {H : Hp} {v : V} {th : Th} {ps : List Pr} {Q : VK} {E : XK} {y dx : Addr} (hv : ThAt K H v th) (ht : Tells th ps) (vp : Val ps) (hy : H y = none) (hdx : H dx = none) (ne : dx ≠ y) (q : ∀ H', Same H H' → RenAt K H' y (mv ps) → Q .non H') :
    spInit K [.ref y, v] (upd (upd H dx (.own y)) y (.ins (RC K) dx [])) Q E := by
  obtain ⟨y2, dx2, v2, th2, e, h1, h2, h3, h4⟩ := made (K := K) (Q := fun r H' => r = .ref y → Q .non H') (E := E) hv ht vp (fun x H' s r e => by cases e; exact q H' s r) y dx hy hdx ne
  cases e
  exact ⟨y, dx2, v, th2, rfl, h1, h2, h3, fun ps2 t2 p2 H' k r => (h4 ps2 t2 p2 H' k r).2 rfl⟩
def spMade (K : PySem.W.Frag) : Sp := fun vs H Q _ => ∃ (v : V) (th : Th), vs = [v] ∧ ThAt K H v th ∧ (∀ ps, Tells th ps → Val ps → ∀ x H', Same H H' → RenAt K H' x (mv ps) → Q (.ref x) H') ∧
  (∀ i, wrong th = some i → ∀ H' q, Same H H' → H' q = some (.lst [.str "wrong", .int i, .bl true, .bl true]) → Q (.ref q) H')
def spSwd (K : PySem.W.Frag) : Sp := fun vs H Q _ => ∃ (v1 v2 : V) (i1 i2 : It), vs = [v1, v2] ∧ ItAt K H v1 i1 ∧ ItAt K H v2 i2 ∧
  (∀ a b, i1 = .fl (.nu a) → i2 = .fl (.nu b) → sh a = true → sh b = true → ∀ x H', Same H H' → RenAt K H' x (mv (swp a b)) → Q (.ref x) H') ∧
  ((shI i1 && shI i2) = false → ∀ H' q, Same H H' → H' q = some (.lst [.str "wrong", .int 0]) → Q (.ref q) H')
section
variable {P : Program} {w : World} {K : PySem.W.Frag} {mg : Str → Option Value} {base : Heap} {sa : Addr} {sx : List Int}
theorem excc (T : Tx K mg sa sx) : ExcC K (BC K) := by
  have x := xfB_ok (exb T).xf
  exact ⟨x.ga, x.gg, x.exC, x.hdC, (exb T).cc, x_cget T, x_ctak T, (exb T).mo⟩
theorem ok_l_made (T : Tx K mg sa sx) (hP : PF P) : Cal P w K mg base 9 "_law_made" (spMade K) := by
  obtain ⟨fd, F⟩ := f_l_made T
  obtain ⟨fi, FI, bI, _⟩ := ok_init (P := P) (w := w) (base := base) T hP
  refine ⟨_, fd, ["_law_things"], fnok F sc_l_made (fun vs H Q E h => ?_) (fun cdv A outer s H vs Q E hr h => ?_), F.bindsN fun _ _ _ _ _ _ us hl => match us, hl with | [_], _ => rfl, g__law_made T, F.kp⟩
  · obtain ⟨v, th, rfl, _⟩ := h; rfl
  · obtain ⟨v, th, rfl, hv, q, qw⟩ := h
    refine ⟨_, (pss_cons (ps_try_as (i := 2) (c := .ref (BC K)) rfl rfl sc_l_made.nd rfl rfl ⟨rfl, by decide, .inl (g_BadRenaming T)⟩ takesF
      (fun W pn xe tk pw => pss_one (ps_set (i := 1) sc_l_made.nd rfl (by first | exact Or.inl rfl | exact Or.inr rfl) (pe_make (m_Renaming T) FI (hr.mono (by decide)) rfl (g_Renaming T) bI .nil (E := fun cls d H => ∀ σ : L2.St, σ.length = 3 → W cls d σ H) (passes_len tk (fun cls d σ H l h => h σ l)) (pa_cons (pv 0) pa_nil))))
      (fun a oe cls d pn hz hf => pss_one (ps_ret (pe_lst (pa_cons pe_str (pa_cons (pe_xf (xfB_ok (exb T).xf) (x_nob T) hz hf (pv 2)) (pa_cons (pe_callB (id := "isinstance") (call_isF (excc T) hz hf) rfl (n_isinstance T) (by decide +kernel) (pa_cons (pv 2) (pa_cons (pe_glob (v := .ref _) rfl (g_QuietError T) rfl) pa_nil))) (pa_cons (pe_callB (id := "isinstance") (call_isF (excc T) hz hf) rfl (n_isinstance T) (by decide +kernel) (pa_cons (pv 2) (pa_cons (pe_bltn (v := .ty "ValueError") rfl (n_ValueError T) (by decide +kernel) rfl) pa_nil))) pa_nil))))))))
      (pss_one (ps_ret (pv 1)))), ?_⟩
    cases hw : wrong th with
    | none =>
      obtain ⟨ps, ht, vp⟩ := tells_of hw
      exact ⟨_, rfl, fun y dx hy hdx ne => made2 hv ht vp hy hdx ne fun H2 s r => ⟨rfl, _, rfl, q ps ht vp y H2 s r⟩⟩
    | some i =>
      refine ⟨_, rfl, fun y dx hy hdx ne => ?_⟩
      have s0 : Same H (upd (upd H dx (.own y)) y (.ins (RC K) dx [])) := (Same.new hdx).trans (Same.new (by rw [upd_ne ne.symm]; exact hy))
      refine ⟨y, dx, v, th, rfl, upd_same, hv.same s0, fun j hj H' d s h2 σ hl => ⟨true, (exb T).em, fun _ a ha => ?_, fun z => by cases z⟩, fun ps ht vp => ?_⟩
      · rw [hw] at hj
        cases hj
        match σ, hl with
        | [x0, x1, x2], _ =>
          refine ⟨_, rfl, rfl, rfl, d, _, .int i, rfl, h2, rfl, _, rfl, .ref (He.ga K "QuietError"), .ref (He.ga K "QuietError"), true, d, _, rfl, rfl, (fun u r => r), x_kitq T, rfl, h2, _, rfl, .ty "ValueError", .type "ValueError", true, d, _, rfl, rfl, (fun u r => r), x_kitv T, rfl, h2, sz1 (by simp), fun l hl => ?_⟩
          exact qw i hw _ l ((s0.trans s).trans (Same.new hl)) upd_same
      · rw [ht.right vp] at hw; cases hw
theorem ok_l_swapped (T : Tx K mg sa sx) (hP : PF P) : Cal P w K mg base 9 "_law_swapped" (spSwd K) := by
  obtain ⟨fd, F⟩ := f_l_swapped T
  refine ⟨_, fd, ["_law_n", "_law_m"], fnok F sc_l_swapped (fun vs H Q E h => ?_) (fun cdv A outer s H vs Q E hr h => ?_), F.bindsN fun _ _ _ _ _ _ us hl => match us, hl with | [_, _], _ => rfl, g__law_swapped T, F.kp⟩
  · obtain ⟨v1, v2, i1, i2, rfl, _⟩ := h; rfl
  · obtain ⟨v1, v2, i1, i2, rfl, h1, h2, q, qw⟩ := h
    refine ⟨_, (pss_cons (ps_try_as (i := 3) (c := .ref (BC K)) rfl rfl sc_l_swapped.nd rfl rfl ⟨rfl, by decide, .inl (g_BadRenaming T)⟩ takesF
      (fun W pn xe tk pw => pss_one (ps_set (i := 2) sc_l_swapped.nd rfl (by first | exact Or.inl rfl | exact Or.inr rfl) (ClX.pe_cmeth (pe_glob (v := .ref _) rfl (g_Renaming T) rfl) (cr T) (ofc T) (ok_swap T hP) (hr.mono (by decide)) (E := fun cls d H => ∀ σ : L2.St, σ.length = 4 → W cls d σ H) (passes_len tk (fun cls d σ H l h => h σ l)) (pa_cons (pv 0) (pa_cons (pv 1) pa_nil)))))
      (fun a oe cls d pn hz hf => pss_one (ps_ret (pe_lst (pa_cons pe_str (pa_cons (pe_xf (xfB_ok (exb T).xf) (x_nob T) hz hf (pv 3)) pa_nil))))))
      (pss_one (ps_ret (pv 2)))), ?_⟩
    refine ⟨rfl, _, rfl, _, rfl, v1, v2, i1, i2, rfl, h1, h2, fun a b e1 e2 sa' sb' x H' s r => ⟨_, rfl, q a b e1 e2 sa' sb' x H' s r⟩, fun hb H' d s h2 σ hl => ⟨true, (exb T).em, fun _ a ha => ?_, fun z => by cases z⟩⟩
    match σ, hl with
    | [x0, x1, x2, x3], _ =>
      refine ⟨_, rfl, rfl, rfl, d, _, .int 0, rfl, h2, rfl, sz1 (by simp), fun l hl => ?_⟩
      exact qw hb _ l (s.trans (Same.new hl)) upd_same
end
end K29
namespace K29
open PySem PySem.Spec PyProof.Rows Cm
open L2 hiding Same
/-! ### what the law's look at a renaming needs -/
section
variable {X : Cx} {j k : Nat} {x : Str} {C : Addr} {sp : Sp} {dv : List V} {p pos : Pos}
theorem pe_kal0 (c : KCal X.prog X.w X.K X.mg X.base k x C sp dv) (hr : Room j X.A) (hk : k + 1 ≤ j) (hg : Gl X x := by rfl) (hd : (x == ("__debug__" : Str)) = false := by decide) :
    PE X (.Call (.Name x p) [] [] pos) (tMake C sp dv E0 tNil) := by
  obtain ⟨g, f, fd, ps, ds, M, F, b, v⟩ := c
  exact pe_make0 M F (hr.mono hk) hg g b v pass0 hd
end
/-- a comprehension over a list of numbers, one value each: what its walk wants of the list -/
theorem lc_mapK {K : PySem.W.Frag} {a : Addr} {ns : List Int} {f : Int → V} {i : Nat} {te : TE} {vs : List Nat} {σ : L2.St} {H1 : Hp} {Q : Addr → Hp → Prop} (ha : H1 a = some (.lst (ns.map V.int))) (hl : ns.length ≤ 1000)
    (hw : ∀ v, wipe ((wipe σ vs).set i (some v)) vs = wipe σ vs)
    (hs : ∀ n ∈ ns, ∀ H' (R : VK), Same H1 H' → (∀ H4, Same H' H4 → R (f n) H4) → te ((wipe σ vs).set i (some (.int n))) H' R)
    (q : ∀ D H', H1 D = none → Same H1 H' → H' D = some (.lst (ns.map f)) → Q D H') :
    ∃ a', V.ref a = .ref a' ∧ (∃ xs, SqL K H1 a' xs) ∧ ∀ D, H1 D = none → ∃ W : Nat → Nat → Hp → Prop, (∃ m, W 0 m (upd H1 D (.lst []))) ∧ ∀ c m H, W c m H →
      ((Itl K a').stop c H ∧ Q D H) ∨ ((Itl K a').go c H ∧ ∃ Nx : Hp → Prop, (∀ H', Nx H' → ∃ m', m' < m ∧ W (c + 1) m' H') ∧ ∀ x H', (Itl K a').yld c H x H' → gName i x (wipe σ vs) H' fun σ2 H2 => wipe σ2 vs = wipe σ vs ∧ tYes σ2 H2 fun b H3 =>
        if b = true then te σ2 H3 fun y H4 => ∃ acc, H4 D = some (.lst acc) ∧ acc.length < sizeLine ∧ Nx (upd H4 D (.lst (acc ++ [y]))) else Nx H3) := by
  refine ⟨a, rfl, ⟨_, SqL.of ha⟩, fun D hD => ?_⟩
  refine lc_list (K := K) (xs := ns.map V.int) (fun c H' => Same H1 H' ∧ H' D = some (.lst ((ns.take c).map f))) ⟨Same.new hD, upd_same⟩ (fun c H' _ h => SqL.of (h.1 _ _ ha)) ?_ ?_
  · rintro c v H' hc ⟨sm, hS⟩
    obtain ⟨hc2, rfl⟩ := map_at hc
    refine ⟨hw _, ?_⟩
    unfold tYes
    dsimp only
    rw [if_pos rfl]
    refine (hs _ (List.getElem_mem hc2) H' _ sm fun H4 s4 => ⟨_, s4 _ _ hS, sz2 (by simp only [List.length_map, List.length_take]; omega), (sm.trans s4).mut hD, ?_⟩)
    rw [upd_same, take_snoc hc2, List.map_append]; rfl
  · rintro H' ⟨sm, hS⟩
    rw [List.take_of_length_le (by rw [List.length_map]; exact Nat.le_refl _)] at hS
    exact q D H' hD sm hS
/-! the dict of a table -/
def kvP (ps : List Pr) : List (L2.Key × V) := ps.map fun p => (Sum.inl p.1, V.int p.2)
theorem kvP_len (ps : List Pr) : (kvP ps).length = ps.length := List.length_map ..
theorem merge_kv2 : ∀ (bs as : List Pr), (f1 (as ++ bs)).Nodup → mergeK (kvP as) (kvP bs) = kvP (as ++ bs)
  | [], as, _ => by rw [List.append_nil]; rfl
  | p :: bs, as, n => by
    have n2 : (f1 ((as ++ [p]) ++ bs)).Nodup := by rw [List.append_assoc]; exact n
    have h : p.1 ∉ f1 as := fun z => by
      unfold f1 at n z
      rw [List.map_append] at n
      exact (List.nodup_append.mp n).2.2 _ z _ List.mem_cons_self rfl
    have e := merge_kv2 bs (as ++ [p]) n2
    rw [List.append_assoc] at e
    show mergeK (putK (kvP as) (Sum.inl p.1) (V.int p.2)) (kvP bs) = _
    rw [show putK (kvP as) (Sum.inl p.1) (V.int p.2) = kvP (as ++ [p]) from putK_fresh h]
    exact e
theorem merge_kv {ps : List Pr} (n : (f1 ps).Nodup) : mergeK [] (kvP ps) = kvP ps := merge_kv2 ps [] n
theorem paired_kv {K : PySem.W.Frag} {H : Hp} : ∀ {l : PL}, PrsAt H l → Paired (fun (p : Addr) (kv : L2.Key × V) => SqT K H p [kV kv.1, kv.2]) (l.map (·.1)) (kvP (prs l))
  | [], _ => .nil
  | e :: l, h => .cons (SqT.of (h e List.mem_cons_self)) (paired_kv fun q hq => h q (List.mem_cons_of_mem _ hq))
theorem valV_at : ∀ {ps : List Pr}, (f1 ps).Nodup → ∀ {a b : Int}, (a, b) ∈ ps → valV (kvP ps) (Sum.inl a) = some (.int b)
  | [], _, _, _, h => by cases h
  | p :: ps, n, a, b, h => by
    unfold f1 at n
    rw [List.map_cons, List.nodup_cons] at n
    rcases List.mem_cons.mp h with e | h
    · exact valV_pos (p := (Sum.inl p.1, V.int p.2)) (by rw [← e]) |>.trans (by rw [← e])
    · have : ¬ p.1 = a := fun e => n.1 (e ▸ f1_mem h)
      exact (valV_neg (p := ((Sum.inl p.1 : L2.Key), V.int p.2)) (fun e => this (by injection e))).trans (valV_at n.2 h)
theorem kvP_at {ps : List Pr} {i : Nat} {k : L2.Key} {v : V} (h : (kvP ps)[i]? = some (k, v)) : ∃ hi : i < ps.length, k = Sum.inl ps[i].1 ∧ v = .int ps[i].2 := by
  unfold kvP at h
  rw [List.getElem?_map] at h
  cases e : ps[i]? with
  | none => rw [e] at h; cases h
  | some n =>
    rw [e] at h
    obtain ⟨hi, e2⟩ := List.getElem?_eq_some_iff.mp e
    cases h
    exact ⟨hi, by rw [e2], by rw [e2]⟩
theorem lock_same {H H' : Hp} {d : Addr} {u f : HO} (hd : H d = some u) (s : Same (upd H d f) H') : Same H (upd H' d u) := fun b o h => by
  by_cases e : b = d
  · subst e
    rw [hd] at h
    rw [upd_same, h]
  · rw [upd_ne e]
    exact s b o (by rw [upd_ne e]; exact h)
/-! lists as data -/
theorem dp_bls {K : PySem.W.Frag} {H : Hp} : ∀ bs : List Bool, DpAll K H (bs.map V.bl) (bs.map PyData.bool)
  | [] => .nil
  | b :: bs => .cons (.bl b) (dp_bls bs)
theorem lay_bls : ∀ bs : List Bool, PyData.canLayAll0 (bs.map PyData.bool) = true ∧ PyData.depthAll (bs.map PyData.bool) = 0
  | [] => ⟨rfl, rfl⟩
  | b :: bs => by
    obtain ⟨h1, h2⟩ := lay_bls bs
    exact ⟨by simp [PyData.canLayAll0, PyData.canLay0, h1], by simp [PyData.depthAll, PyData.depth, h2]⟩
theorem shp_bls (bs : List Bool) : SeqAt.shaped (.list (bs.map PyData.bool)) = true := by
  obtain ⟨h1, h2⟩ := lay_bls bs
  show ((PyData.list (bs.map .bool)).canLay0 && decide ((PyData.list (bs.map .bool)).depth ≤ 64)) = true
  rw [Bool.and_eq_true]
  exact ⟨by simp only [PyData.canLay0]; exact h1, decide_eq_true (by simp only [PyData.depth]; omega)⟩
theorem eqvA_bls : ∀ bs : List Bool, PyData.eqvAll (bs.map PyData.bool) (bs.map PyData.bool) = true
  | [] => by simp [PyData.eqvAll]
  | b :: bs => by
    show (PyData.eqv (.bool b) (.bool b) && PyData.eqvAll (bs.map .bool) (bs.map .bool)) = true
    rw [eqvA_bls bs]
    cases b <;> simp [PyData.eqv]
theorem eqv_blsR (bs : List Bool) : PyData.eqv (.list (bs.map PyData.bool)) (.list (bs.map PyData.bool)) = true := by
  simp only [PyData.eqv]; exact eqvA_bls bs
theorem eqvA_int2 : ∀ ms ns : List Int, PyData.eqvAll (ms.map PyData.int) (ns.map PyData.int) = decide (ms = ns)
  | [], [] => by simp [PyData.eqvAll]
  | [], _ :: _ => by simp [PyData.eqvAll]
  | _ :: _, [] => by simp [PyData.eqvAll]
  | m :: ms, n :: ns => by
    show (PyData.eqv (.int m) (.int n) && PyData.eqvAll (ms.map .int) (ns.map .int)) = _
    rw [eqvA_int2 ms ns]
    by_cases h1 : m = n <;> by_cases h2 : ms = ns <;> simp [h1, h2, PyData.eqv]
theorem eqv_int2 (ms ns : List Int) : PyData.eqv (.list (ms.map PyData.int)) (.list (ns.map PyData.int)) = decide (ms = ns) := by
  simp only [PyData.eqv]; exact eqvA_int2 ms ns
theorem tells_sh {th : Th} {ps : List Pr} (h : Tells th ps) : ShP ps := by
  obtain ⟨t, is, rfl, e⟩ := h
  intro p hp
  have : some p ∈ is.map pairI := by rw [e]; exact List.mem_map_of_mem hp
  obtain ⟨it, _, e2⟩ := List.mem_map.mp this
  obtain ⟨_, _, h1, h2⟩ := pairI_some e2
  exact ⟨h1, h2⟩
section
variable {P : Program} {w : World} {K : PySem.W.Frag} {mg : Str → Option Value} {base : Heap} {sa : Addr} {sx : List Int}
theorem ical (T : Tx K mg sa sx) : ICal P w K mg base 2 (RC K) (spRen K) := by
  obtain ⟨fd, F⟩ := f_Renaming_call T
  obtain ⟨_, f, fd2, ps, FF, b, M⟩ := ok_call (P := P) (w := w) (base := base) T
  have ef : f = He.ma K (RC K) "__call__" := by
    have h1 := M.at_
    have h2 := (me_Renaming_call T).at_
    rw [h1] at h2
    injection h2 with h2
    injection h2 with h2
    injection h2
  refine ⟨f, fd2, ps, FF, b, M, ?_⟩
  obtain ⟨_, _, _, _, _, _, _, _, _, _, _, lk, _⟩ := F.ex
  unfold PySem.W.fnIn
  rw [ef, lk]
end
end K29
namespace K29
open PySem PySem.Spec PyProof.Rows Cm
open L2 hiding Same
/-! ### the law's look at a renaming -/
def spRight (K : PySem.W.Frag) : Sp := fun vs H Q _ => ∃ (x b : Addr) (v : V) (th : Th) (ps : List Pr) (ns : List Int), vs = [.ref x, v, .ref b] ∧ RenAt K H x (mv ps) ∧ ThAt K H v th ∧ Tells th ps ∧ Val ps ∧ ps.length ≤ 10 ∧
  H b = some (.lst (ns.map V.int)) ∧ ns.length ≤ 50 ∧ ∀ H', Same H H' → Q (.bl true) H'
theorem keep_all (f : Int → Int) : ∀ ns : List Int, (ns.all fun n => decide (f n = n)) = decide (ns.map f = ns)
  | [] => rfl
  | n :: ns => by
    rw [List.all_cons, keep_all f ns, List.map_cons]
    by_cases h1 : f n = n <;> by_cases h2 : ns.map f = ns <;> simp [h1, h2]
theorem mv_nil : mv [] = [] := List.mergeSort_nil
theorem val_nil : Val [] := ⟨List.nodup_nil, List.nodup_nil, fun p hp => by cases hp⟩
section
variable {P : Program} {w : World} {K : PySem.W.Frag} {mg : Str → Option Value} {base : Heap} {sa : Addr} {sx : List Int}
theorem ok_l_is_right (T : Tx K mg sa sx) (hP : PF P) : Cal P w K mg base 9 "_law_is_right" (spRight K) := by
  obtain ⟨fd, F⟩ := f_l_is_right T
  refine ⟨_, fd, ["_law_made_here", "_law_things", "_law_nums"], fnok F sc_l_is_right (fun vs H Q E h => ?_) (fun cdv A outer s H vs Q E hr h => ?_), F.bindsN fun _ _ _ _ _ _ us hl => match us, hl with | [_, _, _], _ => rfl, g__law_is_right T, F.kp⟩
  · obtain ⟨x, b, v, th, ps, ns, rfl, _⟩ := h; rfl
  · obtain ⟨x, b, v, th, ps, ns, rfl, hx, hv, ht, vp, lp, hb, ln, q⟩ := h
    refine ⟨_, (pss_cons (ps_set (i := 3) sc_l_is_right.nd rfl (by first | exact Or.inl rfl | exact Or.inr rfl) (pe_callTy (T := "dict") (call_dictP rfl) rfl (n_dict T) (by decide +kernel) (pa_cons (pe_lc (own := [("_law_thing", 4)]) (g := gName 4) rfl sc_l_is_right.nd (pi_seq (pv 1)) (blkOk_by (own := [("_law_thing", 4)]) (N := ["_law_made_here", "_law_things", "_law_nums", "_law_table", "_law_thing", "_law_due", "_law_n", "_law_some", "_law_back"]) (sc := defScope s_l_is_right) (by decide +kernel)) (fun _ _ _ _ _ => pg_name (i := 4) sc_l_is_right.nd rfl (by first | exact Or.inl rfl | exact Or.inr rfl)) (fun _ _ _ _ _ => pts_nil) (fun _ _ _ _ _ => (pe_tup (pa_cons (pe_ix (show IxR _ (rIx K) from L2.ix_seq) (pv 4) pe_int (fun _ _ => rfl)) (pa_cons (pe_ix (show IxR _ (rIx K) from L2.ix_seq) (pv 4) pe_int (fun _ _ => rfl)) pa_nil))))) pa_nil)))
    (pss_cons (ps_set (i := 5) sc_l_is_right.nd rfl (by first | exact Or.inl rfl | exact Or.inr rfl) (pe_callB (id := "sorted") (call_sortedD hr.units) rfl (n_sorted T) (by decide +kernel) (pa_cons (pe_lock (pe_lc (own := [("_law_n", 6)]) (g := gName 6) rfl sc_l_is_right.nd (pi_keys (pv 3)) (blkOk_by (own := [("_law_n", 6)]) (N := ["_law_made_here", "_law_things", "_law_nums", "_law_table", "_law_thing", "_law_due", "_law_n", "_law_some", "_law_back"]) (sc := defScope s_l_is_right) (by decide +kernel)) (fun _ _ _ _ _ => pg_name (i := 6) sc_l_is_right.nd rfl (by first | exact Or.inl rfl | exact Or.inr rfl)) (fun _ _ _ _ _ => (pts_one (pt_cmpR op_ne (pv 6) (pe_dget (hu_of hr) (pv 3) (pv 6) (fun _ _ => rfl)) (nomark _)))) (fun _ _ _ _ _ => (pe_tup (pa_cons (pv 6) (pa_cons (pe_dget (hu_of hr) (pv 3) (pv 6) (fun _ _ => rfl)) pa_nil)))))) pa_nil)))
    (pss_cons (ps_if (PW.pt (pw_or (pt_cmpR (op_neD hr.units) (pe_fld (pv 0) rfl) (pe_callTy (T := "tuple") call_tuple_of rfl (n_tuple T) (by decide +kernel) (pa_cons (pv 5) pa_nil)) (nomark _)) (pw_or (pt_not (pt_val (pe_callB (id := "isinstance") (r := rIsi K) call_isi rfl (n_isinstance T) (by decide +kernel) (pa_cons (pe_fld (pv 0) rfl) (pa_cons (pe_bltn (v := .ty "tuple") rfl (n_tuple T) (by decide +kernel) rfl) pa_nil))))) (pw_or1 (pt_cmpR op_ne (pe_callB (id := "len") (call_ownLen (k := 1) hr (by decide)) rfl (n_len T) (by decide +kernel) (pa_cons (pv 0) pa_nil)) (pe_callB (id := "len") call_len_seq rfl (n_len T) (by decide +kernel) (pa_cons (pv 5) pa_nil)) (nomark _)))))) (pss_one (ps_ret pe_bl)) pss_nil)
    (pss_cons (ps_set (i := 7) sc_l_is_right.nd rfl (by first | exact Or.inl rfl | exact Or.inr rfl) (pe_op op_cat (pv 2) (pe_lst (pa_cons (pe_op op_add (pe_op op_pow pe_int pe_int) pe_int) (pa_cons (pe_un un_neg pe_int) (pa_cons pe_int (pa_cons pe_int pa_nil)))))))
    (pss_cons (ps_if (pt_cmpR (op_neD hr.units) (pe_lc (own := [("_law_n", 6)]) (g := gName 6) rfl sc_l_is_right.nd (pi_list (pv 7)) (blkOk_by (own := [("_law_n", 6)]) (N := ["_law_made_here", "_law_things", "_law_nums", "_law_table", "_law_thing", "_law_due", "_law_n", "_law_some", "_law_back"]) (sc := defScope s_l_is_right) (by decide +kernel)) (fun _ _ _ _ _ => pg_name (i := 6) sc_l_is_right.nd rfl (by first | exact Or.inl rfl | exact Or.inr rfl)) (fun _ _ _ _ _ => pts_nil) (fun _ _ _ _ _ => (show PE _ _ (tICall P w K mg base 2 0 _) from (pe_icall (i := 0) (k := 2) hr (by decide) (by rfl) (by first | exact Or.inl rfl | exact Or.inr (Or.inl rfl) | exact Or.inr (Or.inr rfl)) (pa_cons (pv 6) pa_nil))))) (pe_lc (own := [("_law_n", 6)]) (g := gName 6) rfl sc_l_is_right.nd (pi_list (pv 7)) (blkOk_by (own := [("_law_n", 6)]) (N := ["_law_made_here", "_law_things", "_law_nums", "_law_table", "_law_thing", "_law_due", "_law_n", "_law_some", "_law_back"]) (sc := defScope s_l_is_right) (by decide +kernel)) (fun _ _ _ _ _ => pg_name (i := 6) sc_l_is_right.nd rfl (by first | exact Or.inl rfl | exact Or.inr rfl)) (fun _ _ _ _ _ => pts_nil) (fun _ _ _ _ _ => (pe_dget2 (hu_of hr) (pv 3) (pv 6) (pv 6) ⟨by rfl, by rfl, by rfl, by rfl⟩))) (nomark _)) (pss_one (ps_ret pe_bl)) pss_nil)
    (pss_cons (ps_if (pt_cmpR (op_neD hr.units) (pe_lc (own := [("_law_n", 6)]) (g := gName 6) rfl sc_l_is_right.nd (pi_list (pv 7)) (blkOk_by (own := [("_law_n", 6)]) (N := ["_law_made_here", "_law_things", "_law_nums", "_law_table", "_law_thing", "_law_due", "_law_n", "_law_some", "_law_back"]) (sc := defScope s_l_is_right) (by decide +kernel)) (fun _ _ _ _ _ => pg_name (i := 6) sc_l_is_right.nd rfl (by first | exact Or.inl rfl | exact Or.inr rfl)) (fun _ _ _ _ _ => pts_nil) (fun _ _ _ _ _ => (show PE _ _ (tMeth (RC K) "keeps" (spKeeps K) [] E0 _ _) from pe_mcalA (ok_keeps T) hr (by decide) (pv 0) (pa_cons (pe_lst (pa_cons (pv 6) (pa_cons (pv 6) pa_nil))) pa_nil)))) (pe_lc (own := [("_law_n", 6)]) (g := gName 6) rfl sc_l_is_right.nd (pi_list (pv 7)) (blkOk_by (own := [("_law_n", 6)]) (N := ["_law_made_here", "_law_things", "_law_nums", "_law_table", "_law_thing", "_law_due", "_law_n", "_law_some", "_law_back"]) (sc := defScope s_l_is_right) (by decide +kernel)) (fun _ _ _ _ _ => pg_name (i := 6) sc_l_is_right.nd rfl (by first | exact Or.inl rfl | exact Or.inr rfl)) (fun _ _ _ _ _ => pts_nil) (fun _ _ _ _ _ => (pe_cmpR op_eq (pe_dget2 (hu_of hr) (pv 3) (pv 6) (pv 6) ⟨by rfl, by rfl, by rfl, by rfl⟩) (pv 6) (nomark _)))) (nomark _)) (pss_one (ps_ret pe_bl)) pss_nil)
    (pss_cons (ps_set (i := 8) sc_l_is_right.nd rfl (by first | exact Or.inl rfl | exact Or.inr rfl) (pe_mcal0 (ok_inverse T hP) hr (by decide) (pv 0)))
    (pss_cons (ps_if (PW.pt (pw_or (pt_cmpR (op_neD hr.units) (pe_lc (own := [("_law_n", 6)]) (g := gName 6) rfl sc_l_is_right.nd (pi_list (pv 7)) (blkOk_by (own := [("_law_n", 6)]) (N := ["_law_made_here", "_law_things", "_law_nums", "_law_table", "_law_thing", "_law_due", "_law_n", "_law_some", "_law_back"]) (sc := defScope s_l_is_right) (by decide +kernel)) (fun _ _ _ _ _ => pg_name (i := 6) sc_l_is_right.nd rfl (by first | exact Or.inl rfl | exact Or.inr rfl)) (fun _ _ _ _ _ => pts_nil) (fun _ _ _ _ _ => (show PE _ _ (tICall P w K mg base 2 8 _) from (pe_icall (i := 8) (k := 2) hr (by decide) (by rfl) (by first | exact Or.inl rfl | exact Or.inr (Or.inl rfl) | exact Or.inr (Or.inr rfl)) (pa_cons (show PE _ _ (tICall P w K mg base 2 0 _) from (pe_icall (i := 0) (k := 2) hr (by decide) (by rfl) (by first | exact Or.inl rfl | exact Or.inr (Or.inl rfl) | exact Or.inr (Or.inr rfl)) (pa_cons (pv 6) pa_nil))) pa_nil))))) (pv 7) (nomark _)) (pw_or1 (pt_cmpR op_ne (pe_mcalA (ok_keeps T) hr (by decide) (pv 0) (pa_cons (pv 7) pa_nil)) (pe_cmpR (op_eqD hr.units) (pv 7) (pe_lc (own := [("_law_n", 6)]) (g := gName 6) rfl sc_l_is_right.nd (pi_list (pv 7)) (blkOk_by (own := [("_law_n", 6)]) (N := ["_law_made_here", "_law_things", "_law_nums", "_law_table", "_law_thing", "_law_due", "_law_n", "_law_some", "_law_back"]) (sc := defScope s_l_is_right) (by decide +kernel)) (fun _ _ _ _ _ => pg_name (i := 6) sc_l_is_right.nd rfl (by first | exact Or.inl rfl | exact Or.inr rfl)) (fun _ _ _ _ _ => pts_nil) (fun _ _ _ _ _ => (pe_dget2 (hu_of hr) (pv 3) (pv 6) (pv 6) ⟨by rfl, by rfl, by rfl, by rfl⟩))) (nomark _)) (nomark _))))) (pss_one (ps_ret pe_bl)) pss_nil)
    (pss_one (ps_ret (pe_and (pe_cmpR (op_ownG (k := 1) hr (by decide)) (pe_op (op_ownBin (m := "__mul__") (k := 8) (by decide +kernel) hr (by decide)) (pv 8) (pv 0)) (pe_kal0 (kal0 T hP) hr (by decide)) (nomark _)) (pe_and (pe_cmpR (op_ownG (k := 1) hr (by decide)) (pe_op (op_ownBin (m := "__mul__") (k := 8) (by decide +kernel) hr (by decide)) (pv 0) (pv 8)) (pe_kal (kal1 T hP) hr (by decide) (pa_cons (pe_lst pa_nil) pa_nil)) (nomark _)) (pe_one (pe_cmpR (op_ownG (k := 1) hr (by decide)) (pe_mcal0 (ok_inverse T hP) hr (by decide) (pv 8)) (pv 0) (nomark _))))))))))))))), ?_⟩
    have sP := tells_sh ht
    obtain ⟨t, is, rfl, hps⟩ := ht
    obtain ⟨a0, l, rfl, ha, rfl, hl, hits⟩ := hv
    have lps : ps.length = l.length := by
      have := congrArg List.length hps
      simpa using this.symm
    have pat : ∀ i (hi : i < l.length), pairI l[i].2 = some (ps[i]'(by rw [lps]; exact hi)) := fun i hi => by
      have := congrArg (fun z : List (Option Pr) => z[i]?) hps
      simpa [hi, lps] using this
    unfold tSeq tAsg tCB tCons tNil
    dsimp only
    refine lc_seq (K := K) (a := a0) (xs := l.map (·.1)) (fun R r => ⟨_, rfl, r⟩) ha.sq fun D hD => ⟨fun i H' => ∃ m : PL, Same H H' ∧ H' D = some (.lst (rfp m)) ∧ prs m = ps.take i ∧ PrsAt H' m ∧ m.length = i, ⟨[], Same.new hD, upd_same, rfl, fun e he => (by cases he), rfl⟩, fun i H' h => ?_, fun i x H' hi h => ?_, fun H' h => ?_⟩
    · obtain ⟨m, sm, _⟩ := h; exact sm
    · obtain ⟨m, sm, hS, em, hm, lm⟩ := h
      obtain ⟨hi2, rfl⟩ := l_at hi
      have hip : i < ps.length := by rw [lps]; exact hi2
      obtain ⟨b0, eb, hb0⟩ := pair_at (hits _ (List.getElem_mem hi2)) (pat i hi2)
      rw [eb]
      have hbS : Sq K H' b0 [V.int ps[i].1, V.int ps[i].2] := hb0.same sm
      refine ⟨rfl, _, rfl, ix_pair hbS rfl ⟨_, rfl, ix_pair hbS rfl ⟨sz1 (by simp), fun p hp => ⟨rfp m, Same.new hp _ _ hS, sz2 (by rw [rfp_len]; omega), ?_⟩⟩⟩⟩
      obtain ⟨a1, a2, a3⟩ := pl_snoc (p := ps[i]) sm hD hS hm hp
      exact ⟨m ++ [(p, ps[i])], a1, a2, by rw [take_snoc hip]; unfold prs at em ⊢; rw [List.map_append, em]; rfl, a3, by rw [List.length_append, lm]; rfl⟩
    · obtain ⟨m, sm, hS, em, hm, lm⟩ := h
      rw [List.take_of_length_le (by rw [List.length_map]; omega)] at em
      rw [List.length_map] at lm
      have epk := paired_kv (K := K) hm
      rw [em] at epk
      refine ⟨D, m.map (fun e : Addr × Pr => e.1), kvP ps, rfl, SqL.of (by rw [hS, List.map_map]; rfl), epk, fun d hd0 => ?_⟩
      rw [merge_kv vp.n1]
      have sd := sm.trans (Same.new hd0 (o := .dK (kvP ps)))
      have hd : (upd H' d (.dK (kvP ps))) d = some (.dK (kvP ps)) := upd_same
      generalize upd H' d (.dK (kvP ps)) = H2 at sd hd ⊢
      clear hS hm hd0 epk sm
      refine ⟨d, _, hd, trivial, fun od => ⟨_, rfl, d, od, rfl, .inl ⟨_, upd_same, fun D2 hD2 => ?_⟩⟩⟩
      refine lc_it (walk_keys (d := d) (o := od) (kvs := kvP ps)) (fun i H' => ∃ m : PL, Same (upd H2 d (.frz od (.dK (kvP ps)))) H' ∧ H' D2 = some (.lst (rfp m)) ∧ prs m = moves (ps.take i) ∧ PrsAt H' m ∧ m.length ≤ i) ⟨[], Same.new hD2, upd_same, rfl, fun e he => (by cases he), Nat.le_refl _⟩ (fun i H' _ h => let ⟨m, sm, _⟩ := h; sm _ _ upd_same) ?_ ?_
      · rintro i x H' G hi ⟨m, sm, hS, em, hm, lm⟩ ⟨rfl, k, v, he, rfl⟩
        obtain ⟨hi2, rfl, rfl⟩ := kvP_at he
        have dg : DGet G d (.int ps[i].1) (some (.int ps[i].2)) := .inl ⟨kvP ps, .inl ps[i].1, .inr ⟨od, sm _ _ upd_same⟩, rfl, (valV_at vp.n1 (List.getElem_mem hi2)).symm⟩
        refine ⟨rfl, _, rfl, _, rfl, _, rfl, d, _, rfl, dg, rfl, _, rfl, ?_⟩
        refine uC (fun c => ?_) (fun c => ?_)
        · refine ⟨_, rfl, _, rfl, _, rfl, d, _, rfl, dg, sz1 (by simp), fun p hp => ⟨rfp m, Same.new hp _ _ hS, sz2 (by rw [rfp_len]; omega), ?_⟩⟩
          obtain ⟨a1, a2, a3⟩ := pl_snoc (p := ps[i]) sm hD2 hS hm hp
          refine ⟨m ++ [(p, ps[i])], a1, a2, ?_, a3, by rw [List.length_append]; show m.length + 1 ≤ i + 1; omega⟩
          rw [moves_snoc hi2, if_pos (fun z => c (by rw [z]; rfl))]; unfold prs; rw [List.map_append]; congr 1
        · have z : ps[i].1 = ps[i].2 := by injection c
          exact ⟨m, sm, hS, by rw [moves_snoc hi2, if_neg (fun y => y z), List.append_nil]; exact em, hm, by omega⟩
      · rintro H' ⟨m, sm, hS, em, hm, lm⟩
        rw [kvP_len] at em lm
        rw [List.take_of_length_le (Nat.le_refl _)] at em
        have hdf := sm _ _ (upd_same (a := d) (o := HO.frz od (.dK (kvP ps))))
        have s1 := lock_same (f := .frz od (.dK (kvP ps))) hd sm
        have nD : D2 ≠ d := fun z => by rw [z, hdf] at hS; cases hS
        have hS3 := (upd_ne (H := H') (o := HO.dK (kvP ps)) nD).trans hS
        have hm3 : PrsAt (upd H' d (.dK (kvP ps))) m := fun e he => by
          have h1 := hm e he
          rw [upd_ne (fun z => by rw [z, hdf] at h1; cases h1)]
          exact h1
        refine ⟨hdf, ?_⟩
        generalize upd H' d (.dK (kvP ps)) = H3 at s1 hS3 hm3 ⊢
        have hd3 := s1 _ _ hd
        have sA := sd.trans s1
        clear hm hS hdf sm hD2 nD s1 hd sd H2
        refine ⟨D2, bsP m, rfl, by rw [bsP_fst]; exact SqL.of hS3, fun b hb => ?_, by rw [bsP_snd]; exact pd_alike _, by rw [bsP_snd]; exact pd_sortable _, fun b hb => ?_, fun p hp => ?_⟩
        · obtain ⟨e, he, rfl⟩ := List.mem_map.mp hb
          exact pd_dp (hm3 e he)
        · obtain ⟨e, he, rfl⟩ := List.mem_map.mp hb
          exact pd_depth e.2
        rw [srt_bsP]
        have sp := sA.trans (Same.new hp (o := .lst (rfp (soL m))))
        have hp4 : (upd H3 p (.lst (rfp (soL m)))) p = some (.lst (rfp (soL m))) := upd_same
        have hd4 : (upd H3 p (.lst (rfp (soL m)))) d = some (.dK (kvP ps)) := Same.new hp _ _ hd3
        have hm4 : PrsAt (upd H3 p (.lst (rfp (soL m)))) (soL m) := fun e he => Same.new hp _ _ (hm3 e (soL_mem.mp he))
        have em4 : prs (soL m) = mv ps := by rw [soL_prs, em]; rfl
        have lm4 : (soL m).length ≤ 10 := by rw [soL_len]; omega
        generalize upd H3 p (.lst (rfp (soL m))) = H4 at sp hp4 hd4 hm4 ⊢
        generalize soL m = m4 at hp4 hm4 em4 lm4
        clear hm3 hS3 hp sA hd3 H3 lm em
        have hx4 := hx.same sp
        obtain ⟨dx, tt, dd, hxx, lx, htx, elx, hlx, hdx⟩ := id hx4
        refine ⟨_, rfl, x, _, dx, _, _, rfl, hxx, c_Renaming T, na_Renaming_moved T, rfl, _, rfl, p, _, rfl, .inl ⟨SqL.of hp4, fun t5 ht5 => ?_⟩⟩
        have s5 := Same.new ht5 (o := .tup (rfp m4))
        have ht5' : (upd H4 t5 (.tup (rfp m4))) t5 = some (.tup (rfp m4)) := upd_same
        generalize upd H4 t5 (.tup (rfp m4)) = H5 at s5 ht5' ⊢
        refine ⟨_, _, .tup (SqT.of (s5 _ _ htx)) (dp_prs lx (hlx.same s5)), .tup (SqT.of ht5') (dp_prs m4 (hm4.same s5)), shp_prs _, shp_prs _, ?_⟩
        rw [eqv_prs, elx, em4]
        have hxx5 := s5 _ _ hxx
        refine ⟨_, rfl, uF rfl ?_⟩
        refine ⟨_, rfl, x, _, dx, _, _, rfl, hxx5, c_Renaming T, na_Renaming_moved T, rfl, _, .ty "tuple", _, .type "tuple", true, rfl, .ty _, .base (.tup (s5 _ _ htx)), kit_ty (by decide +kernel), true, rfl, iteF ?_⟩
        have hx5 := hx4.same s5
        have hd5 := s5 _ _ hd4
        have hp5 := s5 _ _ hp4
        have sB := sp.trans s5
        have lmv : (mv ps).length = m4.length := by rw [← em4]; exact List.length_map ..
        refine ⟨_, rfl, x, RC K, dx, _, spLen K, rfl, hxx5, ok_len T, x, mv ps, rfl, hx5, _, rfl, by omega, by omega, _, rfl, p, _, rfl, .inl (SqL.of hp5), rfl, _, rfl, uF (by rw [rfp_len, lmv]) ?_⟩
        clear hp5 ht5' hm4 hp4 ht5 s5 hxx hx4 htx hlx hdx elx hd4 sp H4 hits lmv em4 pat lm4
        -- some numbers
        have hb5 := sB _ _ hb
        refine ⟨_, rfl, _, _, rfl, rfl, ⟨by decide, by decide, by decide⟩, _, _, rfl, rfl, _, rfl, sz1 (by simp), fun e he => ?_⟩
        refine ⟨b, e, _, _, rfl, rfl, Same.new he _ _ hb5, upd_same, Nat.le_of_lt (sz2 (by simp only [List.length_map, List.length_cons, List.length_nil]; omega)), fun g hg => ?_⟩
        have s6 := (Same.new he (o := .lst [V.int (10 ^ (8 : Int).toNat + 7), V.int (-5), V.int 0, V.int 1])).trans (Same.new hg (o := .lst (ns.map V.int ++ [V.int (10 ^ (8 : Int).toNat + 7), V.int (-5), V.int 0, V.int 1])))
        obtain ⟨xs, exs, lxs⟩ : ∃ xs : List Int, ns.map V.int ++ [V.int (10 ^ (8 : Int).toNat + 7), V.int (-5), V.int 0, V.int 1] = xs.map V.int ∧ xs.length ≤ 100 := ⟨ns ++ [10 ^ (8 : Int).toNat + 7, -5, 0, 1], by rw [List.map_append]; rfl, by simp only [List.length_append, List.length_cons, List.length_nil]; omega⟩
        have hg6 : upd (upd H5 e (.lst [V.int (10 ^ (8 : Int).toNat + 7), V.int (-5), V.int 0, V.int 1])) g (.lst (ns.map V.int ++ [V.int (10 ^ (8 : Int).toNat + 7), V.int (-5), V.int 0, V.int 1])) g = some (.lst (xs.map V.int)) := by rw [upd_same, exs]
        generalize upd (upd H5 e (.lst [V.int (10 ^ (8 : Int).toNat + 7), V.int (-5), V.int 0, V.int 1])) g (.lst (ns.map V.int ++ [V.int (10 ^ (8 : Int).toNat + 7), V.int (-5), V.int 0, V.int 1])) = H6 at s6 hg6 ⊢
        clear he hg exs hb5
        have hx6 := hx5.same s6
        have hd6 := s6 _ _ hd5
        have sC := sB.trans s6
        clear hx5 hd5 sB s6 hxx5 H5
        have hxx6 := hx6
        obtain ⟨dx, tt, dd, hxx6, hmm6⟩ := hxx6
        -- each number
        refine ⟨_, rfl, lc_mapK (f := fun n => .int (lk (mv ps) n)) hg6 (by omega) (fun _ => rfl) (fun n hn G R s kk => ?_) (fun D H7 hD7 s7 hS7 => ?_)⟩
        · exact ⟨x, rfl, _, rfl, RC K, dx, _, spRen K, s _ _ hxx6, ical T, x, mv ps, n, rfl, hx6.same s, kk _ (Cm.Same.refl _)⟩
        have hg7 := s7 _ _ hg6
        have hd7 := s7 _ _ hd6
        refine ⟨_, rfl, lc_mapK (f := fun n => .int (lk ps n)) hg7 (by omega) (fun _ => rfl) (fun n hn G R s kk => ?_) (fun D8 H8 hD8 s8 hS8 => ?_)⟩
        · refine ⟨_, rfl, d, rfl, .inl ⟨_, .inl (s _ _ hd7)⟩, _, rfl, _, rfl, _, DGet.k (k := .inl n) (s _ _ hd7), ?_⟩
          rw [show (valV (kvP ps) (Sum.inl n)).getD (.int n) = .int (lk ps n) from val_lk ps n]
          exact kk _ (Cm.Same.refl _)
        have hS7' := s8 _ _ hS7
        refine ⟨_, _, dp_ints (ns := xs.map (lk (mv ps))) (by rw [hS7', List.map_map]; rfl), dp_ints (ns := xs.map (lk ps)) (by rw [hS8, List.map_map]; rfl), shp_ints _, shp_ints _, _, rfl, ?_⟩
        rw [eqv_int2]
        have elk : lk (mv ps) = lk ps := funext fun n => lk_mv vp.n1 n
        refine uF (by rw [elk]) ?_
        have sD := s7.trans s8
        clear hS7 hS7' hS8 hD7 hD8 hg7 hd7 s7 s8
        have hg8 := sD _ _ hg6
        have hd8 := sD _ _ hd6
        have hx8 := hx6.same sD
        have hxx8 := sD _ _ hxx6
        -- what is kept
        refine ⟨_, rfl, lc_mapK (f := fun n => .bl ([n, n].all fun k => decide (lk (mv ps) k = k))) hg8 (by omega) (fun _ => rfl) (fun n hn G R s kk => ?_) (fun D9 H9 hD9 s9 hS9 => ?_)⟩
        · exact ⟨_, rfl, x, dx, _, rfl, s _ _ hxx8, rfl, _, rfl, _, rfl, sz1 (by simp), fun q hq => ⟨x, q, mv ps, [n, n], rfl, (hx8.same s).same (Same.new hq), upd_same, (by show 2 ≤ 100; decide), fun H' s' => kk _ ((Same.new hq).trans s')⟩⟩
        have hd9 := s9 _ _ hd8
        refine ⟨_, rfl, lc_mapK (f := fun n => .bl (decide (lk ps n = n))) (s9 _ _ hg8) (by omega) (fun _ => rfl) (fun n hn G R s kk => ?_) (fun D10 H10 hD10 s10 hS10 => ?_)⟩
        · refine ⟨_, rfl, d, rfl, .inl ⟨_, .inl (s _ _ hd9)⟩, _, rfl, _, rfl, _, DGet.k (k := .inl n) (s _ _ hd9), ?_⟩
          rw [show (valV (kvP ps) (Sum.inl n)).getD (.int n) = .int (lk ps n) from val_lk ps n]
          refine ⟨_, rfl, rfl, ?_⟩
          rw [K29.dec_int]
          exact kk _ (Cm.Same.refl _)
        have eb : (fun n => V.bl ([n, n].all fun k => decide (lk (mv ps) k = k))) = fun n => V.bl (decide (lk ps n = n)) := funext fun n => by rw [elk]; simp
        have hS9' := s10 _ _ hS9
        rw [eb] at hS9'
        refine ⟨_, _, .lst (SqL.of (show H10 D9 = some (.lst ((xs.map fun n => decide (lk ps n = n)).map V.bl)) by rw [hS9', List.map_map]; rfl)) (dp_bls _), .lst (SqL.of (show H10 D10 = some (.lst ((xs.map fun n => decide (lk ps n = n)).map V.bl)) by rw [hS10, List.map_map]; rfl)) (dp_bls _), shp_bls _, shp_bls _, _, rfl, ?_⟩
        rw [eqv_blsR]
        refine iteF ?_
        have sE := s9.trans s10
        clear hS9 hS9' hS10 hD9 hD10 hd9 s9 s10 eb
        have hg10 := sE _ _ hg8
        have hd10 := sE _ _ hd8
        have hx10 := hx8.same sE
        have hxx10 := sE _ _ hxx8
        -- back
        refine ⟨_, rfl, x, dx, _, rfl, hxx10, rfl, x, mv ps, rfl, hx10, val_mv vp, sh_mv sP, Nat.le_trans (len_mv ps) (by omega), fun y H11 s11 hy11 => ?_⟩
        obtain ⟨dy, ty, dd2, hyy11, hmy11⟩ := id hy11
        have hx11 := hx10.same s11
        have hxx11 := s11 _ _ hxx10
        have hg11 := s11 _ _ hg10
        refine ⟨_, rfl, lc_mapK (f := V.int) hg11 (by omega) (fun _ => rfl) (fun n hn G R s kk => ?_) (fun D12 H12 hD12 s12 hS12 => ?_)⟩
        · refine ⟨y, rfl, x, rfl, _, rfl, RC K, dx, _, spRen K, s _ _ hxx11, ical T, x, mv ps, n, rfl, hx11.same s, RC K, dy, _, spRen K, s _ _ hyy11, ical T, y, mv (fl2 (mv ps)), lk (mv ps) n, rfl, hy11.same s, ?_⟩
          rw [lk_inv vp]
          exact kk _ (Cm.Same.refl _)
        have hg12 := s12 _ _ hg11
        refine ⟨_, rfl, _, _, dp_ints hS12, dp_ints hg12, shp_ints _, shp_ints _, _, rfl, ?_⟩
        rw [eqv_int2]
        refine uF rfl ?_
        have hx12 := hx11.same s12
        have hxx12 := s12 _ _ hxx11
        refine ⟨_, rfl, x, dx, _, rfl, hxx12, rfl, _, rfl, x, g, mv ps, xs, rfl, hx12, hg12, by omega, fun H13 s13 => ?_⟩
        have hg13 := s13 _ _ hg12
        have hd13 := (s11.trans (s12.trans s13)) _ _ hd10
        refine ⟨_, rfl, _, rfl, lc_mapK (f := fun n => .int (lk ps n)) hg13 (by omega) (fun _ => rfl) (fun n hn G R s kk => ?_) (fun D14 H14 hD14 s14 hS14 => ?_)⟩
        · refine ⟨_, rfl, d, rfl, .inl ⟨_, .inl (s _ _ hd13)⟩, _, rfl, _, rfl, _, DGet.k (k := .inl n) (s _ _ hd13), ?_⟩
          rw [show (valV (kvP ps) (Sum.inl n)).getD (.int n) = .int (lk ps n) from val_lk ps n]
          exact kk _ (Cm.Same.refl _)
        refine ⟨_, _, dp_ints (s14 _ _ hg13), dp_ints (ns := xs.map (lk ps)) (by rw [hS14, List.map_map]; rfl), shp_ints _, shp_ints _, ?_⟩
        rw [eqv_int2, keep_all, elk]
        refine ⟨rfl, _, rfl, uF (by congr 1; exact decide_eq_decide.mpr ⟨Eq.symm, Eq.symm⟩) ?_⟩
        have sF := s12.trans (s13.trans s14)
        have hx14 := hx11.same sF
        have hy14 := hy11.same sF
        have hxx14 := sF _ _ hxx11
        have hyy14 := sF _ _ hyy11
        have sT := sC.trans (sD.trans (sE.trans (s11.trans sF)))
        clear hS14 hD14 hS12 hD12 hg13 hd13 hg12 hx12 hxx12 hmy11 hmm6 sF sC sD sE s11 s12 s13 s14
        have v1 := val_mv vp
        have v2 := val_mv (val_fl v1)
        have p1 := sh_mv sP
        have p2 := sh_mv (sh_fl p1)
        have l1 : (mv ps).length ≤ 10 := Nat.le_trans (len_mv ps) lp
        have l2 : (mv (fl2 (mv ps))).length ≤ 10 := Nat.le_trans (len_mv _) (by rw [len_fl]; exact l1)
        -- behind one another
        refine ⟨_, rfl, _, rfl, y, x, RC K, dy, dx, _, _, spMul K, rfl, rfl, hyy14, hxx14, x_first T, ok_mul T hP, y, x, mv (fl2 (mv ps)), mv ps, rfl, hy14, hx14, v2, v1, p2, p1, l2, l1, fun cs z H15 nd mA mB lc s15 rz => ?_⟩
        rw [cmp_nil (lk_inv vp)] at rz
        refine fun z0 dx0 hz0 hdx0 ne0 => made2 (th := .sq true []) (ps := []) ⟨_, [], rfl, tsB_ok (x_dfl T) _, rfl, Nat.zero_le _, fun q hq => by cases hq⟩ ⟨true, [], rfl, rfl⟩ val_nil hz0 hdx0 ne0 fun H16 s16 r0 => ⟨rfl, ?_⟩
        rw [mv_nil] at r0
        have rz := rz.same s16
        obtain ⟨dz, _, _, hz, _⟩ := id rz
        obtain ⟨dz0, _, _, hz0, _⟩ := id r0
        refine ⟨z, RC K, dz, _, spEq K, rfl, hz, ok_eq T, .inl ⟨z0, RC K, dz0, _, rfl, hz0, x_nf T⟩, z, [], _, rfl, rz, by decide, .inl ⟨z0, [], rfl, r0, by decide, ?_⟩⟩
        refine ⟨_, rfl, tT rfl ?_⟩
        have s16 := s15.trans s16
        refine ⟨_, rfl, _, rfl, x, y, RC K, dx, dy, _, _, spMul K, rfl, rfl, s16 _ _ hxx14, s16 _ _ hyy14, x_first T, ok_mul T hP, x, y, mv ps, mv (fl2 (mv ps)), rfl, hx14.same s16, hy14.same s16, v1, v2, p1, p2, l1, l2, fun cs2 u H17 nd2 mA2 mB2 lc2 s17 ru => ?_⟩
        rw [cmp_nil (lk_inv2 vp)] at ru
        refine ⟨sz1 (by simp), fun e18 he18 => ?_⟩
        refine fun u0 dx0 hu0 hdx0 ne0 => made2 (th_pl (l := []) upd_same (fun e he => by cases he) (Nat.zero_le _)) (tell_pl (l := []) fun p hp => by cases hp) val_nil hu0 hdx0 ne0 fun H19 s19 ru0 => ⟨rfl, ?_⟩
        rw [show mv (prs []) = [] from mv_nil] at ru0
        have s19 := (Same.new he18 (o := .lst (rfp []))).trans s19
        have ru := ru.same s19
        obtain ⟨du, _, _, hu, _⟩ := id ru
        obtain ⟨du0, _, _, hu0, _⟩ := id ru0
        refine ⟨u, RC K, du, _, spEq K, rfl, hu, ok_eq T, .inl ⟨u0, RC K, du0, _, rfl, hu0, x_nf T⟩, u, [], _, rfl, ru, by decide, .inl ⟨u0, [], rfl, ru0, by decide, ?_⟩⟩
        refine ⟨_, rfl, tT rfl ?_⟩
        have s20 := s16.trans (s17.trans s19)
        refine ⟨_, rfl, y, dy, _, rfl, s20 _ _ hyy14, rfl, y, mv (fl2 (mv ps)), rfl, hy14.same s20, v2, p2, by omega, fun k H21 s21 rk => ?_⟩
        rw [mv_twice] at rk
        obtain ⟨dk, _, _, hk, _⟩ := id rk
        have s22 := s20.trans s21
        refine ⟨_, rfl, k, RC K, dk, _, spEq K, rfl, hk, ok_eq T, .inl ⟨x, RC K, dx, _, rfl, s22 _ _ hxx14, x_nf T⟩, k, mv ps, _, rfl, rk, by omega, .inl ⟨x, mv ps, rfl, hx14.same s22, by omega, ?_⟩⟩
        rw [decide_eq_true (rfl : mv ps = mv ps)]
        exact q _ (sT.trans s22)
end
end K29
namespace K29
open PySem PySem.Spec PyProof.Rows Cm
open L2 hiding Same
/-! ### the law -/
theorem ne_dK {H : Hp} {p q : Addr} {xs} (h : Bag H p) (e : H q = some (.dK xs)) : q ≠ p := by
  obtain ⟨b, m, e2, _⟩ := h
  intro z
  rw [z, e2] at e
  cases e
theorem RenAt.kp {K : PySem.W.Frag} {p : Addr} {H H' : Hp} {x : Addr} {M : List Pr} (hB : Bag H p) (k : Kp p H H') (h : RenAt K H x M) : RenAt K H' x M := by
  obtain ⟨dx, t, d, h1, l, h2, e, h3, h4⟩ := h
  exact ⟨dx, t, d, k _ _ (hB.ne_ins h1) h1, l, k _ _ (hB.ne_tup h2) h2, e, h3.kp hB k, k _ _ (ne_dK hB h4) h4⟩
def thT (l : PL) : Th := .sq true ((prs l).map itP)
theorem th_plT {K : PySem.W.Frag} {H : Hp} {a : Addr} {l : PL} (ha : H a = some (.tup (rfp l))) (hl : PrsAt H l) (ln : l.length ≤ 20) : ThAt K H (.ref a) (thT l) := by
  refine ⟨a, l.map fun e => (V.ref e.1, itP e.2), rfl, ?_, ?_, by rw [List.length_map]; exact ln, fun q hq => ?_⟩
  · rw [List.map_map]; exact SqT.of ha
  · rw [List.map_map, List.map_map]; rfl
  · obtain ⟨e, he, rfl⟩ := List.mem_map.mp hq
    exact itP_at (hl e he)
theorem tell_plT {l : PL} (h : ShP (prs l)) : Tells (thT l) (prs l) := ⟨_, _, rfl, by
  rw [List.map_map]
  exact List.map_congr_left fun p hp => itP_pair (h p hp)⟩
theorem thO_pl {K : PySem.W.Frag} {H : Hp} {p a : Addr} {l : PL} (hB : Bag H p) (ha : H a = some (.lst (rfp l))) (na : a ≠ p) (hl : PrsAt H l) (ln : l.length ≤ 10) : ThO K p H (.ref a) (.sq false ((prs l).map itP)) := by
  refine ⟨a, ip l, rfl, na, ?_, ?_, by unfold ip; rw [List.length_map]; exact ln, ip_ok hl hB⟩
  · rw [ip_fst]; exact SqL.of ha
  · unfold ip; rw [List.map_map, List.map_map]; rfl
theorem tells_len {K : PySem.W.Frag} {p : Addr} {H : Hp} {v : V} {th : Th} {ps : List Pr} (h : ThO K p H v th) (t : Tells th ps) : ps.length ≤ 10 := by
  obtain ⟨t, is, rfl, e⟩ := t
  obtain ⟨a, l, _, _, _, r, r2, _⟩ := h
  have := congrArg List.length e
  rw [List.length_map, List.length_map, ← r, List.length_map] at this
  omega
theorem br {c : Prop} [Decidable c] {A B : Prop} {G : Addr → Hp → Prop} (S : Addr → Hp → Prop) (hF : (∀ v H, S v H → G v H) → ¬ c → B) (hT : (∀ v H, S v H → G v H) → c → A) (fin : ∀ v H, S v H → G v H) : if decide c = true then A else B :=
  dC (hT fin) (hF fin)
/-- what is told of a wrong one, as data -/
abbrev wrD (i : Int) : PyData := .list [.str "wrong", .int i, .bool true, .bool true]
theorem wr_dp {K : PySem.W.Frag} {H : Hp} {a : Addr} {i : Int} (h : H a = some (.lst [.str "wrong", .int i, .bl true, .bl true])) : Dp K H (.ref a) (wrD i) := .lst (SqL.of h) (.cons (.str _) (.cons (.int i) (.cons (.bl true) (.cons (.bl true) .nil))))
theorem wr_shp (i : Int) : SeqAt.shaped (wrD i) = true := by
  have h : PyData.strOk "wrong" = true := by decide +kernel
  show ((wrD i).canLay0 && decide ((wrD i).depth ≤ 64)) = true
  rw [Bool.and_eq_true]
  refine ⟨?_, decide_eq_true ?_⟩
  · simp [wrD, PyData.canLay0, PyData.canLayAll0, h]
  · simp [wrD, PyData.depth, PyData.depthAll]
theorem wr_eqv (i : Int) : PyData.eqv (wrD i) (wrD i) = true := by simp [wrD, PyData.eqv, PyData.eqvAll]
abbrev w0 : PyData := .list [.str "wrong", .int 0]
theorem w0_dp {K : PySem.W.Frag} {H : Hp} {a : Addr} (h : H a = some (.lst [.str "wrong", .int 0])) : Dp K H (.ref a) w0 := .lst (SqL.of h) (.cons (.str _) (.cons (.int 0) .nil))
theorem w3_shp : SeqAt.shaped (.list [w0, w0, w0]) = true := by
  have h : PyData.strOk "wrong" = true := by decide +kernel
  show ((PyData.list [w0, w0, w0]).canLay0 && decide ((PyData.list [w0, w0, w0]).depth ≤ 64)) = true
  rw [Bool.and_eq_true]
  refine ⟨?_, decide_eq_true ?_⟩
  · simp [w0, PyData.canLay0, PyData.canLayAll0, h]
  · simp [w0, PyData.depth, PyData.depthAll]
theorem w3_eqv : PyData.eqv (.list [w0, w0, w0]) (.list [w0, w0, w0]) = true := by simp [w0, PyData.eqv, PyData.eqvAll]
theorem lk_swp (a b : Int) : lk (mv (swp a b)) a = b ∧ lk (mv (swp a b)) b = a ∧ (((mv (swp a b)).length : Nat) : Int) = 2 * (if (!decide (V.int a = V.int b)) = true then 1 else 0) := by
  rw [lk_mv (val_swp a b).n1, lk_mv (val_swp a b).n1]
  unfold swp
  by_cases h : a = b
  · subst h
    rw [if_pos rfl]
    refine ⟨rfl, rfl, ?_⟩
    rw [mv_nil, decide_eq_true rfl]; rfl
  · rw [if_neg h]
    refine ⟨by simp [lk], by simp [lk, h], ?_⟩
    have e : (mv [(a, b), (b, a)]).length = 2 := by
      unfold mv
      rw [(so_perm _).length_eq, moves_id]
      · rfl
      · intro p hp
        rcases List.mem_cons.mp hp with e | hp
        · rw [e]; exact h
        · rw [List.mem_singleton.mp hp]; exact fun z => h z.symm
    rw [e, decide_eq_false (fun z => h (by injection z))]; rfl
theorem no_nu {io : It} (h : shI io = false) {k : Int} (e : io = .fl (.nu k)) (s : sh k = true) : False := by
  subst e
  have : sh k = false := h
  rw [s] at this; cases this
section
variable {P : Program} {w : World} {K : PySem.W.Frag} {mg : Str → Option Value} {base : Heap} {sa : Addr} {sx : List Int}
def spLaw (K : PySem.W.Frag) : Sp := fun vs H Q _ => ∃ (a : Addr) (ns : List Int), vs = [.ref a] ∧ SqL K H a (ns.map V.int) ∧ ∀ H', Q (.bl true) H'
theorem ok_law (T : Tx K mg sa sx) (hP : PF P) {fd : FuncData} (F : FunD K "law" "law" (defArgs s_law) (defBody s_law) (defScope s_law) [] [] (He.ga K "law") fd) : FnOk P w K mg base CX0 16 (He.ga K "law") fd ["_law_script"] (spLaw K) := by
  refine fnok F sc_law (fun vs H Q E h => ?_) (fun cdv A outer s H vs Q E hr h => ?_)
  · obtain ⟨a, ns, rfl, _⟩ := h; rfl
  · obtain ⟨a, ns, rfl, hS, k⟩ := h
    have okm : ∀ _ : Tx K mg sa sx, Cal P w K mg base 9 "_law_made" (spMade K) := fun T => ok_l_made T hP
    have okw : ∀ _ : Tx K mg sa sx, Cal P w K mg base 9 "_law_swapped" (spSwd K) := fun T => ok_l_swapped T hP
    have oki : ∀ _ : Tx K mg sa sx, Cal P w K mg base 9 "_law_is_right" (spRight K) := fun T => ok_l_is_right T hP
    refine ⟨_, (pss_cons (ps_for PassesOwn.never rfl (pi_range1 rfl (n_range T) (pa_cons (pe_callB (id := "max") (call_max2 rfl) rfl (n_max T) (by decide +kernel) (pa_cons pe_int (pa_cons (pe_callB (id := "min") (call_min2 rfl) rfl (n_min T) (by decide +kernel) (pa_cons pe_int (pa_cons (pe_callB (id := "len") call_len_seq rfl (n_len T) (by decide +kernel) (pa_cons (pv 0) pa_nil)) pa_nil))) pa_nil))) pa_nil)) (pg_name (i := 1) sc_law.nd rfl (by first | exact Or.inl rfl | exact Or.inr rfl))
      (pss_cons (ps_set (i := 2) sc_law.nd rfl (by first | exact Or.inl rfl | exact Or.inr rfl) (pe_cal (ok_l_bag T) hr (by decide) (pa_cons (pv 0) (pa_cons (pv 1) pa_nil))))
      (pss_cons (ps_set (i := 3) sc_law.nd rfl (by first | exact Or.inl rfl | exact Or.inr rfl) (pe_cal (ok_l_numbers T) hr (by decide) (pa_cons (pv 2) (pa_cons pe_int pa_nil))))
      (pss_one (ps_for PassesOwn.never rfl (pi_range1 rfl (n_range T) (pa_cons pe_int pa_nil)) (pg_name (i := 4) sc_law.nd rfl (by first | exact Or.inl rfl | exact Or.inr rfl))
        (pss_cons (ps_set (i := 5) sc_law.nd rfl (by first | exact Or.inl rfl | exact Or.inr rfl) (pe_cal (ok_l_pairs T) hr (by decide) (pa_cons (pv 2) (pa_cons (pv 3) pa_nil))))
        (pss_cons (ps_set (i := 6) sc_law.nd rfl (by first | exact Or.inl rfl | exact Or.inr rfl) (pe_ifExp (pt_cmpR op_eq (pe_cal (ok_l_take T) hr (by decide) (pa_cons (pv 2) (pa_cons pe_int pa_nil))) pe_int (nomark _)) (pv 5) (pe_cal (ok_l_spoilt T) hr (by decide) (pa_cons (pv 2) (pa_cons (pv 5) (pa_cons (pv 3) pa_nil))))))
        (pss_cons (ps_set (i := 6) sc_law.nd rfl (by first | exact Or.inl rfl | exact Or.inr rfl) (pe_cal (ok_l_of T) hr (by decide) (pa_cons (pv 2) (pa_cons (pe_lst (pa_cons (pv 6) (pa_cons (pv 6) (pa_cons (pv 6) (pa_cons (pe_callTy (T := "tuple") call_tuple_of rfl (n_tuple T) (by decide +kernel) (pa_cons (pv 6) pa_nil)) (pa_cons pe_str (pa_cons pe_non pa_nil))))))) pa_nil))))
        (pss_cons (ps_par (i := 7) (j := 8) rfl sc_law.nd rfl rfl (by decide) rfl rfl (pa_cons (pe_cal (okm T) hr (by decide) (pa_cons (pv 6) pa_nil)) (pa_cons (pe_cal (ok_l_wrong T) hr (by decide) (pa_cons (pv 6) pa_nil)) pa_nil)) (by rfl))
        (pss_cons (ps_if (pt_cmpR op_notN (pv 8) pe_non (nomark _)) (pss_one (ps_if (pt_cmpR (op_neD hr.units) (pv 7) (pe_lst (pa_cons pe_str (pa_cons (pv 8) (pa_cons pe_bl (pa_cons pe_bl pa_nil))))) (nomark _)) (pss_one (ps_ret pe_bl)) pss_nil)) (pss_one (ps_if (PW.pt (pw_or (pt_not (pt_val (pe_callB (id := "isinstance") (r := rIsi K) call_isi rfl (n_isinstance T) (by decide +kernel) (pa_cons (pv 7) (pa_cons (pe_glob (v := .ref _) rfl (g_Renaming T) rfl) pa_nil))))) (pw_or1 (pt_not (pt_val (pe_cal (oki T) hr (by decide) (pa_cons (pv 7) (pa_cons (pv 6) (pa_cons (pv 3) pa_nil))))))))) (pss_one (ps_ret pe_bl)) pss_nil)))
        (pss_cons (ps_asg (pe_tup (pa_cons (pe_kal (kal1 T hP) hr (by decide) (pa_cons (pv 5) pa_nil)) (pa_cons (pe_kal (kal1 T hP) hr (by decide) (pa_cons (pe_callTy (T := "tuple") call_tuple_of rfl (n_tuple T) (by decide +kernel) (pa_cons (pe_cal (ok_l_pairs T) hr (by decide) (pa_cons (pv 2) (pa_cons (pv 3) pa_nil))) pa_nil)) pa_nil)) pa_nil))) (pg_tup (by rfl) (pgs_cons (pg_name (i := 9) sc_law.nd rfl (by first | exact Or.inl rfl | exact Or.inr rfl)) (pgs_cons (pg_name (i := 10) sc_law.nd rfl (by first | exact Or.inl rfl | exact Or.inr rfl)) pgs_nil))))
        (pss_cons (ps_set (i := 11) sc_law.nd rfl (by first | exact Or.inl rfl | exact Or.inr rfl) (pe_op (op_ownBin (m := "__mul__") (k := 8) (by decide +kernel) hr (by decide)) (pv 9) (pv 10)))
        (pss_cons (ps_if (pt_cmpR (op_neD hr.units) (pe_lc (own := [("_law_n", 12)]) (g := gName 12) rfl sc_law.nd (pi_list (pe_op op_cat (pv 3) (pe_lst (pa_cons (pe_op op_add (pe_op op_pow pe_int pe_int) pe_int) pa_nil)))) (blkOk_by (own := [("_law_n", 12)]) (N := ["_law_script", "_law_at", "_law_bag_here", "_law_nums", "_law_turn", "_law_pairs_here", "_law_things", "_law_told", "_law_wrong_here", "_law_one", "_law_two", "_law_both", "_law_n", "_law_m", "_law_odd", "_law_swap"]) (sc := defScope s_law) (by decide +kernel)) (fun _ _ _ _ _ => pg_name (i := 12) sc_law.nd rfl (by first | exact Or.inl rfl | exact Or.inr rfl)) (fun _ _ _ _ _ => pts_nil) (fun _ _ _ _ _ => (show PE _ _ (tICall P w K mg base 2 11 _) from (pe_icall (i := 11) (k := 2) hr (by decide) (by rfl) (by first | exact Or.inl rfl | exact Or.inr (Or.inl rfl) | exact Or.inr (Or.inr rfl)) (pa_cons (pv 12) pa_nil))))) (pe_lc (own := [("_law_n", 12)]) (g := gName 12) rfl sc_law.nd (pi_list (pe_op op_cat (pv 3) (pe_lst (pa_cons (pe_op op_add (pe_op op_pow pe_int pe_int) pe_int) pa_nil)))) (blkOk_by (own := [("_law_n", 12)]) (N := ["_law_script", "_law_at", "_law_bag_here", "_law_nums", "_law_turn", "_law_pairs_here", "_law_things", "_law_told", "_law_wrong_here", "_law_one", "_law_two", "_law_both", "_law_n", "_law_m", "_law_odd", "_law_swap"]) (sc := defScope s_law) (by decide +kernel)) (fun _ _ _ _ _ => pg_name (i := 12) sc_law.nd rfl (by first | exact Or.inl rfl | exact Or.inr rfl)) (fun _ _ _ _ _ => pts_nil) (fun _ _ _ _ _ => (show PE _ _ (tICall P w K mg base 2 9 _) from (pe_icall (i := 9) (k := 2) hr (by decide) (by rfl) (by first | exact Or.inl rfl | exact Or.inr (Or.inl rfl) | exact Or.inr (Or.inr rfl)) (pa_cons (show PE _ _ (tICall P w K mg base 2 10 _) from (pe_icall (i := 10) (k := 2) hr (by decide) (by rfl) (by first | exact Or.inl rfl | exact Or.inr (Or.inl rfl) | exact Or.inr (Or.inr rfl)) (pa_cons (pv 12) pa_nil))) pa_nil))))) (nomark _)) (pss_one (ps_ret pe_bl)) pss_nil)
        (pss_cons (ps_if (PW.pt (pw_or (pt_cmpR op_ne (pe_cmpR (op_ownG (k := 1) hr (by decide)) (pv 9) (pv 10) (nomark _)) (pe_cmpR (op_eqD hr.units) (pe_fld (pv 9) rfl) (pe_fld (pv 10) rfl) (nomark _)) (nomark _)) (pw_or1 (pt_cmpR (op_ownGT (k := 1) hr (by decide)) (pv 9) (pe_fld (pv 9) rfl) (nomark _))))) (pss_one (ps_ret pe_bl)) pss_nil)
        (pss_cons (ps_par (i := 12) (j := 13) rfl sc_law.nd rfl rfl (by decide) rfl rfl (pa_cons (pe_cal (ok_l_of T) hr (by decide) (pa_cons (pv 2) (pa_cons (pv 3) pa_nil))) (pa_cons (pe_cal (ok_l_of T) hr (by decide) (pa_cons (pv 2) (pa_cons (pv 3) pa_nil))) pa_nil)) (by rfl))
        (pss_cons (ps_par (i := 14) (j := 15) rfl sc_law.nd rfl rfl (by decide) rfl rfl (pa_cons (pe_cal (ok_l_of T) hr (by decide) (pa_cons (pv 2) (pa_cons (pe_lst (pa_cons pe_non (pa_cons pe_bl (pa_cons pe_bl (pa_cons (pe_op op_pow pe_int pe_int) (pa_cons (pe_un un_neg (pe_op op_pow pe_int pe_int)) (pa_cons pe_str (pa_cons (pe_tup (pa_cons (pv 12) (pa_cons (pv 13) pa_nil))) pa_nil)))))))) pa_nil))) (pa_cons (pe_cal (okw T) hr (by decide) (pa_cons (pv 12) (pa_cons (pv 13) pa_nil))) pa_nil)) (by rfl))
        (pss_cons (ps_if (PW.pt (pw_or (pt_not (pt_val (pe_callB (id := "isinstance") (r := rIsi K) call_isi rfl (n_isinstance T) (by decide +kernel) (pa_cons (pv 15) (pa_cons (pe_glob (v := .ref _) rfl (g_Renaming T) rfl) pa_nil))))) (pw_or1 (pt_cmpR (op_neD hr.units) (pe_lst (pa_cons (pe_icall (i := 15) (k := 2) hr (by decide) (by rfl) (by first | exact Or.inl rfl | exact Or.inr (Or.inl rfl) | exact Or.inr (Or.inr rfl)) (pa_cons (pv 12) pa_nil)) (pa_cons (pe_icall (i := 15) (k := 2) hr (by decide) (by rfl) (by first | exact Or.inl rfl | exact Or.inr (Or.inl rfl) | exact Or.inr (Or.inr rfl)) (pa_cons (pv 13) pa_nil)) (pa_cons (pe_callB (id := "len") (call_ownLen (k := 1) hr (by decide)) rfl (n_len T) (by decide +kernel) (pa_cons (pv 15) pa_nil)) pa_nil)))) (pe_lst (pa_cons (pv 13) (pa_cons (pv 12) (pa_cons (pe_op op_mul pe_int (pe_callTy (T := "int") call_int1 rfl (n_int T) (by decide +kernel) (pa_cons (pe_cmpR op_ne (pv 12) (pv 13) (nomark _)) pa_nil))) pa_nil)))) (nomark _))))) (pss_one (ps_ret pe_bl)) pss_nil)
        (pss_one (ps_if (pt_cmpR (op_neD hr.units) (pe_lst (pa_cons (pe_cal (okw T) hr (by decide) (pa_cons (pv 12) (pa_cons (pv 14) pa_nil))) (pa_cons (pe_cal (okw T) hr (by decide) (pa_cons (pv 14) (pa_cons (pv 13) pa_nil))) (pa_cons (pe_cal (okw T) hr (by decide) (pa_cons (pv 14) (pa_cons (pv 14) pa_nil))) pa_nil)))) (pe_op op_rep (pe_lst (pa_cons (pe_lst (pa_cons pe_str (pa_cons pe_int pa_nil))) pa_nil)) pe_int) (nomark _)) (pss_one (ps_ret pe_bl)) pss_nil)))))))))))))))))))
    (pss_one (ps_ret pe_bl))), ?_⟩
    refine ⟨_, rfl, a, _, rfl, .inl hS, _, _, rfl, _, _, rfl, ?_⟩
    generalize hn : (if (if (((List.map V.int ns).length : Nat) : Int) < 5 then (((List.map V.int ns).length : Nat) : Int) else 5) > 1 then (if (((List.map V.int ns).length : Nat) : Int) < 5 then (((List.map V.int ns).length : Nat) : Int) else 5) else 1) = N
    have N0 : 0 ≤ N ∧ N ≤ 5 := by split at hn <;> split at hn <;> omega
    refine ⟨_, rfl, by omega, by omega, ?_⟩
    refine for_range (lo := 0) (n := N.toNat) (fun _ σ H' => (∃ v1 v2 v3 v4 v5 v6 v7 v8 v9 v10 v11 v12 v13 v14 v15 : Option V, σ = [some (.ref a), v1, v2, v3, v4, v5, v6, v7, v8, v9, v10, v11, v12, v13, v14, v15]) ∧ SqL K H' a (ns.map V.int)) ⟨⟨_, _, _, _, _, _, _, _, _, _, _, _, _, _, _, rfl⟩, hS⟩ ?_ ?_
    case refine_2 =>
      rintro σ H' ⟨⟨_, _, _, _, _, _, _, _, _, _, _, _, _, _, _, rfl⟩, _⟩
      exact k _
    rintro i σ H0 hi ⟨⟨v1, v2, v3, v4, v5, v6, v7, v8, v9, v10, v11, v12, v13, v14, v15, rfl⟩, hS⟩
    refine ⟨_, rfl, _, rfl, a, ns, _, rfl, hS, by omega, by omega, fun p H1 hp s1 b1 => ?_⟩
    have hA := sq_new hS hp
    have hS1 : ∀ H', Kp p H1 H' → SqL K H' a (ns.map V.int) := fun H' kk => hA.elim (fun n => Kp.sl (p := p) (s1.kp.trans kk) n hS) (fun z => z _)
    -- numbers
    refine ⟨_, rfl, p, rfl, b1, fun nu b H2 ln nN k2 b2 hb hb0 => ?_⟩
    have nbp : b ≠ p := bag_list b2 hb (by omega)
    refine ⟨4, rfl, by decide, by decide, ?_⟩
    refine for_range (lo := 0) (n := (4 : Int).toNat) (fun _ σ H' => (∃ v1 v4 v5 v6 v7 v8 v9 v10 v11 v12 v13 v14 v15 : Option V, σ = [some (.ref a), v1, some (.ref p), some (.ref b), v4, v5, v6, v7, v8, v9, v10, v11, v12, v13, v14, v15]) ∧ Kp p H1 H' ∧ Bag H' p ∧ H' b = some (.lst (nu.map V.int))) ⟨⟨_, _, _, _, _, _, _, _, _, _, _, _, _, rfl⟩, k2, b2, hb⟩ ?_ ?_
    case refine_2 =>
      rintro σ H' ⟨⟨_, _, _, _, _, _, _, _, _, _, _, _, _, rfl⟩, k3, b3, hb3⟩
      exact ⟨⟨_, _, _, _, _, _, _, _, _, _, _, _, _, _, _, rfl⟩, hS1 _ k3⟩
    clear hS hA s1 b1 hb0 k2 b2 hb H2 hp hi H0
    rintro j σ H2 hj ⟨⟨v1, v4, v5, v6, v7, v8, v9, v10, v11, v12, v13, v14, v15, rfl⟩, k2, b2, hb2⟩
    -- pairs
    refine ⟨_, rfl, _, rfl, p, b, nu, rfl, b2, hb2, ln, nN, fun l q5 H3 kq b3 hq3 nq hl3 ll vl sl => ?_⟩
    have hb3 := kq _ _ nbp hb2
    have k3 := k2.trans kq
    clear kq hb2 b2 k2 H2
    -- things
    refine ⟨_, rfl, p, 3, rfl, b3, by decide, by decide, fun r H4 _ _ kq b4 => ⟨rfl, _, rfl, ?_⟩⟩
    have hb4 := kq _ _ nbp hb3
    have hq4 := kq _ _ nq hq3
    have hl4 := hl3.kp b3 kq
    have k4 := k3.trans kq
    clear kq hb3 hq3 hl3 k3 b3 H3
    refine' br (S := fun q H' => Kp p H4 H' ∧ Bag H' p ∧ ∃ is, ThO K p H' (.ref q) (.sq false is)) (fun fin c => ?g2) (fun fin c => ?g1) ?g3
    case g2 => exact ⟨_, rfl, _, rfl, _, rfl, p, q5, b, l, nu, rfl, b4, hq4, nq, hl4, ll, hb4, ln, nN, fun q is H' k b t => fin q H' ⟨k, b, is, t⟩⟩
    case g1 => exact ⟨_, rfl, fin q5 H4 ⟨Kp.refl, b4, _, thO_pl b4 hq4 nq hl4 (by omega)⟩⟩
    rintro q6 H5 ⟨kq, b5, is, hv⟩
    have hb5 := kq _ _ nbp hb4
    have hq5 := kq _ _ nq hq4
    have hl5 := hl4.kp b4 kq
    have k5 := k4.trans kq
    clear kq hb4 hq4 hl4 k4 b4 H4
    obtain ⟨a6, l6, e6, n6, hl6, r6, len6, it6⟩ := id hv
    cases e6
    refine ⟨_, rfl, _, rfl, _, rfl, _, rfl, _, rfl, q6, _, rfl, .inl ⟨(show SqL K H5 q6 (l6.map (·.1)) from hl6), fun t ht => ?_⟩⟩
    have sT := Same.new ht (o := .tup (l6.map (·.1)))
    have hvT : ThO K p (upd H5 t (.tup (l6.map (·.1)))) (.ref t) (.sq true is) := ⟨t, l6, rfl, (b5.ne ht).symm, SqT.of upd_same, r6, len6, fun q hq => ⟨(it6 q hq).1.same sT, (it6 q hq).2⟩⟩
    refine ⟨sz1 (by simp), fun L hL => ?_⟩
    have sL := sT.trans (Same.new hL (o := .lst [V.ref q6, V.ref q6, V.ref q6, V.ref t, V.str "ab", V.non]))
    have hvL := hvT.same (Same.new hL (o := .lst [V.ref q6, V.ref q6, V.ref q6, V.ref t, V.str "ab", V.non]))
    have hv6 := hv.same sL
    have bL := b5.same sL
    have hLL : (upd (upd H5 t (.tup (l6.map (·.1)))) L (.lst [V.ref q6, V.ref q6, V.ref q6, V.ref t, V.str "ab", V.non])) L = some (.lst [V.ref q6, V.ref q6, V.ref q6, V.ref t, V.str "ab", V.non]) := upd_same
    have npL : p ≠ L := b5.ne (sT.free hL)
    generalize upd (upd H5 t (.tup (l6.map (·.1)))) L (.lst [V.ref q6, V.ref q6, V.ref q6, V.ref t, V.str "ab", V.non]) = H6 at sL hvL hv6 bL hLL ⊢
    have hb6 := sL _ _ hb5
    have hq6 := sL _ _ hq5
    have hl6' := hl5.same sL
    have k6 := k5.trans sL.kp
    clear hv hL hvT sT ht it6 hl6 sL hb5 hq5 hl5 k5 b5 H5
    refine ⟨p, L, _, rfl, hLL, by simp, by simp, bL, npL, fun v6 H7 hm7 kq b7 => ?_⟩
    obtain ⟨th, hth⟩ : ∃ th, ThO K p H7 v6 th := by
      simp only [List.mem_cons, List.not_mem_nil, or_false] at hm7
      rcases hm7 with rfl | rfl | rfl | rfl | rfl | rfl
      · exact ⟨_, hv6.kp kq⟩
      · exact ⟨_, hv6.kp kq⟩
      · exact ⟨_, hv6.kp kq⟩
      · exact ⟨_, hvL.kp kq⟩
      · exact ⟨.od (.st "ab"), rfl⟩
      · exact ⟨.od .nn, rfl⟩
    have hb7 := kq _ _ nbp hb6
    have hq7 := kq _ _ nq hq6
    have hl7 := hl6'.kp bL kq
    have k7 := k6.trans kq
    clear hm7 kq hv6 hvL hb6 hq6 hl6' k6 bL hLL H6
    -- made or refused
    refine ⟨_, rfl, v6, th, rfl, hth.at, fun ps ht vp x H8 s8 hx8 => ?g1, fun wi hw H8 q8 s8 hq8 => ?g2⟩
    case' g1 =>
      refine ⟨_, rfl, v6, th, rfl, (hth.same s8).at, fun H9 s9 => ⟨_, _, rfl, ?_⟩⟩
      rw [ht.right vp]
      obtain ⟨dx, _, _, hx, _⟩ := id hx8
      have s89 := s8.trans s9
      refine ⟨_, rfl, rfl, _, rfl, uF rfl ?_⟩
      refine ⟨_, rfl, .ref x, .ref (RC K), _, _, true, rfl, .own _, ren_ty T (s9 _ _ hx), x_kit T, true, rfl, iteF ?_⟩
      refine ⟨_, rfl, _, rfl, _, rfl, x, b, v6, th, ps, nu, rfl, hx8.same s9, (hth.same s89).at, ht, vp, tells_len hth ht, s89 _ _ hb7, by omega, fun H10 s10 => ⟨true, rfl, iteF ?_⟩⟩
      have sX := s89.trans s10
    case' g2 =>
      refine ⟨_, rfl, v6, th, rfl, (hth.same s8).at, fun H9 s9 => ⟨_, _, rfl, ?_⟩⟩
      rw [hw, show wvO (some wi) = V.int wi from rfl]
      refine ⟨_, rfl, rfl, _, rfl, uT (fun z => by cases z) ?_⟩
      refine ⟨_, rfl, _, rfl, sz1 (by simp), fun q10 h10 => ⟨_, _, wr_dp (Same.new h10 _ _ (s9 _ _ hq8)), wr_dp (i := wi) upd_same, wr_shp _, wr_shp _, _, rfl, ?_⟩⟩
      rw [wr_eqv]
      refine iteF ?_
      have sX := (s8.trans s9).trans (Same.new h10 (o := .lst [V.str "wrong", V.int wi, V.bl true, V.bl true]))
      generalize upd H9 q10 (.lst [V.str "wrong", V.int wi, V.bl true, V.bl true]) = H10 at sX ⊢
    all_goals
      have hb10 := sX _ _ hb7
      have hq10 := sX _ _ hq7
      have hl10 := hl7.same sX
      have b10 := b7.same sX
      have k10 := k7.trans sX.kp
      -- two renamings
      refine ⟨_, rfl, fun y1 dx1 hy1 hdx1 ne1 => made2 (th_pl hq10 hl10 (by omega)) (tell_pl sl) vl hy1 hdx1 ne1 fun H11 s11 r1 => ⟨rfl, ?_⟩⟩
      have hb11 := s11 _ _ hb10
      have b11 := b10.same s11
      refine ⟨_, rfl, _, rfl, p, b, nu, rfl, b11, hb11, ln, nN, fun l2 q2 H12 kq b12 hq2 nq2 hl2 ll2 vl2 sl2 => ?_⟩
      have r1 := r1.kp b11 kq
      have hb12 := kq _ _ nbp hb11
      have k12 := (k10.trans s11.kp).trans kq
      clear kq hb11 b11 s11 hb10 b10 k10 hq10 hl10 sX
      refine ⟨q2, _, rfl, .inl ⟨SqL.of hq2, fun t2 ht2 => ?_⟩⟩
      have sT2 := Same.new ht2 (o := .tup (rfp l2))
      have hT2 : (upd H12 t2 (.tup (rfp l2))) t2 = some (.tup (rfp l2)) := upd_same
      generalize upd H12 t2 (.tup (rfp l2)) = H13 at sT2 hT2 ⊢
      refine fun y2 dx2 hy2 hdx2 ne2 => made2 (th_plT hT2 (hl2.same sT2) (by omega)) (tell_plT sl2) vl2 hy2 hdx2 ne2 fun H14 s14 r2 => ⟨rfl, ?_⟩
      refine ⟨sz1 (by simp), fun t3 ht3 => ⟨t3, _, rfl, SqT.of upd_same, rfl, _, _, rfl, _, _, rfl, rfl, ?_⟩⟩
      have s15 := (sT2.trans s14).trans (Same.new ht3 (o := .tup [V.ref y1, V.ref y2]))
      have r1 := r1.same s15
      have r2 := r2.same (Same.new ht3 (o := .tup [V.ref y1, V.ref y2]))
      generalize upd H14 t3 (.tup [V.ref y1, V.ref y2]) = H15 at s15 r1 r2 ⊢
      have hb15 := s15 _ _ hb12
      have b15 := b12.same s15
      have k15 := k12.trans s15.kp
      clear s15 hb12 b12 k12 sT2 hT2 s14 ht3 ht2 hq2 hl2 nq2
      obtain ⟨d1, t1, dd1, h1, L1, ht1, e1, hl1, hd1⟩ := id r1
      obtain ⟨d2, t2', dd2, h2, L2', ht2, e2, hl2, hd2⟩ := id r2
      have lA : (mv (prs l)).length ≤ 10 := Nat.le_trans (len_mv _) (by rw [List.length_map]; omega)
      have lB : (mv (prs l2)).length ≤ 10 := Nat.le_trans (len_mv _) (by rw [List.length_map]; omega)
      -- one behind the other
      refine ⟨_, rfl, _, rfl, y1, y2, RC K, d1, d2, _, _, spMul K, rfl, rfl, h1, h2, x_first T, ok_mul T hP, y1, y2, mv (prs l), mv (prs l2), rfl, r1, r2, val_mv vl, val_mv vl2, sh_mv sl, sh_mv sl2, lA, lB, fun cs z H16 nd mA mB lc s16 rz => ?_⟩
      obtain ⟨dz, _, _, hz, _⟩ := id rz
      have hb16 := s16 _ _ hb15
      obtain ⟨xs, exs, lxs⟩ : ∃ xs : List Int, nu.map V.int ++ [V.int (10 ^ (8 : Int).toNat + 7)] = xs.map V.int ∧ xs.length ≤ 100 := ⟨nu ++ [10 ^ (8 : Int).toNat + 7], by rw [List.map_append]; rfl, by simp only [List.length_append, List.length_cons, List.length_nil]; omega⟩
      refine ⟨_, rfl, _, _, rfl, rfl, ⟨by decide, by decide, by decide⟩, _, _, rfl, rfl, sz1 (by simp), fun u1 hu1 => ?_⟩
      refine ⟨b, u1, _, _, rfl, rfl, Same.new hu1 _ _ hb16, upd_same, Nat.le_of_lt (sz2 (by simp only [List.length_map, List.length_cons, List.length_nil]; omega)), fun g1 hg1 => ?_⟩
      have s17 := s16.trans ((Same.new hu1 (o := .lst [V.int (10 ^ (8 : Int).toNat + 7)])).trans (Same.new hg1 (o := .lst (nu.map V.int ++ [V.int (10 ^ (8 : Int).toNat + 7)]))))
      have sz17 := (Same.new hu1 (o := .lst [V.int (10 ^ (8 : Int).toNat + 7)])).trans (Same.new hg1 (o := .lst (nu.map V.int ++ [V.int (10 ^ (8 : Int).toNat + 7)])))
      have hg17 : upd (upd H16 u1 (.lst [V.int (10 ^ (8 : Int).toNat + 7)])) g1 (.lst (nu.map V.int ++ [V.int (10 ^ (8 : Int).toNat + 7)])) g1 = some (.lst (xs.map V.int)) := by rw [upd_same, exs]
      generalize upd (upd H16 u1 (.lst [V.int (10 ^ (8 : Int).toNat + 7)])) g1 (.lst (nu.map V.int ++ [V.int (10 ^ (8 : Int).toNat + 7)])) = H17 at s17 sz17 hg17 ⊢
      have hz17 := sz17 _ _ hz
      have rz17 := rz.same sz17
      refine lc_mapK (f := fun n => .int (lk (mv (cmp (mv (prs l)) (mv (prs l2)) cs)) n)) hg17 (by omega) (fun _ => rfl) (fun n hn G R s kk => ?_) (fun D18 H18 hD18 s18 hS18 => ?_)
      · exact ⟨z, rfl, _, rfl, RC K, dz, _, spRen K, s _ _ hz17, ical T, z, _, n, rfl, rz17.same s, kk _ (Cm.Same.refl _)⟩
      clear hu1 hg1 hg17 rz17 hz17 sz17 rz hz hb16
      have s18 := s17.trans s18
      have hb18 := s18 _ _ hb15
      refine ⟨_, rfl, _, _, rfl, rfl, ⟨by decide, by decide, by decide⟩, _, _, rfl, rfl, sz1 (by simp), fun u1 hu1 => ?_⟩
      refine ⟨b, u1, _, _, rfl, rfl, Same.new hu1 _ _ hb18, upd_same, Nat.le_of_lt (sz2 (by simp only [List.length_map, List.length_cons, List.length_nil]; omega)), fun g1 hg1 => ?_⟩
      have sz19 := (Same.new hu1 (o := .lst [V.int (10 ^ (8 : Int).toNat + 7)])).trans (Same.new hg1 (o := .lst (nu.map V.int ++ [V.int (10 ^ (8 : Int).toNat + 7)])))
      have hg19 : upd (upd H18 u1 (.lst [V.int (10 ^ (8 : Int).toNat + 7)])) g1 (.lst (nu.map V.int ++ [V.int (10 ^ (8 : Int).toNat + 7)])) g1 = some (.lst (xs.map V.int)) := by rw [upd_same, exs]
      generalize upd (upd H18 u1 (.lst [V.int (10 ^ (8 : Int).toNat + 7)])) g1 (.lst (nu.map V.int ++ [V.int (10 ^ (8 : Int).toNat + 7)])) = H19 at sz19 hg19 ⊢
      have s19 := s18.trans sz19
      have hS19 := sz19 _ _ hS18
      have r1 := r1.same s19
      have r2 := r2.same s19
      have h1 := s19 _ _ h1
      have h2 := s19 _ _ h2
      refine lc_mapK (f := fun n => .int (lk (mv (prs l)) (lk (mv (prs l2)) n))) hg19 (by omega) (fun _ => rfl) (fun n hn G R s kk => ?_) (fun D20 H20 hD20 s20 hS20 => ?_)
      · exact ⟨y1, rfl, y2, rfl, _, rfl, RC K, d2, _, spRen K, s _ _ h2, ical T, y2, _, n, rfl, r2.same s, RC K, d1, _, spRen K, s _ _ h1, ical T, y1, _, _, rfl, r1.same s, kk _ (Cm.Same.refl _)⟩
      have ec : lk (mv (cmp (mv (prs l)) (mv (prs l2)) cs)) = fun n => lk (mv (prs l)) (lk (mv (prs l2)) n) := funext fun n => lk_cmp nd mA mB n
      refine ⟨_, _, dp_ints (ns := xs.map (lk (mv (cmp (mv (prs l)) (mv (prs l2)) cs)))) (by rw [s20 _ _ hS19, List.map_map]; rfl), dp_ints (ns := xs.map fun n => lk (mv (prs l)) (lk (mv (prs l2)) n)) (by rw [hS20, List.map_map]; rfl), shp_ints _, shp_ints _, _, rfl, ?_⟩
      rw [eqv_int2]
      refine uF (by rw [ec]) ?_
      have hl1 := hl1.same (s19.trans s20)
      have hl2 := hl2.same (s19.trans s20)
      have ht1 := (s19.trans s20) _ _ ht1
      have ht2 := (s19.trans s20) _ _ ht2
      have r1 := r1.same s20
      have r2 := r2.same s20
      have h1 := s20 _ _ h1
      have h2 := s20 _ _ h2
      have hb20 := (s19.trans s20) _ _ hb15
      have b20 := b15.same (s19.trans s20)
      have k20 := k15.trans (s19.trans s20).kp
      clear hS20 hD20 hS19 hg19 sz19 hg1 hu1 hS18 hD18 hb18 s18 s17 s16 hb15 b15 k15 s19 s20
      refine ⟨_, rfl, _, rfl, y1, RC K, d1, _, spEq K, rfl, h1, ok_eq T, .inl ⟨y2, RC K, d2, _, rfl, h2, x_nf T⟩, y1, mv (prs l), _, rfl, r1, by omega, .inl ⟨y2, mv (prs l2), rfl, r2, by omega, ?_⟩⟩
      refine ⟨_, rfl, y1, _, d1, _, _, rfl, h1, c_Renaming T, na_Renaming_moved T, rfl, _, rfl, y2, _, d2, _, _, rfl, h2, c_Renaming T, na_Renaming_moved T, rfl, _, _, .tup (SqT.of ht1) (dp_prs L1 hl1), .tup (SqT.of ht2) (dp_prs L2' hl2), shp_prs _, shp_prs _, ?_⟩
      rw [eqv_prs, e1, e2]
      refine ⟨rfl, _, rfl, uF rfl ?_⟩
      refine ⟨_, rfl, _, rfl, y1, _, d1, _, _, rfl, h1, c_Renaming T, na_Renaming_moved T, rfl, y1, RC K, d1, _, spEq K, t1, _, rfl, rfl, h1, SqT.of ht1, ok_eq T, x_nft T, y1, mv (prs l), _, rfl, r1, by omega, .inr ⟨t1, _, rfl, ht1, ?_⟩⟩
      refine ⟨_, rfl, iteF ?_⟩
      -- a swap
      refine ⟨_, rfl, _, rfl, p, b, _, rfl, hb20, by rw [List.length_map]; omega, by rw [List.length_map]; omega, b20, nbp.symm, fun va H21 hma kq b21 => ?_⟩
      have hb21 := kq _ _ nbp hb20
      have k21 := k20.trans kq
      clear kq hb20 b20 k20
      refine ⟨_, rfl, _, rfl, p, b, _, rfl, hb21, by rw [List.length_map]; omega, by rw [List.length_map]; omega, b21, nbp.symm, fun vb H22 hmb kq b22 => ⟨_, _, rfl, ?_⟩⟩
      have hb22 := kq _ _ nbp hb21
      have k22 := k21.trans kq
      clear kq hb21 b21 k21
      obtain ⟨na, hna, rfl⟩ := int_mem hma
      obtain ⟨nb, hnb, rfl⟩ := int_mem hmb
      have sha := nN.2 _ hna
      have shb := nN.2 _ hnb
      refine ⟨_, rfl, _, _, rfl, rfl, ⟨by decide, by decide, by decide⟩, _, _, rfl, rfl, ⟨by decide, by decide, by decide⟩, _, rfl, _, rfl, _, rfl, sz1 (by simp), fun t4 ht4 => ⟨sz1 (by simp), fun u4 hu4 => ?_⟩⟩
      have sU : ∀ o, Same H22 (upd (upd H22 t4 (.tup [V.int na, V.int nb])) u4 o) := fun o => (Same.new ht4 (o := .tup [V.int na, V.int nb])).trans (Same.new hu4 (o := o))
      have hT4 : ∀ o, (upd (upd H22 t4 (.tup [V.int na, V.int nb])) u4 o) t4 = some (.tup [V.int na, V.int nb]) := fun o => (Same.new hu4 (o := o)) _ _ upd_same
      refine ⟨p, u4, _, rfl, upd_same, by simp, by simp, b22.same (sU _), b22.ne (Cm.Same.free (Cm.Same.new ht4) hu4), fun vo H23 hmo kq b23 => ?_⟩
      obtain ⟨io, hio, hsh⟩ : ∃ io, ItAt K H23 vo io ∧ shI io = false := by
        simp only [List.mem_cons, List.not_mem_nil, or_false] at hmo
        rcases hmo with rfl | rfl | rfl | rfl | rfl | rfl | rfl
        · exact ⟨.fl .nn, rfl, rfl⟩
        · exact ⟨.fl (.bo true), rfl, rfl⟩
        · exact ⟨.fl (.bo false), rfl, rfl⟩
        · exact ⟨.fl (.nu _), rfl, by decide +kernel⟩
        · exact ⟨.fl (.nu _), rfl, by decide +kernel⟩
        · exact ⟨.fl (.st "1"), rfl, rfl⟩
        · exact ⟨.sq true [.nu na, .nu nb], ⟨t4, rfl, SqT.of (kq _ _ (b22.ne ht4).symm (hT4 _)), by simp⟩, rfl⟩
      have hb23 := kq _ _ nbp ((sU _) _ _ hb22)
      have k23 := k22.trans ((sU _).kp.trans kq)
      clear hmo kq sU hT4 hu4 ht4 hb22 b22 k22
      refine ⟨_, rfl, _, rfl, _, _, .fl (.nu na), .fl (.nu nb), rfl, rfl, rfl, fun a5 b5 e5 e6 _ _ x5 H24 s24 r5 => ?_, fun hb => (by rw [show shI (.fl (.nu na)) = sh na from rfl, show shI (.fl (.nu nb)) = sh nb from rfl, sha, shb] at hb; cases hb)⟩
      cases e5
      cases e6
      obtain ⟨w1, w2, w3⟩ := lk_swp na nb
      obtain ⟨d5, _, _, h5, _⟩ := id r5
      have hio := hio.same s24
      refine ⟨_, _, rfl, _, rfl, .ref x5, .ref (RC K), _, _, true, rfl, .own _, ren_ty T h5, x_kit T, true, rfl, iteF ?_⟩
      refine ⟨x5, rfl, _, rfl, RC K, d5, _, spRen K, h5, ical T, x5, _, na, rfl, r5, x5, rfl, _, rfl, RC K, d5, _, spRen K, h5, ical T, x5, _, nb, rfl, r5, ?_⟩
      refine ⟨_, rfl, x5, RC K, d5, _, spLen K, rfl, h5, ok_len T, x5, _, rfl, r5, _, rfl, by omega, by rw [w3]; split <;> omega, sz1 (by simp), fun L1 hL1 => ?_⟩
      refine ⟨_, rfl, _, rfl, _, rfl, _, rfl, rfl, .inr ⟨_, rfl, _, _, rfl, rfl, .inl ⟨by decide, by decide⟩, sz1 (by simp), fun L2 hL2 => ?_⟩⟩
      refine ⟨_, _, dp_ints (ns := [lk (mv (swp na nb)) na, lk (mv (swp na nb)) nb, ((mv (swp na nb)).length : Nat)]) ((Same.new hL2) _ _ upd_same), dp_ints (ns := [nb, na, 2 * (if (!decide (V.int na = V.int nb)) = true then 1 else 0)]) upd_same, shp_ints _, shp_ints _, _, rfl, ?_⟩
      rw [eqv_int2]
      refine uF (by rw [w1, w2, w3]) ?_
      have sV := (Same.new hL1 (o := .lst [V.int (lk (mv (swp na nb)) na), V.int (lk (mv (swp na nb)) nb), V.int ((mv (swp na nb)).length : Nat)])).trans (Same.new hL2 (o := .lst [V.int nb, V.int na, V.int (2 * (if (!decide (V.int na = V.int nb)) = true then 1 else 0))]))
      have hio := hio.same sV
      have hb25 := (s24.trans sV) _ _ hb23
      have b25 := b23.same (s24.trans sV)
      have k25 := k23.trans (s24.trans sV).kp
      generalize upd (upd H24 L1 (.lst [V.int (lk (mv (swp na nb)) na), V.int (lk (mv (swp na nb)) nb), V.int ((mv (swp na nb)).length : Nat)])) L2 (.lst [V.int nb, V.int na, V.int (2 * (if (!decide (V.int na = V.int nb)) = true then 1 else 0))]) = H25 at hio hb25 b25 k25 ⊢
      clear sV hL1 hL2 w1 w2 w3 h5 r5 s24 b23 hb23 k23
      refine ⟨_, rfl, _, rfl, _, _, .fl (.nu na), io, rfl, rfl, hio, fun _ _ _ e s1 s2 => (no_nu hsh e s2).elim, fun _ H26 q1 s26 hq1 => ?_⟩
      have hio := hio.same s26
      refine ⟨_, rfl, _, rfl, _, _, io, .fl (.nu nb), rfl, hio, rfl, fun _ _ e _ s1 s2 => (no_nu hsh e s1).elim, fun _ H27 q2 s27 hq2 => ?_⟩
      have hio := hio.same s27
      have hq1 := s27 _ _ hq1
      refine ⟨_, rfl, _, rfl, _, _, io, io, rfl, hio, hio, fun _ _ e _ s1 s2 => (no_nu hsh e s1).elim, fun _ H28 q3 s28 hq3 => ?_⟩
      have hq1 := s28 _ _ hq1
      have hq2 := s28 _ _ hq2
      refine ⟨sz1 (by simp), fun u5 hu5 => ⟨sz1 (by simp), fun u6 hu6 => ⟨sz1 (by simp), fun u7 hu7 => ?_⟩⟩⟩
      refine ⟨u7, 3, _, rfl, rfl, upd_same, by decide, by decide, sz1 (by simp), fun u8 hu8 => ?_⟩
      have s5 := Cm.Same.new hu5 (o := .lst [V.ref q1, V.ref q2, V.ref q3])
      have s6 := Cm.Same.new hu6 (o := .lst [V.str "wrong", V.int 0])
      have s7 := Cm.Same.new hu7 (o := .lst [V.ref u6])
      have s8 := Cm.Same.new hu8 (o := .lst (List.replicate (3 : Int).toNat [V.ref u6]).flatten)
      have s58 := s5.trans (s6.trans (s7.trans s8))
      have hu6' := (s7.trans s8) _ _ (upd_same (H := upd H28 u5 (.lst [V.ref q1, V.ref q2, V.ref q3])) (a := u6) (o := .lst [V.str "wrong", V.int 0]))
      refine ⟨_, _, .lst (SqL.of ((s6.trans (s7.trans s8)) _ _ upd_same)) (.cons (w0_dp (s58 _ _ hq1)) (.cons (w0_dp (s58 _ _ hq2)) (.cons (w0_dp (s58 _ _ hq3)) .nil))), .lst (SqL.of upd_same) (.cons (w0_dp hu6') (.cons (w0_dp hu6') (.cons (w0_dp hu6') .nil))), w3_shp, w3_shp, _, rfl, ?_⟩
      rw [w3_eqv]
      have sZ := s26.trans (s27.trans (s28.trans s58))
      exact iteF ⟨⟨_, _, _, _, _, _, _, _, _, _, _, _, _, rfl⟩, k25.trans sZ.kp, b25.same sZ, sZ _ _ hb25⟩
end
end K29
open PySem PySem.W PySem.Calls PyProof.Rows
theorem PySem.Challenge.cw_quietedition_k29_renamings_made_holds : PySem.Challenge.rw_quietedition_k29_renamings_made.Holds := by
  w_on; o_law
  refine HandSHeadRun.head_any (r := OpenLaw.row PySem.Challenge.rw_quietedition_k29_renamings_made) (q := view (OpenLaw.row PySem.Challenge.rw_quietedition_k29_renamings_made).prog [24]) (H := K29.hkz 5) (ob := K29.ob) (M := 3000) (loose := K29.loose) (d := HandSHeadRun.topDef (OpenLaw.row PySem.Challenge.rw_quietedition_k29_renamings_made).prog 24) (kwd := []) K29.ob_eq
    (by kernel_rfl) (fun s => by kernel_rfl) K29.run (by kernel_rfl) (by kernel_rfl) (by kernel_rfl) (by rfl) (by first | assumption | decide +kernel) (by decide +kernel) ⟨rfl, rfl, rfl, rfl, rfl, by decide +kernel⟩ ?hw ?hc
  case hw => w_witness2
  case hc =>
    refine L2.walk_ofE (l := PySem.Challenge.rw_quietedition_k29_renamings_made) (n := 63) (k := 16) (x := "_law_script") (CX := L2.CX0) rfl (by decide) (by kernel_rfl) ⟨rfl, by decide, by decide⟩ ?F (fun _ _ _ _ z => z)
    intro w mg fa h Y G g0
    obtain ⟨K, KX, c, cw, ck⟩ := Y
    have gl : mg ("law" : PySem.Str) = some (.ref fa) := by
      have nm : (HandSHeadRun.topDef (OpenLaw.row PySem.Challenge.rw_quietedition_k29_renamings_made).prog 24).name = ("law" : PySem.Str) := by kernel_rfl
      rw [← nm]
      exact g0
    have T : K29.Tx K mg (0 : Addr) [] := K29.tx_of KX G c ck cw
    obtain ⟨fd, F⟩ := K29.f_law T
    cases gl.symm.trans (K29.g_law T)
    have b := L2.FunD.bindsA (ps := ["_law_script"]) F fun _ _ _ _ _ _ us hl => match us, hl with | [_], _ => rfl
    exact ⟨K, fd, K29.spLaw K, KX, fun s v => b s [v] rfl, fun _ a ns _ _ q => ⟨a, ns, rfl, q, fun _ => rfl⟩, fun _ _ _ => K29.ok_law T ⟨by rfl, by decide +kernel⟩ F⟩
