import PyProof.Rows.All
import Wide.All
import OpenK.AllK
import Wide.FinOn
import KE.KStateDown
import HandS.ForMost
import HandS.FStr
import HandS.IsInst
import HandS.Wide
import HandS.SlotsOwn
import HandS.Defaults
import HandS.Head0
import HandS.Head1
import HandS.Head2
import HandS.HeadEnd
import HandS.HeadHook1
import HandS.HeadHook2
import PySem.Challenge.RW_quietedition_k00_rows_and_values
set_option Elab.async false
set_option linter.all false
set_option maxRecDepth 100000
set_option maxHeartbeats 0
namespace Cm
open PySem PySem.Spec PyProof.Rows L2

/-! ### defs, methods, makers of the module, each as one fact -/
/-- the module's name x is a def that keeps sp at level k -/
def Cal (P : Program) (w : World) (K : PySem.W.Frag) (mg : Str → Option Value) (base : Heap) (k : Nat) (x : Str) (sp : Sp) : Prop :=
  ∃ f fd ps, FnOk P w K mg base CX0 k f fd ps sp ∧ Binds K fd ps [] ∧ mg x = some (.ref f) ∧ PySem.W.keepIn K (.ref f) = true
/-- the class at C has the method m, which keeps sp at level k -/
def MCal (P : Program) (w : World) (K : PySem.W.Frag) (mg : Str → Option Value) (base : Heap) (k : Nat) (C : Addr) (m : Str) (sp : Sp) : Prop :=
  Cls K C ∧ ∃ f fd ps, FnOk P w K mg base CX0 k f fd ps sp ∧ Binds K fd ps [] ∧ Meth K C m f
/-- the module's name x is the class at C, whose maker keeps sp; dv fills up -/
def KCal (P : Program) (w : World) (K : PySem.W.Frag) (mg : Str → Option Value) (base : Heap) (k : Nat) (x : Str) (C : Addr) (sp : Sp) (dv : List V) : Prop :=
  mg x = some (.ref C) ∧ ∃ f fd ps ds, Mk K C f ∧ FnOk P w K mg base CX0 k f fd ps sp ∧ Binds K fd ps ds ∧ Vals dv ds
section
variable {X : Cx} {j k : Nat} {x m : Str} {C : Addr} {sp : Sp} {dv : List V} {e o : Expr} {es : List Expr} {p pos apos : Pos} {t : TA} {ta : TE}
theorem pe_cal (c : Cal X.prog X.w X.K X.mg X.base k x sp) (hr : Room j X.A) (hk : k ≤ j) (ha : PA X (e :: es) t) (hg : Gl X x := by rfl) (hd : (x == ("__debug__" : Str)) = false := by decide)
    (h1 : starEach (e :: es) X.env = (false, eval e X.env) :: starEach es X.env := by rfl) (h2 : (backTo pos (starEach es X.env)).any (·.1) = false := by rfl) :
    PE X (.Call (.Name x p) (e :: es) [] pos) (tCall sp [] E0 t) := by
  obtain ⟨f, fd, ps, F, b, g, kp⟩ := c
  exact pe_call F (hr.mono hk) hg g kp b .nil pass0 ha hd h1 h2
theorem pe_kal (c : KCal X.prog X.w X.K X.mg X.base k x C sp dv) (hr : Room j X.A) (hk : k + 1 ≤ j) (ha : PA X (e :: es) t) (hg : Gl X x := by rfl) (hd : (x == ("__debug__" : Str)) = false := by decide)
    (h1 : starEach (e :: es) X.env = (false, eval e X.env) :: starEach es X.env := by rfl) (h2 : (backTo pos (starEach es X.env)).any (·.1) = false := by rfl) :
    PE X (.Call (.Name x p) (e :: es) [] pos) (tMake C sp dv E0 t) := by
  obtain ⟨g, f, fd, ps, ds, M, F, b, v⟩ := c
  exact pe_make M F (hr.mono hk) hg g b v pass0 ha hd h1 h2
theorem pe_mcal0 {pl : Sem Bool} (c : MCal X.prog X.w X.K X.mg X.base k C m sp) (hr : Room j X.A) (hk : k ≤ j) (ho : PE X o ta)
    (ht : eval (.Call (.Attribute o m apos) [] [] pos) X.env = (do
      let ov ← eval o X.env
      standAt apos.atName
      let (f, first) ← holding [ov] (getMethod ov m pl)
      callWith pos f first (backTo pos (starEach [] X.env)) (backToKw pos (keywordEach [] X.env))) := by rfl) : PE X (.Call (.Attribute o m apos) [] [] pos) (tMeth C m sp [] E0 ta tNil) := by
  obtain ⟨cl, f, fd, ps, F, b, M⟩ := c
  exact pe_meth0 ho cl M F (hr.mono hk) b .nil pass0 ht
/-- two readings of one expression -/
theorem PE.or2 {t1 t2 : TE} (h1 : PE X e t1) (h2 : PE X e t2) : PE X e (fun σ H Q => t1 σ H Q ∨ t2 σ H Q) :=
  ⟨fun pins s σ H Q I h => h.elim (h1.run pins s σ H Q I) (h2.run pins s σ H Q I)⟩
end
theorem MCal.mono {P : Program} {w : World} {K : PySem.W.Frag} {mg : Str → Option Value} {base : Heap} {j k : Nat} {C : Addr} {m : Str} {sp : Sp} (h : MCal P w K mg base j C m sp) (l : j ≤ k) : MCal P w K mg base k C m sp :=
  let ⟨c, f, fd, ps, F, r⟩ := h; ⟨c, f, fd, ps, F.mono l, r⟩
/-! ### methods and == of an instance whose class the reading tells -/
def tMG (P : Program) (w : World) (K : PySem.W.Frag) (mg : Str → Option Value) (base : Heap) (k : Nat) (m : Str) (ta : TE) : TE := fun σ H Q =>
  ta σ H fun x H1 => ∃ a C dx fs sp, x = .ref a ∧ H1 a = some (.ins C dx fs) ∧ fs.lookup m = none ∧ MCal P w K mg base k C m sp ∧ sp [.ref a] H1 Q E0
def rOwnG (P : Program) (w : World) (K : PySem.W.Frag) (mg : Str → Option Value) (base : Heap) (k : Nat) (m : Str) : R2 := fun x y H Q =>
  ∃ a C dx fs sp, x = .ref a ∧ H a = some (.ins C dx fs) ∧ MCal P w K mg base k C m sp ∧
    ((∃ b D dy gs, y = .ref b ∧ H b = some (.ins D dy gs) ∧ PySem.W.notFirst K C (.ref D) = true) ∨ (∃ z, y = .str z ∧ PySem.W.notFirst K C (.type "str") = true)) ∧ sp [x, y] H Q E0
section
variable {X : Cx} {j k : Nat} {m : Str} {o : Expr} {pos apos : Pos} {ta : TE}
theorem pe_mG {pl : Sem Bool} (hr : Room j X.A) (hk : k ≤ j) (he : PE X o ta)
    (ht : eval (.Call (.Attribute o m apos) [] [] pos) X.env = (do
      let ov ← eval o X.env
      standAt apos.atName
      let (f, first) ← holding [ov] (getMethod ov m pl)
      callWith pos f first (backTo pos (starEach [] X.env)) (backToKw pos (keywordEach [] X.env))) := by rfl) : PE X (.Call (.Attribute o m apos) [] [] pos) (tMG X.prog X.w X.K X.mg X.base k m ta) := by
  constructor
  intro pins s σ H Q I h
  refine PySem.W.methodCall_KW (pl := pl) (thn (he.run pins s σ H _ I h) ?_) ht
  rintro u s1 ⟨x, H1, I1, rx, a, C, dx, fs, sp, ex, ea, l, ⟨c, f, fd, ps, F, b, M⟩, q⟩
  subst ex
  cases (show u = Value.ref a from rx)
  refine getmeth_ok I1 ea c M l ?_
  exact PySem.W.callWith_K0 (first := [.ref a]) I1.kIn M.kp (run_fn (vs := [.ref a]) F (hr.mono hk) b .nil pass0 I1 (.cons rfl .nil) q)
theorem op_ownG (hr : Room j X.A) (hk : k ≤ j) : OpR X (compareOp .Eq) (rOwnG X.prog X.w X.K X.mg X.base k "__eq__") := by
  intro pins s σ H x y v u Q I rx ry h
  obtain ⟨a, C, dx, fs, sp, ex, ha, ⟨c, f, fd, ps, F, b, M⟩, hy, q⟩ := h
  subst ex
  cases (show v = Value.ref a from rx)
  obtain ⟨mA, O, _⟩ := ins_get I.hok ha
  obtain ⟨od, J, _⟩ := O.look
  obtain ⟨mm, hF⟩ := I.fr
  have go : ∀ tb, PySem.W.Looks (model X.prog X.w) s.heap (typeOf u) tb → PySem.W.notFirst X.K C tb = true → wpAny (model X.prog X.w) X.A (compareOp .Eq (.ref a) u) (EP X pins σ Q) X.xe s := by
    intro tb hb hn
    show wpAny _ X.A (richCompare .Eq (.ref a) u) _ _ s
    refine PySem.W.cmp_K (op := .Eq) hr.units0 hF I.ok.mod.kin J hb hn M.at_ M.fn ?_
    refine wpAny_mono (run_fn (us := [.ref a, u]) (vs := [.ref a, y]) F (hr.mono hk) b .nil pass0 I (.cons rfl (.cons ry .nil)) q) ?_ fun _ _ z => z
    rintro r s' ⟨z, H', I', rz, qz⟩
    exact SlX.cmpback rz ⟨z, H', I', rz, qz⟩
  rcases hy with ⟨b', D, dy, gs, ey, hb, hn⟩ | ⟨z, ey, hn⟩
  · subst ey
    cases (show u = Value.ref b' from ry)
    obtain ⟨mB, O', _⟩ := ins_get I.hok hb
    obtain ⟨od', J', _⟩ := O'.look
    exact go _ J'.type hn
  · subst ey
    obtain ⟨t, e⟩ := (show ∃ t, u = Value.str z t from ry)
    cases e
    exact go (.type "str") .now hn
end
/-! ### an instance of a class without a maker of its own -/
section
variable {X : Cx} {x : Str} {C : Addr} {p pos : Pos}
/-- C() where no __init__ stands but object's -/
def tMk0 (C : Addr) : TE := fun _ H Q => ∀ y dx, H y = none → H dx = none → dx ≠ y → Q (.ref y) (upd (upd H dx (.own y)) y (.ins C dx []))
theorem pe_mk0 (hm : PySem.W.makesIn X.K C = true) (hi : PySem.W.findIn X.K (.ref C) "__init__" = some (some (.builtin "object.__init__"))) (kp : PySem.W.keepIn X.K (.ref C) = true) (g : X.mg x = some (.ref C)) (hg : Gl X x := by rfl)
    (hd : (x == ("__debug__" : Str)) = false := by decide) : PE X (.Call (.Name x p) [] [] pos) (tMk0 C) := by
  constructor
  intro pins s σ H Q I h
  refine wpAny_Call_Name_kw (ld_glob I hg g ?_ hd)
  refine PySem.W.callWith_K0 I.kIn kp ?_
  have I2 := Inv.made (C := C) I
  have q := h (s.heap.objs.size + 1) s.heap.objs.size (I.hok.fresh (Nat.le_succ _)) (I.hok.fresh (Nat.le_refl _)) (Nat.ne_of_lt (Nat.lt_succ_self _))
  have Y := PySem.W.makes_of (M := model X.prog X.w) I.kIn hm
  refine wpAny_call (make_map0 I.kIn hm hi (fun self => PySem.W.Looks.of_pure (PySem.W.oi_bind self)) ?_)
  have e2 : ((s.heap.push PySem.W.emptyDict).push (PySem.W.instObj C s.heap.objs.size)).get? (s.heap.objs.size + 1) = some (PySem.W.instObj C s.heap.objs.size) := by
    have z := Heap.get?_push_size (s.heap.push PySem.W.emptyDict) (o := PySem.W.instObj C s.heap.objs.size) rfl
    rwa [Heap.size_push] at z
  have t1 : PySem.W.Looks (model X.prog X.w) ((s.heap.push PySem.W.emptyDict).push (PySem.W.instObj C s.heap.objs.size)) (typeOf (.ref (s.heap.objs.size + 1))) (.ref C) := (PySem.W.Looks.ld e2).andThen .now
  have t2 : PySem.W.Looks (model X.prog X.w) ((s.heap.push PySem.W.emptyDict).push (PySem.W.instObj C s.heap.objs.size)) (isInstance (.ref (s.heap.objs.size + 1)) (.type "object")) true :=
    t1.andThen (Y.top.keeps fun b o e => Heap.get?_push_of_some _ (Heap.get?_push_of_some _ e))
  refine codeAny_call_builtin PySem.W.oi_plain PySem.W.entry_oi (@PySem.W.check_slot (model X.prog X.w) _ _ _ "object.__init__" "object" "__init__" (.ref (s.heap.objs.size + 1)) [] [] _ PySem.W.oi_kind PySem.W.oi_split t2 (PySem.W.oi_args _) ?_)
  rw [PySem.W.oi_run]
  exact wpAny_pure (And.intro rfl ⟨V.ref _, _, I2, rfl, q⟩)
end
/-! ### a def of the text keeps its promise -/
section
variable {P : Program} {w : World} {K : PySem.W.Frag} {mg : Str → Option Value} {base : Heap} {x qual : Str} {a : Arguments} {b : List Stmt} {sc : Scope} {dv : List V} {f : Addr} {fd : FuncData} {N ps : List Str} {k : Nat} {sp : Sp}
theorem fnok (F : FunD K x qual a b sc dv [] f fd) (S : FnScope N ps sc) (len : ∀ vs H Q E, sp vs H Q E → vs.length = ps.length)
    (body : ∀ (cdv : Value) (A : Around) (outer : List Env) (s : Shared) (H : Hp) (vs : List V) (Q : VK) (E : XK), Room k (A.deeper (envOfC qual sc s.heap.objs.size f cdv)) → sp vs H Q E →
      ∃ t, PSs (cxOf CX0 P w K mg base N qual sc f cdv A outer s H E).nox b t ∧ t { nx := fun _ H' => Q .non H', rt := Q } (start N vs) H) : FnOk P w K mg base CX0 (k + 1) f fd ps sp :=
  F.ok S len fun cdv A outer s H vs Q E hr h => let ⟨t, d, q⟩ := body cdv A outer s H vs Q E hr h; ⟨t, d.nox, q⟩
end
/-! ### heaps: all but p is kept -/
def Kp (p : Addr) (H H' : Hp) : Prop := ∀ a o, a ≠ p → H a = some o → H' a = some o
theorem Kp.refl {p : Addr} {H : Hp} : Kp p H H := fun _ _ _ h => h
theorem Kp.trans {p : Addr} {H H1 H2 : Hp} (a : Kp p H H1) (b : Kp p H1 H2) : Kp p H H2 := fun c o n h => b c o n (a c o n h)
theorem Kp.at {p : Addr} {H H' : Hp} {o : HO} (a : Kp p H H') : Kp p H (upd H' p o) := fun c u n h => by rw [upd_ne n]; exact a c u n h
theorem Kp.new {p q : Addr} {H H' : Hp} {o : HO} (a : Kp p H H') (h : H' q = none) : Kp p H (upd H' q o) := fun c u n e => by
  rw [upd_ne (ne_of_none (a c u n e) h)]; exact a c u n e
theorem Kp.rd {p a : Addr} {H H' : Hp} {u : HO} (k : Kp p H H') (n : a ≠ p) (h : Rd H a u) : Rd H' a u := h.elim (fun h => .inl (k _ _ n h)) fun ⟨o, h⟩ => .inr ⟨o, k _ _ n h⟩
theorem Kp.sl {K : PySem.W.Frag} {p a : Addr} {H H' : Hp} {xs : List V} (k : Kp p H H') (n : a ≠ p) (h : SqL K H a xs) : SqL K H' a xs := h.elim (fun h => .inl (k.rd n h)) .inr
theorem Kp.st {K : PySem.W.Frag} {p a : Addr} {H H' : Hp} {xs : List V} (k : Kp p H H') (n : a ≠ p) (h : SqT K H a xs) : SqT K H' a xs := h.elim (fun h => .inl (k.rd n h)) .inr
theorem sz1 {n : Nat} (h : n ≤ 100000) : n ≤ sizeLine := Nat.le_trans h (by decide)
theorem sz2 {n : Nat} (h : n ≤ 100000) : n < sizeLine := Nat.lt_of_le_of_lt h (by decide)
theorem log_of {i : Int} (h : i.natAbs < 2 ^ 1000) : i.natAbs.log2 < 1920 := Nat.lt_of_lt_of_le (PySem.Flt.log2_lt_of (by decide) h) (by decide)
/-! ### texts -/
theorem app_len (a b : Str) : (a ++ b).length = a.length + b.length := by
  show (a.cps ++ b.cps).size = a.cps.size + b.cps.size
  exact Array.size_append
theorem emp_app (a : Str) : Str.empty ++ a = a := by
  show (⟨#[] ++ a.cps⟩ : Str) = a
  rw [Array.empty_append]
theorem app_assoc (a b c : Str) : a ++ b ++ c = a ++ (b ++ c) := by
  show (⟨a.cps ++ b.cps ++ c.cps⟩ : Str) = ⟨a.cps ++ (b.cps ++ c.cps)⟩
  rw [Array.append_assoc]
/-! ### tests -/
theorem tT {c A B : Prop} [Decidable c] (h : c) (a : A) : if decide c = true then A else B := by
  rw [decide_eq_true h]; exact iteT a
theorem tF {c A B : Prop} [Decidable c] (h : ¬ c) (b : B) : if decide c = true then A else B := by
  rw [decide_eq_false h]; exact iteF b
theorem uT {c A B : Prop} [Decidable c] (h : ¬ c) (a : A) : if (!decide c) = true then A else B := by
  rw [decide_eq_false h]; exact iteT a
theorem uF {c A B : Prop} [Decidable c] (h : c) (b : B) : if (!decide c) = true then A else B := by
  rw [decide_eq_true h]; exact iteF b
theorem bT {b : Bool} {A B : Prop} (h : b = true) (a : A) : if b = true then A else B := by rw [h]; exact iteT a
theorem bF {b : Bool} {A B : Prop} (h : b = false) (a : B) : if b = true then A else B := by rw [h]; exact iteF a
theorem dC {c A B : Prop} [Decidable c] (hT : c → A) (hF : ¬ c → B) : if decide c = true then A else B := by
  by_cases h : c
  · exact tT h (hT h)
  · exact tF h (hF h)
theorem uC {c A B : Prop} [Decidable c] (hT : ¬ c → A) (hF : c → B) : if (!decide c) = true then A else B := by
  by_cases h : c
  · exact uF h (hF h)
  · exact uT h (hT h)
theorem bC {b : Bool} {A B : Prop} (hT : b = true → A) (hF : b = false → B) : if b = true then A else B := by
  cases h : b
  · exact iteF (hF h)
  · exact iteT (hT h)
/-! ### attributes -/
theorem fl1 {f : Str} {v : V} {fs : List (Str × V)} : (putF f v fs).lookup f = some v := by rw [lookup_putF, if_pos rfl]
theorem fl2 {f g : Str} {v : V} {fs : List (Str × V)} {o : Option V} (h : ¬ g = f) (e : fs.lookup g = o) : (putF f v fs).lookup g = o := by rw [lookup_putF, if_neg h, e]
theorem fn0 : ([] : List (Str × V)).length < 1000 := by decide
theorem fnS {f : Str} {v : V} {fs : List (Str × V)} (h : fs.length < 900) : (putF f v fs).length < 1000 := by
  have := length_putF f v fs; omega
theorem fs0 : ([] : List (Str × V)).length < 900 := by decide
theorem fs1 {f : Str} {v : V} {fs : List (Str × V)} (h : fs.length < 800) : (putF f v fs).length < 900 := by
  have := length_putF f v fs; omega
end Cm
namespace K00
open PySem PySem.Spec PyProof.Rows L2 Cm
def top (i : Nat) : Stmt := PySem.Challenge.pw_quietedition_k00_rows_and_values.main.body.getD i (.Pass ⟨0, 0, 0, 0⟩)
abbrev s_value_text : Stmt := top 2
theorem sc_value_text : FnScope ["value", "kind"] ["value"] (defScope s_value_text) := ⟨rfl, rfl, rfl, by decide +kernel, rfl, by decide +kernel, by decide +kernel⟩
abbrev s_Tell_init : Stmt := inClass (top 4) 0
theorem sc_Tell_init : FnScope ["self", "value"] ["self", "value"] (defScope s_Tell_init) := ⟨rfl, rfl, rfl, by decide +kernel, rfl, by decide +kernel, by decide +kernel⟩
abbrev s_Tell_text : Stmt := inClass (top 4) 1
theorem sc_Tell_text : FnScope ["self"] ["self"] (defScope s_Tell_text) := ⟨rfl, rfl, rfl, by decide +kernel, rfl, by decide +kernel, by decide +kernel⟩
abbrev s_Tell_operands : Stmt := inClass (top 4) 2
theorem sc_Tell_operands : FnScope ["self"] ["self"] (defScope s_Tell_operands) := ⟨rfl, rfl, rfl, by decide +kernel, rfl, by decide +kernel, by decide +kernel⟩
abbrev s_Tell_eq : Stmt := inClass (top 4) 4
theorem sc_Tell_eq : FnScope ["self", "other"] ["self", "other"] (defScope s_Tell_eq) := ⟨rfl, rfl, rfl, by decide +kernel, rfl, by decide +kernel, by decide +kernel⟩
abbrev s_Put_init : Stmt := inClass (top 5) 0
theorem sc_Put_init : FnScope ["self", "place", "value"] ["self", "place", "value"] (defScope s_Put_init) := ⟨rfl, rfl, rfl, by decide +kernel, rfl, by decide +kernel, by decide +kernel⟩
abbrev s_Put_text : Stmt := inClass (top 5) 1
theorem sc_Put_text : FnScope ["self"] ["self"] (defScope s_Put_text) := ⟨rfl, rfl, rfl, by decide +kernel, rfl, by decide +kernel, by decide +kernel⟩
abbrev s_Put_operands : Stmt := inClass (top 5) 2
theorem sc_Put_operands : FnScope ["self"] ["self"] (defScope s_Put_operands) := ⟨rfl, rfl, rfl, by decide +kernel, rfl, by decide +kernel, by decide +kernel⟩
abbrev s_Put_eq : Stmt := inClass (top 5) 4
theorem sc_Put_eq : FnScope ["self", "other"] ["self", "other"] (defScope s_Put_eq) := ⟨rfl, rfl, rfl, by decide +kernel, rfl, by decide +kernel, by decide +kernel⟩
abbrev s_Same_init : Stmt := inClass (top 6) 0
theorem sc_Same_init : FnScope ["self", "left", "right", "skip"] ["self", "left", "right", "skip"] (defScope s_Same_init) := ⟨rfl, rfl, rfl, by decide +kernel, rfl, by decide +kernel, by decide +kernel⟩
abbrev s_Same_text : Stmt := inClass (top 6) 1
theorem sc_Same_text : FnScope ["self"] ["self"] (defScope s_Same_text) := ⟨rfl, rfl, rfl, by decide +kernel, rfl, by decide +kernel, by decide +kernel⟩
abbrev s_Same_operands : Stmt := inClass (top 6) 2
theorem sc_Same_operands : FnScope ["self"] ["self"] (defScope s_Same_operands) := ⟨rfl, rfl, rfl, by decide +kernel, rfl, by decide +kernel, by decide +kernel⟩
abbrev s_Same_eq : Stmt := inClass (top 6) 4
theorem sc_Same_eq : FnScope ["self", "other"] ["self", "other"] (defScope s_Same_eq) := ⟨rfl, rfl, rfl, by decide +kernel, rfl, by decide +kernel, by decide +kernel⟩
abbrev s_There_init : Stmt := inClass (top 7) 0
theorem sc_There_init : FnScope ["self", "name", "skip"] ["self", "name", "skip"] (defScope s_There_init) := ⟨rfl, rfl, rfl, by decide +kernel, rfl, by decide +kernel, by decide +kernel⟩
abbrev s_There_text : Stmt := inClass (top 7) 1
theorem sc_There_text : FnScope ["self"] ["self"] (defScope s_There_text) := ⟨rfl, rfl, rfl, by decide +kernel, rfl, by decide +kernel, by decide +kernel⟩
abbrev s_There_operands : Stmt := inClass (top 7) 2
theorem sc_There_operands : FnScope ["self"] ["self"] (defScope s_There_operands) := ⟨rfl, rfl, rfl, by decide +kernel, rfl, by decide +kernel, by decide +kernel⟩
abbrev s_There_eq : Stmt := inClass (top 7) 4
theorem sc_There_eq : FnScope ["self", "other"] ["self", "other"] (defScope s_There_eq) := ⟨rfl, rfl, rfl, by decide +kernel, rfl, by decide +kernel, by decide +kernel⟩
abbrev s_Call_init : Stmt := inClass (top 8) 0
theorem sc_Call_init : FnScope ["self", "name", "value", "tag"] ["self", "name", "value", "tag"] (defScope s_Call_init) := ⟨rfl, rfl, rfl, by decide +kernel, rfl, by decide +kernel, by decide +kernel⟩
abbrev s_Call_text : Stmt := inClass (top 8) 1
theorem sc_Call_text : FnScope ["self", "line"] ["self"] (defScope s_Call_text) := ⟨rfl, rfl, rfl, by decide +kernel, rfl, by decide +kernel, by decide +kernel⟩
abbrev s_Call_operands : Stmt := inClass (top 8) 2
theorem sc_Call_operands : FnScope ["self"] ["self"] (defScope s_Call_operands) := ⟨rfl, rfl, rfl, by decide +kernel, rfl, by decide +kernel, by decide +kernel⟩
abbrev s_Call_eq : Stmt := inClass (top 8) 4
theorem sc_Call_eq : FnScope ["self", "other"] ["self", "other"] (defScope s_Call_eq) := ⟨rfl, rfl, rfl, by decide +kernel, rfl, by decide +kernel, by decide +kernel⟩
abbrev s_End_text : Stmt := inClass (top 9) 0
theorem sc_End_text : FnScope ["self"] ["self"] (defScope s_End_text) := ⟨rfl, rfl, rfl, by decide +kernel, rfl, by decide +kernel, by decide +kernel⟩
abbrev s_End_operands : Stmt := inClass (top 9) 1
theorem sc_End_operands : FnScope ["self"] ["self"] (defScope s_End_operands) := ⟨rfl, rfl, rfl, by decide +kernel, rfl, by decide +kernel, by decide +kernel⟩
abbrev s_End_eq : Stmt := inClass (top 9) 3
theorem sc_End_eq : FnScope ["self", "other"] ["self", "other"] (defScope s_End_eq) := ⟨rfl, rfl, rfl, by decide +kernel, rfl, by decide +kernel, by decide +kernel⟩
abbrev s_l_draw : Stmt := top 11
theorem sc_l_draw : FnScope ["_law_pool", "_law_many", "_law_cell", "_law_number_here"] ["_law_pool", "_law_many"] (defScope s_l_draw) := ⟨rfl, rfl, rfl, by decide +kernel, rfl, by decide +kernel, by decide +kernel⟩
abbrev s_l_name : Stmt := top 12
theorem sc_l_name : FnScope ["_law_pool", "_law_k", "_law_letters", "_law_name_here", "_law_step"] ["_law_pool", "_law_k"] (defScope s_l_name) := ⟨rfl, rfl, rfl, by decide +kernel, rfl, by decide +kernel, by decide +kernel⟩
abbrev s_l_number : Stmt := top 13
theorem sc_l_number : FnScope ["_law_pool", "_law_kind"] ["_law_pool"] (defScope s_l_number) := ⟨rfl, rfl, rfl, by decide +kernel, rfl, by decide +kernel, by decide +kernel⟩
abbrev s_l_any_value : Stmt := top 14
theorem sc_l_any_value : FnScope ["_law_pool", "_law_kind"] ["_law_pool"] (defScope s_l_any_value) := ⟨rfl, rfl, rfl, by decide +kernel, rfl, by decide +kernel, by decide +kernel⟩
abbrev s_l_value_word : Stmt := top 15
theorem sc_l_value_word : FnScope ["_law_value"] ["_law_value"] (defScope s_l_value_word) := ⟨rfl, rfl, rfl, by decide +kernel, rfl, by decide +kernel, by decide +kernel⟩
abbrev s_l_drawn_row : Stmt := top 16
theorem sc_l_drawn_row : FnScope ["_law_pool", "_law_kind", "_law_name_here", "_law_place"] ["_law_pool"] (defScope s_l_drawn_row) := ⟨rfl, rfl, rfl, by decide +kernel, rfl, by decide +kernel, by decide +kernel⟩
abbrev s_l_made : Stmt := top 17
theorem sc_l_made : FnScope ["_law_row"] ["_law_row"] (defScope s_l_made) := ⟨rfl, rfl, rfl, by decide +kernel, rfl, by decide +kernel, by decide +kernel⟩
abbrev s_l_line : Stmt := top 18
theorem sc_l_line : FnScope ["_law_row", "_law_words", "_law_line_here"] ["_law_row"] (defScope s_l_line) := ⟨rfl, rfl, rfl, by decide +kernel, rfl, by decide +kernel, by decide +kernel⟩
abbrev s_l_values : Stmt := top 19
theorem sc_l_values : FnScope ["_law_row", "_law_part"] ["_law_row"] (defScope s_l_values) := ⟨rfl, rfl, rfl, by decide +kernel, rfl, by decide +kernel, by decide +kernel⟩
abbrev s_l_has_fields : Stmt := top 20
theorem sc_l_has_fields : FnScope ["_law_made_here", "_law_row"] ["_law_made_here", "_law_row"] (defScope s_l_has_fields) := ⟨rfl, rfl, rfl, by decide +kernel, rfl, by decide +kernel, by decide +kernel⟩
abbrev s_law : Stmt := top 21
theorem sc_law : FnScope ["_law_script", "_law_pool", "_law_rows", "_law_k", "_law_made_here", "_law_row", "_law_told", "_law_value", "_law_j"] ["_law_script"] (defScope s_law) := ⟨rfl, rfl, rfl, by decide +kernel, rfl, by decide +kernel, by decide +kernel⟩
def d_value_text : He.DefD := ⟨("value_text", none), "value_text", "value_text", defArgs s_value_text, defBody s_value_text, defScope s_value_text, [], []⟩
def d_Tell_init : He.DefD := ⟨("Tell", some "__init__"), "__init__", "Tell.__init__", defArgs s_Tell_init, defBody s_Tell_init, defScope s_Tell_init, [], []⟩
def d_Tell_text : He.DefD := ⟨("Tell", some "text"), "text", "Tell.text", defArgs s_Tell_text, defBody s_Tell_text, defScope s_Tell_text, [], []⟩
def d_Tell_operands : He.DefD := ⟨("Tell", some "operands"), "operands", "Tell.operands", defArgs s_Tell_operands, defBody s_Tell_operands, defScope s_Tell_operands, [], []⟩
def d_Tell_eq : He.DefD := ⟨("Tell", some "__eq__"), "__eq__", "Tell.__eq__", defArgs s_Tell_eq, defBody s_Tell_eq, defScope s_Tell_eq, [], []⟩
def d_Put_init : He.DefD := ⟨("Put", some "__init__"), "__init__", "Put.__init__", defArgs s_Put_init, defBody s_Put_init, defScope s_Put_init, [], []⟩
def d_Put_text : He.DefD := ⟨("Put", some "text"), "text", "Put.text", defArgs s_Put_text, defBody s_Put_text, defScope s_Put_text, [], []⟩
def d_Put_operands : He.DefD := ⟨("Put", some "operands"), "operands", "Put.operands", defArgs s_Put_operands, defBody s_Put_operands, defScope s_Put_operands, [], []⟩
def d_Put_eq : He.DefD := ⟨("Put", some "__eq__"), "__eq__", "Put.__eq__", defArgs s_Put_eq, defBody s_Put_eq, defScope s_Put_eq, [], []⟩
def d_Same_init : He.DefD := ⟨("Same", some "__init__"), "__init__", "Same.__init__", defArgs s_Same_init, defBody s_Same_init, defScope s_Same_init, [], []⟩
def d_Same_text : He.DefD := ⟨("Same", some "text"), "text", "Same.text", defArgs s_Same_text, defBody s_Same_text, defScope s_Same_text, [], []⟩
def d_Same_operands : He.DefD := ⟨("Same", some "operands"), "operands", "Same.operands", defArgs s_Same_operands, defBody s_Same_operands, defScope s_Same_operands, [], []⟩
def d_Same_eq : He.DefD := ⟨("Same", some "__eq__"), "__eq__", "Same.__eq__", defArgs s_Same_eq, defBody s_Same_eq, defScope s_Same_eq, [], []⟩
def d_There_init : He.DefD := ⟨("There", some "__init__"), "__init__", "There.__init__", defArgs s_There_init, defBody s_There_init, defScope s_There_init, [], []⟩
def d_There_text : He.DefD := ⟨("There", some "text"), "text", "There.text", defArgs s_There_text, defBody s_There_text, defScope s_There_text, [], []⟩
def d_There_operands : He.DefD := ⟨("There", some "operands"), "operands", "There.operands", defArgs s_There_operands, defBody s_There_operands, defScope s_There_operands, [], []⟩
def d_There_eq : He.DefD := ⟨("There", some "__eq__"), "__eq__", "There.__eq__", defArgs s_There_eq, defBody s_There_eq, defScope s_There_eq, [], []⟩
def d_Call_init : He.DefD := ⟨("Call", some "__init__"), "__init__", "Call.__init__", defArgs s_Call_init, defBody s_Call_init, defScope s_Call_init, [.int 0], []⟩
def d_Call_text : He.DefD := ⟨("Call", some "text"), "text", "Call.text", defArgs s_Call_text, defBody s_Call_text, defScope s_Call_text, [], []⟩
def d_Call_operands : He.DefD := ⟨("Call", some "operands"), "operands", "Call.operands", defArgs s_Call_operands, defBody s_Call_operands, defScope s_Call_operands, [], []⟩
def d_Call_eq : He.DefD := ⟨("Call", some "__eq__"), "__eq__", "Call.__eq__", defArgs s_Call_eq, defBody s_Call_eq, defScope s_Call_eq, [], []⟩
def d_End_text : He.DefD := ⟨("End", some "text"), "text", "End.text", defArgs s_End_text, defBody s_End_text, defScope s_End_text, [], []⟩
def d_End_operands : He.DefD := ⟨("End", some "operands"), "operands", "End.operands", defArgs s_End_operands, defBody s_End_operands, defScope s_End_operands, [], []⟩
def d_End_eq : He.DefD := ⟨("End", some "__eq__"), "__eq__", "End.__eq__", defArgs s_End_eq, defBody s_End_eq, defScope s_End_eq, [], []⟩
def d_l_draw : He.DefD := ⟨("_law_draw", none), "_law_draw", "_law_draw", defArgs s_l_draw, defBody s_l_draw, defScope s_l_draw, [], []⟩
def d_l_name : He.DefD := ⟨("_law_name", none), "_law_name", "_law_name", defArgs s_l_name, defBody s_l_name, defScope s_l_name, [], []⟩
def d_l_number : He.DefD := ⟨("_law_number", none), "_law_number", "_law_number", defArgs s_l_number, defBody s_l_number, defScope s_l_number, [], []⟩
def d_l_any_value : He.DefD := ⟨("_law_any_value", none), "_law_any_value", "_law_any_value", defArgs s_l_any_value, defBody s_l_any_value, defScope s_l_any_value, [], []⟩
def d_l_value_word : He.DefD := ⟨("_law_value_word", none), "_law_value_word", "_law_value_word", defArgs s_l_value_word, defBody s_l_value_word, defScope s_l_value_word, [], []⟩
def d_l_drawn_row : He.DefD := ⟨("_law_drawn_row", none), "_law_drawn_row", "_law_drawn_row", defArgs s_l_drawn_row, defBody s_l_drawn_row, defScope s_l_drawn_row, [], []⟩
def d_l_made : He.DefD := ⟨("_law_made", none), "_law_made", "_law_made", defArgs s_l_made, defBody s_l_made, defScope s_l_made, [], []⟩
def d_l_line : He.DefD := ⟨("_law_line", none), "_law_line", "_law_line", defArgs s_l_line, defBody s_l_line, defScope s_l_line, [], []⟩
def d_l_values : He.DefD := ⟨("_law_values", none), "_law_values", "_law_values", defArgs s_l_values, defBody s_l_values, defScope s_l_values, [], []⟩
def d_l_has_fields : He.DefD := ⟨("_law_has_fields", none), "_law_has_fields", "_law_has_fields", defArgs s_l_has_fields, defBody s_l_has_fields, defScope s_l_has_fields, [], []⟩
def d_law : He.DefD := ⟨("law", none), "law", "law", defArgs s_law, defBody s_law, defScope s_law, [], []⟩
def fn : List He.DefD := [d_value_text, d_Tell_init, d_Tell_text, d_Tell_operands, d_Tell_eq, d_Put_init, d_Put_text, d_Put_operands, d_Put_eq, d_Same_init, d_Same_text, d_Same_operands, d_Same_eq, d_There_init, d_There_text, d_There_operands, d_There_eq, d_Call_init, d_Call_text, d_Call_operands, d_Call_eq, d_End_text, d_End_operands, d_End_eq, d_l_draw, d_l_name, d_l_number, d_l_any_value, d_l_value_word, d_l_drawn_row, d_l_made, d_l_line, d_l_values, d_l_has_fields, d_law]
def fa : List He.Fa := [.glo "value_text",
  .glo "_law_draw",
  .glo "_law_name",
  .glo "_law_number",
  .glo "_law_any_value",
  .glo "_law_value_word",
  .glo "_law_drawn_row",
  .glo "_law_made",
  .glo "_law_line",
  .glo "_law_values",
  .glo "_law_has_fields",
  .glo "law",
  .glo "Tell",
  .glo "Put",
  .glo "Same",
  .glo "There",
  .glo "Call",
  .glo "End",
  .free "len",
  .free "range",
  .free "int",
  .free "str",
  .free "tuple",
  .free "list",
  .free "isinstance",
  .free "abs",
  .cls "Tell",
  .mkr "Tell",
  .cls "Put",
  .mkr "Put",
  .cls "Same",
  .mkr "Same",
  .cls "There",
  .mkr "There",
  .cls "Call",
  .mkr "Call",
  .cls "End",
  .meth "Tell" "text",
  .meth "Tell" "operands",
  .meth "Tell" "__eq__",
  .meth "Put" "text",
  .meth "Put" "operands",
  .meth "Put" "__eq__",
  .meth "Same" "text",
  .meth "Same" "operands",
  .meth "Same" "__eq__",
  .meth "There" "text",
  .meth "There" "operands",
  .meth "There" "__eq__",
  .meth "Call" "text",
  .meth "Call" "operands",
  .meth "Call" "__eq__",
  .meth "End" "text",
  .meth "End" "operands",
  .meth "End" "__eq__",
  .noat "Tell" "value",
  .noat "Put" "place",
  .noat "Put" "value",
  .noat "Same" "left",
  .noat "Same" "right",
  .noat "Same" "skip",
  .noat "There" "name",
  .noat "There" "skip",
  .noat "Call" "name",
  .noat "Call" "value",
  .noat "Call" "tag"]
def exs (K : PySem.W.Frag) : List Bool := [decide (PySem.W.specialIn K (.builtin "object.__class__") "__get__" = some (some (.builtin "getset_descriptor.__get__"))),
  decide (PySem.W.takesIn K (.builtin "object.__class__") = some true),
  decide (PySem.W.findIn K (.ref (He.ga K "Tell")) "__class__" = some (some (.builtin "object.__class__"))),
  decide (PySem.W.mroIn K (He.ga K "Tell") (.type "object") = some true),
  decide (PySem.W.kitOne K (.ref (He.ga K "Tell")) (.ref (He.ga K "Tell")) = some true),
  decide (PySem.W.notFirst K (He.ga K "Tell") (.ref (He.ga K "Tell")) = true),
  decide (PySem.W.kitOne K (.ref (He.ga K "Tell")) (.ref (He.ga K "Put")) = some false),
  decide (PySem.W.notFirst K (He.ga K "Tell") (.ref (He.ga K "Put")) = true),
  decide (PySem.W.kitOne K (.ref (He.ga K "Tell")) (.ref (He.ga K "Same")) = some false),
  decide (PySem.W.notFirst K (He.ga K "Tell") (.ref (He.ga K "Same")) = true),
  decide (PySem.W.kitOne K (.ref (He.ga K "Tell")) (.ref (He.ga K "There")) = some false),
  decide (PySem.W.notFirst K (He.ga K "Tell") (.ref (He.ga K "There")) = true),
  decide (PySem.W.kitOne K (.ref (He.ga K "Tell")) (.ref (He.ga K "Call")) = some false),
  decide (PySem.W.notFirst K (He.ga K "Tell") (.ref (He.ga K "Call")) = true),
  decide (PySem.W.kitOne K (.ref (He.ga K "Tell")) (.ref (He.ga K "End")) = some false),
  decide (PySem.W.notFirst K (He.ga K "Tell") (.ref (He.ga K "End")) = true),
  decide (PySem.W.kitOne K (.type "str") (.ref (He.ga K "Tell")) = some false),
  decide (PySem.W.notFirst K (He.ga K "Tell") (.type "str") = true),
  decide (PySem.W.findIn K (.ref (He.ga K "Put")) "__class__" = some (some (.builtin "object.__class__"))),
  decide (PySem.W.mroIn K (He.ga K "Put") (.type "object") = some true),
  decide (PySem.W.kitOne K (.ref (He.ga K "Put")) (.ref (He.ga K "Tell")) = some false),
  decide (PySem.W.notFirst K (He.ga K "Put") (.ref (He.ga K "Tell")) = true),
  decide (PySem.W.kitOne K (.ref (He.ga K "Put")) (.ref (He.ga K "Put")) = some true),
  decide (PySem.W.notFirst K (He.ga K "Put") (.ref (He.ga K "Put")) = true),
  decide (PySem.W.kitOne K (.ref (He.ga K "Put")) (.ref (He.ga K "Same")) = some false),
  decide (PySem.W.notFirst K (He.ga K "Put") (.ref (He.ga K "Same")) = true),
  decide (PySem.W.kitOne K (.ref (He.ga K "Put")) (.ref (He.ga K "There")) = some false),
  decide (PySem.W.notFirst K (He.ga K "Put") (.ref (He.ga K "There")) = true),
  decide (PySem.W.kitOne K (.ref (He.ga K "Put")) (.ref (He.ga K "Call")) = some false),
  decide (PySem.W.notFirst K (He.ga K "Put") (.ref (He.ga K "Call")) = true),
  decide (PySem.W.kitOne K (.ref (He.ga K "Put")) (.ref (He.ga K "End")) = some false),
  decide (PySem.W.notFirst K (He.ga K "Put") (.ref (He.ga K "End")) = true),
  decide (PySem.W.kitOne K (.type "str") (.ref (He.ga K "Put")) = some false),
  decide (PySem.W.notFirst K (He.ga K "Put") (.type "str") = true),
  decide (PySem.W.findIn K (.ref (He.ga K "Same")) "__class__" = some (some (.builtin "object.__class__"))),
  decide (PySem.W.mroIn K (He.ga K "Same") (.type "object") = some true),
  decide (PySem.W.kitOne K (.ref (He.ga K "Same")) (.ref (He.ga K "Tell")) = some false),
  decide (PySem.W.notFirst K (He.ga K "Same") (.ref (He.ga K "Tell")) = true),
  decide (PySem.W.kitOne K (.ref (He.ga K "Same")) (.ref (He.ga K "Put")) = some false),
  decide (PySem.W.notFirst K (He.ga K "Same") (.ref (He.ga K "Put")) = true),
  decide (PySem.W.kitOne K (.ref (He.ga K "Same")) (.ref (He.ga K "Same")) = some true),
  decide (PySem.W.notFirst K (He.ga K "Same") (.ref (He.ga K "Same")) = true),
  decide (PySem.W.kitOne K (.ref (He.ga K "Same")) (.ref (He.ga K "There")) = some false),
  decide (PySem.W.notFirst K (He.ga K "Same") (.ref (He.ga K "There")) = true),
  decide (PySem.W.kitOne K (.ref (He.ga K "Same")) (.ref (He.ga K "Call")) = some false),
  decide (PySem.W.notFirst K (He.ga K "Same") (.ref (He.ga K "Call")) = true),
  decide (PySem.W.kitOne K (.ref (He.ga K "Same")) (.ref (He.ga K "End")) = some false),
  decide (PySem.W.notFirst K (He.ga K "Same") (.ref (He.ga K "End")) = true),
  decide (PySem.W.kitOne K (.type "str") (.ref (He.ga K "Same")) = some false),
  decide (PySem.W.notFirst K (He.ga K "Same") (.type "str") = true),
  decide (PySem.W.findIn K (.ref (He.ga K "There")) "__class__" = some (some (.builtin "object.__class__"))),
  decide (PySem.W.mroIn K (He.ga K "There") (.type "object") = some true),
  decide (PySem.W.kitOne K (.ref (He.ga K "There")) (.ref (He.ga K "Tell")) = some false),
  decide (PySem.W.notFirst K (He.ga K "There") (.ref (He.ga K "Tell")) = true),
  decide (PySem.W.kitOne K (.ref (He.ga K "There")) (.ref (He.ga K "Put")) = some false),
  decide (PySem.W.notFirst K (He.ga K "There") (.ref (He.ga K "Put")) = true),
  decide (PySem.W.kitOne K (.ref (He.ga K "There")) (.ref (He.ga K "Same")) = some false),
  decide (PySem.W.notFirst K (He.ga K "There") (.ref (He.ga K "Same")) = true),
  decide (PySem.W.kitOne K (.ref (He.ga K "There")) (.ref (He.ga K "There")) = some true),
  decide (PySem.W.notFirst K (He.ga K "There") (.ref (He.ga K "There")) = true),
  decide (PySem.W.kitOne K (.ref (He.ga K "There")) (.ref (He.ga K "Call")) = some false),
  decide (PySem.W.notFirst K (He.ga K "There") (.ref (He.ga K "Call")) = true),
  decide (PySem.W.kitOne K (.ref (He.ga K "There")) (.ref (He.ga K "End")) = some false),
  decide (PySem.W.notFirst K (He.ga K "There") (.ref (He.ga K "End")) = true),
  decide (PySem.W.kitOne K (.type "str") (.ref (He.ga K "There")) = some false),
  decide (PySem.W.notFirst K (He.ga K "There") (.type "str") = true),
  decide (PySem.W.findIn K (.ref (He.ga K "Call")) "__class__" = some (some (.builtin "object.__class__"))),
  decide (PySem.W.mroIn K (He.ga K "Call") (.type "object") = some true),
  decide (PySem.W.kitOne K (.ref (He.ga K "Call")) (.ref (He.ga K "Tell")) = some false),
  decide (PySem.W.notFirst K (He.ga K "Call") (.ref (He.ga K "Tell")) = true),
  decide (PySem.W.kitOne K (.ref (He.ga K "Call")) (.ref (He.ga K "Put")) = some false),
  decide (PySem.W.notFirst K (He.ga K "Call") (.ref (He.ga K "Put")) = true),
  decide (PySem.W.kitOne K (.ref (He.ga K "Call")) (.ref (He.ga K "Same")) = some false),
  decide (PySem.W.notFirst K (He.ga K "Call") (.ref (He.ga K "Same")) = true),
  decide (PySem.W.kitOne K (.ref (He.ga K "Call")) (.ref (He.ga K "There")) = some false),
  decide (PySem.W.notFirst K (He.ga K "Call") (.ref (He.ga K "There")) = true),
  decide (PySem.W.kitOne K (.ref (He.ga K "Call")) (.ref (He.ga K "Call")) = some true),
  decide (PySem.W.notFirst K (He.ga K "Call") (.ref (He.ga K "Call")) = true),
  decide (PySem.W.kitOne K (.ref (He.ga K "Call")) (.ref (He.ga K "End")) = some false),
  decide (PySem.W.notFirst K (He.ga K "Call") (.ref (He.ga K "End")) = true),
  decide (PySem.W.kitOne K (.type "str") (.ref (He.ga K "Call")) = some false),
  decide (PySem.W.notFirst K (He.ga K "Call") (.type "str") = true),
  decide (PySem.W.findIn K (.ref (He.ga K "End")) "__class__" = some (some (.builtin "object.__class__"))),
  decide (PySem.W.mroIn K (He.ga K "End") (.type "object") = some true),
  decide (PySem.W.kitOne K (.ref (He.ga K "End")) (.ref (He.ga K "Tell")) = some false),
  decide (PySem.W.notFirst K (He.ga K "End") (.ref (He.ga K "Tell")) = true),
  decide (PySem.W.kitOne K (.ref (He.ga K "End")) (.ref (He.ga K "Put")) = some false),
  decide (PySem.W.notFirst K (He.ga K "End") (.ref (He.ga K "Put")) = true),
  decide (PySem.W.kitOne K (.ref (He.ga K "End")) (.ref (He.ga K "Same")) = some false),
  decide (PySem.W.notFirst K (He.ga K "End") (.ref (He.ga K "Same")) = true),
  decide (PySem.W.kitOne K (.ref (He.ga K "End")) (.ref (He.ga K "There")) = some false),
  decide (PySem.W.notFirst K (He.ga K "End") (.ref (He.ga K "There")) = true),
  decide (PySem.W.kitOne K (.ref (He.ga K "End")) (.ref (He.ga K "Call")) = some false),
  decide (PySem.W.notFirst K (He.ga K "End") (.ref (He.ga K "Call")) = true),
  decide (PySem.W.kitOne K (.ref (He.ga K "End")) (.ref (He.ga K "End")) = some true),
  decide (PySem.W.notFirst K (He.ga K "End") (.ref (He.ga K "End")) = true),
  decide (PySem.W.kitOne K (.type "str") (.ref (He.ga K "End")) = some false),
  decide (PySem.W.notFirst K (He.ga K "End") (.type "str") = true),
  decide (PySem.W.makesIn K (He.ga K "End") = true),
  decide (PySem.W.keepIn K (.ref (He.ga K "End")) = true),
  decide (PySem.W.findIn K (.ref (He.ga K "End")) "__init__" = some (some (.builtin "object.__init__")))]
structure Tx (K : PySem.W.Frag) (mg : Str → Option Value) (sa : Addr) (sx : List Int) : Prop where
  c : He.SaysD fa fn K
  k : (exs K).all id = true
  g0 : mg "value_text" = some (.ref (He.ga K "value_text"))
  g1 : mg "_law_draw" = some (.ref (He.ga K "_law_draw"))
  g2 : mg "_law_name" = some (.ref (He.ga K "_law_name"))
  g3 : mg "_law_number" = some (.ref (He.ga K "_law_number"))
  g4 : mg "_law_any_value" = some (.ref (He.ga K "_law_any_value"))
  g5 : mg "_law_value_word" = some (.ref (He.ga K "_law_value_word"))
  g6 : mg "_law_drawn_row" = some (.ref (He.ga K "_law_drawn_row"))
  g7 : mg "_law_made" = some (.ref (He.ga K "_law_made"))
  g8 : mg "_law_line" = some (.ref (He.ga K "_law_line"))
  g9 : mg "_law_values" = some (.ref (He.ga K "_law_values"))
  g10 : mg "_law_has_fields" = some (.ref (He.ga K "_law_has_fields"))
  g11 : mg "law" = some (.ref (He.ga K "law"))
  g12 : mg "Tell" = some (.ref (He.ga K "Tell"))
  g13 : mg "Put" = some (.ref (He.ga K "Put"))
  g14 : mg "Same" = some (.ref (He.ga K "Same"))
  g15 : mg "There" = some (.ref (He.ga K "There"))
  g16 : mg "Call" = some (.ref (He.ga K "Call"))
  g17 : mg "End" = some (.ref (He.ga K "End"))
  n0 : mg "len" = none
  n1 : mg "range" = none
  n2 : mg "int" = none
  n3 : mg "str" = none
  n4 : mg "tuple" = none
  n5 : mg "list" = none
  n6 : mg "isinstance" = none
  n7 : mg "abs" = none
section
variable {K : PySem.W.Frag} {mg : Str → Option Value} {sa : Addr} {sx : List Int}
theorem tx_of {h : Heap} (X : K.In h) (G : h.Ns mainGlobals mg) (c : He.SaysD fa fn K) (k : (exs K).all id = true) : Tx K mg sa sx :=
  ⟨c, k,
    He.glo_ok X G (c.fact 0 (f := .glo "value_text") rfl),
    He.glo_ok X G (c.fact 1 (f := .glo "_law_draw") rfl),
    He.glo_ok X G (c.fact 2 (f := .glo "_law_name") rfl),
    He.glo_ok X G (c.fact 3 (f := .glo "_law_number") rfl),
    He.glo_ok X G (c.fact 4 (f := .glo "_law_any_value") rfl),
    He.glo_ok X G (c.fact 5 (f := .glo "_law_value_word") rfl),
    He.glo_ok X G (c.fact 6 (f := .glo "_law_drawn_row") rfl),
    He.glo_ok X G (c.fact 7 (f := .glo "_law_made") rfl),
    He.glo_ok X G (c.fact 8 (f := .glo "_law_line") rfl),
    He.glo_ok X G (c.fact 9 (f := .glo "_law_values") rfl),
    He.glo_ok X G (c.fact 10 (f := .glo "_law_has_fields") rfl),
    He.glo_ok X G (c.fact 11 (f := .glo "law") rfl),
    He.glo_ok X G (c.fact 12 (f := .glo "Tell") rfl),
    He.glo_ok X G (c.fact 13 (f := .glo "Put") rfl),
    He.glo_ok X G (c.fact 14 (f := .glo "Same") rfl),
    He.glo_ok X G (c.fact 15 (f := .glo "There") rfl),
    He.glo_ok X G (c.fact 16 (f := .glo "Call") rfl),
    He.glo_ok X G (c.fact 17 (f := .glo "End") rfl),
    He.free_ok X G (c.fact 18 (f := .free "len") rfl),
    He.free_ok X G (c.fact 19 (f := .free "range") rfl),
    He.free_ok X G (c.fact 20 (f := .free "int") rfl),
    He.free_ok X G (c.fact 21 (f := .free "str") rfl),
    He.free_ok X G (c.fact 22 (f := .free "tuple") rfl),
    He.free_ok X G (c.fact 23 (f := .free "list") rfl),
    He.free_ok X G (c.fact 24 (f := .free "isinstance") rfl),
    He.free_ok X G (c.fact 25 (f := .free "abs") rfl)⟩
theorem g_value_text (T : Tx K mg sa sx) : mg "value_text" = some (.ref (He.ga K "value_text")) := T.g0
theorem g__law_draw (T : Tx K mg sa sx) : mg "_law_draw" = some (.ref (He.ga K "_law_draw")) := T.g1
theorem g__law_name (T : Tx K mg sa sx) : mg "_law_name" = some (.ref (He.ga K "_law_name")) := T.g2
theorem g__law_number (T : Tx K mg sa sx) : mg "_law_number" = some (.ref (He.ga K "_law_number")) := T.g3
theorem g__law_any_value (T : Tx K mg sa sx) : mg "_law_any_value" = some (.ref (He.ga K "_law_any_value")) := T.g4
theorem g__law_value_word (T : Tx K mg sa sx) : mg "_law_value_word" = some (.ref (He.ga K "_law_value_word")) := T.g5
theorem g__law_drawn_row (T : Tx K mg sa sx) : mg "_law_drawn_row" = some (.ref (He.ga K "_law_drawn_row")) := T.g6
theorem g__law_made (T : Tx K mg sa sx) : mg "_law_made" = some (.ref (He.ga K "_law_made")) := T.g7
theorem g__law_line (T : Tx K mg sa sx) : mg "_law_line" = some (.ref (He.ga K "_law_line")) := T.g8
theorem g__law_values (T : Tx K mg sa sx) : mg "_law_values" = some (.ref (He.ga K "_law_values")) := T.g9
theorem g__law_has_fields (T : Tx K mg sa sx) : mg "_law_has_fields" = some (.ref (He.ga K "_law_has_fields")) := T.g10
theorem g_law (T : Tx K mg sa sx) : mg "law" = some (.ref (He.ga K "law")) := T.g11
theorem g_Tell (T : Tx K mg sa sx) : mg "Tell" = some (.ref (He.ga K "Tell")) := T.g12
theorem g_Put (T : Tx K mg sa sx) : mg "Put" = some (.ref (He.ga K "Put")) := T.g13
theorem g_Same (T : Tx K mg sa sx) : mg "Same" = some (.ref (He.ga K "Same")) := T.g14
theorem g_There (T : Tx K mg sa sx) : mg "There" = some (.ref (He.ga K "There")) := T.g15
theorem g_Call (T : Tx K mg sa sx) : mg "Call" = some (.ref (He.ga K "Call")) := T.g16
theorem g_End (T : Tx K mg sa sx) : mg "End" = some (.ref (He.ga K "End")) := T.g17
theorem n_len (T : Tx K mg sa sx) : mg "len" = none := T.n0
theorem n_range (T : Tx K mg sa sx) : mg "range" = none := T.n1
theorem n_int (T : Tx K mg sa sx) : mg "int" = none := T.n2
theorem n_str (T : Tx K mg sa sx) : mg "str" = none := T.n3
theorem n_tuple (T : Tx K mg sa sx) : mg "tuple" = none := T.n4
theorem n_list (T : Tx K mg sa sx) : mg "list" = none := T.n5
theorem n_isinstance (T : Tx K mg sa sx) : mg "isinstance" = none := T.n6
theorem n_abs (T : Tx K mg sa sx) : mg "abs" = none := T.n7
theorem exs_at (T : Tx K mg sa sx) (i : Nat) {b : Bool} (h : (exs K)[i]? = some b := by rfl) : b = true := List.all_eq_true.mp T.k b (List.mem_of_getElem? h)
theorem x_cget (T : Tx K mg sa sx) : PySem.W.specialIn K (.builtin "object.__class__") "__get__" = some (some (.builtin "getset_descriptor.__get__")) := of_decide_eq_true (exs_at T 0)
theorem x_ctak (T : Tx K mg sa sx) : PySem.W.takesIn K (.builtin "object.__class__") = some true := of_decide_eq_true (exs_at T 1)
theorem x_cc_Tell (T : Tx K mg sa sx) : PySem.W.findIn K (.ref (He.ga K "Tell")) "__class__" = some (some (.builtin "object.__class__")) := of_decide_eq_true (exs_at T 2)
theorem x_mro_Tell (T : Tx K mg sa sx) : PySem.W.mroIn K (He.ga K "Tell") (.type "object") = some true := of_decide_eq_true (exs_at T 3)
theorem x_kit_Tell_Tell (T : Tx K mg sa sx) : PySem.W.kitOne K (.ref (He.ga K "Tell")) (.ref (He.ga K "Tell")) = some true := of_decide_eq_true (exs_at T 4)
theorem x_nf_Tell_Tell (T : Tx K mg sa sx) : PySem.W.notFirst K (He.ga K "Tell") (.ref (He.ga K "Tell")) = true := of_decide_eq_true (exs_at T 5)
theorem x_kit_Tell_Put (T : Tx K mg sa sx) : PySem.W.kitOne K (.ref (He.ga K "Tell")) (.ref (He.ga K "Put")) = some false := of_decide_eq_true (exs_at T 6)
theorem x_nf_Tell_Put (T : Tx K mg sa sx) : PySem.W.notFirst K (He.ga K "Tell") (.ref (He.ga K "Put")) = true := of_decide_eq_true (exs_at T 7)
theorem x_kit_Tell_Same (T : Tx K mg sa sx) : PySem.W.kitOne K (.ref (He.ga K "Tell")) (.ref (He.ga K "Same")) = some false := of_decide_eq_true (exs_at T 8)
theorem x_nf_Tell_Same (T : Tx K mg sa sx) : PySem.W.notFirst K (He.ga K "Tell") (.ref (He.ga K "Same")) = true := of_decide_eq_true (exs_at T 9)
theorem x_kit_Tell_There (T : Tx K mg sa sx) : PySem.W.kitOne K (.ref (He.ga K "Tell")) (.ref (He.ga K "There")) = some false := of_decide_eq_true (exs_at T 10)
theorem x_nf_Tell_There (T : Tx K mg sa sx) : PySem.W.notFirst K (He.ga K "Tell") (.ref (He.ga K "There")) = true := of_decide_eq_true (exs_at T 11)
theorem x_kit_Tell_Call (T : Tx K mg sa sx) : PySem.W.kitOne K (.ref (He.ga K "Tell")) (.ref (He.ga K "Call")) = some false := of_decide_eq_true (exs_at T 12)
theorem x_nf_Tell_Call (T : Tx K mg sa sx) : PySem.W.notFirst K (He.ga K "Tell") (.ref (He.ga K "Call")) = true := of_decide_eq_true (exs_at T 13)
theorem x_kit_Tell_End (T : Tx K mg sa sx) : PySem.W.kitOne K (.ref (He.ga K "Tell")) (.ref (He.ga K "End")) = some false := of_decide_eq_true (exs_at T 14)
theorem x_nf_Tell_End (T : Tx K mg sa sx) : PySem.W.notFirst K (He.ga K "Tell") (.ref (He.ga K "End")) = true := of_decide_eq_true (exs_at T 15)
theorem x_kits_Tell (T : Tx K mg sa sx) : PySem.W.kitOne K (.type "str") (.ref (He.ga K "Tell")) = some false := of_decide_eq_true (exs_at T 16)
theorem x_nfs_Tell (T : Tx K mg sa sx) : PySem.W.notFirst K (He.ga K "Tell") (.type "str") = true := of_decide_eq_true (exs_at T 17)
theorem x_cc_Put (T : Tx K mg sa sx) : PySem.W.findIn K (.ref (He.ga K "Put")) "__class__" = some (some (.builtin "object.__class__")) := of_decide_eq_true (exs_at T 18)
theorem x_mro_Put (T : Tx K mg sa sx) : PySem.W.mroIn K (He.ga K "Put") (.type "object") = some true := of_decide_eq_true (exs_at T 19)
theorem x_kit_Put_Tell (T : Tx K mg sa sx) : PySem.W.kitOne K (.ref (He.ga K "Put")) (.ref (He.ga K "Tell")) = some false := of_decide_eq_true (exs_at T 20)
theorem x_nf_Put_Tell (T : Tx K mg sa sx) : PySem.W.notFirst K (He.ga K "Put") (.ref (He.ga K "Tell")) = true := of_decide_eq_true (exs_at T 21)
theorem x_kit_Put_Put (T : Tx K mg sa sx) : PySem.W.kitOne K (.ref (He.ga K "Put")) (.ref (He.ga K "Put")) = some true := of_decide_eq_true (exs_at T 22)
theorem x_nf_Put_Put (T : Tx K mg sa sx) : PySem.W.notFirst K (He.ga K "Put") (.ref (He.ga K "Put")) = true := of_decide_eq_true (exs_at T 23)
theorem x_kit_Put_Same (T : Tx K mg sa sx) : PySem.W.kitOne K (.ref (He.ga K "Put")) (.ref (He.ga K "Same")) = some false := of_decide_eq_true (exs_at T 24)
theorem x_nf_Put_Same (T : Tx K mg sa sx) : PySem.W.notFirst K (He.ga K "Put") (.ref (He.ga K "Same")) = true := of_decide_eq_true (exs_at T 25)
theorem x_kit_Put_There (T : Tx K mg sa sx) : PySem.W.kitOne K (.ref (He.ga K "Put")) (.ref (He.ga K "There")) = some false := of_decide_eq_true (exs_at T 26)
theorem x_nf_Put_There (T : Tx K mg sa sx) : PySem.W.notFirst K (He.ga K "Put") (.ref (He.ga K "There")) = true := of_decide_eq_true (exs_at T 27)
theorem x_kit_Put_Call (T : Tx K mg sa sx) : PySem.W.kitOne K (.ref (He.ga K "Put")) (.ref (He.ga K "Call")) = some false := of_decide_eq_true (exs_at T 28)
theorem x_nf_Put_Call (T : Tx K mg sa sx) : PySem.W.notFirst K (He.ga K "Put") (.ref (He.ga K "Call")) = true := of_decide_eq_true (exs_at T 29)
theorem x_kit_Put_End (T : Tx K mg sa sx) : PySem.W.kitOne K (.ref (He.ga K "Put")) (.ref (He.ga K "End")) = some false := of_decide_eq_true (exs_at T 30)
theorem x_nf_Put_End (T : Tx K mg sa sx) : PySem.W.notFirst K (He.ga K "Put") (.ref (He.ga K "End")) = true := of_decide_eq_true (exs_at T 31)
theorem x_kits_Put (T : Tx K mg sa sx) : PySem.W.kitOne K (.type "str") (.ref (He.ga K "Put")) = some false := of_decide_eq_true (exs_at T 32)
theorem x_nfs_Put (T : Tx K mg sa sx) : PySem.W.notFirst K (He.ga K "Put") (.type "str") = true := of_decide_eq_true (exs_at T 33)
theorem x_cc_Same (T : Tx K mg sa sx) : PySem.W.findIn K (.ref (He.ga K "Same")) "__class__" = some (some (.builtin "object.__class__")) := of_decide_eq_true (exs_at T 34)
theorem x_mro_Same (T : Tx K mg sa sx) : PySem.W.mroIn K (He.ga K "Same") (.type "object") = some true := of_decide_eq_true (exs_at T 35)
theorem x_kit_Same_Tell (T : Tx K mg sa sx) : PySem.W.kitOne K (.ref (He.ga K "Same")) (.ref (He.ga K "Tell")) = some false := of_decide_eq_true (exs_at T 36)
theorem x_nf_Same_Tell (T : Tx K mg sa sx) : PySem.W.notFirst K (He.ga K "Same") (.ref (He.ga K "Tell")) = true := of_decide_eq_true (exs_at T 37)
theorem x_kit_Same_Put (T : Tx K mg sa sx) : PySem.W.kitOne K (.ref (He.ga K "Same")) (.ref (He.ga K "Put")) = some false := of_decide_eq_true (exs_at T 38)
theorem x_nf_Same_Put (T : Tx K mg sa sx) : PySem.W.notFirst K (He.ga K "Same") (.ref (He.ga K "Put")) = true := of_decide_eq_true (exs_at T 39)
theorem x_kit_Same_Same (T : Tx K mg sa sx) : PySem.W.kitOne K (.ref (He.ga K "Same")) (.ref (He.ga K "Same")) = some true := of_decide_eq_true (exs_at T 40)
theorem x_nf_Same_Same (T : Tx K mg sa sx) : PySem.W.notFirst K (He.ga K "Same") (.ref (He.ga K "Same")) = true := of_decide_eq_true (exs_at T 41)
theorem x_kit_Same_There (T : Tx K mg sa sx) : PySem.W.kitOne K (.ref (He.ga K "Same")) (.ref (He.ga K "There")) = some false := of_decide_eq_true (exs_at T 42)
theorem x_nf_Same_There (T : Tx K mg sa sx) : PySem.W.notFirst K (He.ga K "Same") (.ref (He.ga K "There")) = true := of_decide_eq_true (exs_at T 43)
theorem x_kit_Same_Call (T : Tx K mg sa sx) : PySem.W.kitOne K (.ref (He.ga K "Same")) (.ref (He.ga K "Call")) = some false := of_decide_eq_true (exs_at T 44)
theorem x_nf_Same_Call (T : Tx K mg sa sx) : PySem.W.notFirst K (He.ga K "Same") (.ref (He.ga K "Call")) = true := of_decide_eq_true (exs_at T 45)
theorem x_kit_Same_End (T : Tx K mg sa sx) : PySem.W.kitOne K (.ref (He.ga K "Same")) (.ref (He.ga K "End")) = some false := of_decide_eq_true (exs_at T 46)
theorem x_nf_Same_End (T : Tx K mg sa sx) : PySem.W.notFirst K (He.ga K "Same") (.ref (He.ga K "End")) = true := of_decide_eq_true (exs_at T 47)
theorem x_kits_Same (T : Tx K mg sa sx) : PySem.W.kitOne K (.type "str") (.ref (He.ga K "Same")) = some false := of_decide_eq_true (exs_at T 48)
theorem x_nfs_Same (T : Tx K mg sa sx) : PySem.W.notFirst K (He.ga K "Same") (.type "str") = true := of_decide_eq_true (exs_at T 49)
theorem x_cc_There (T : Tx K mg sa sx) : PySem.W.findIn K (.ref (He.ga K "There")) "__class__" = some (some (.builtin "object.__class__")) := of_decide_eq_true (exs_at T 50)
theorem x_mro_There (T : Tx K mg sa sx) : PySem.W.mroIn K (He.ga K "There") (.type "object") = some true := of_decide_eq_true (exs_at T 51)
theorem x_kit_There_Tell (T : Tx K mg sa sx) : PySem.W.kitOne K (.ref (He.ga K "There")) (.ref (He.ga K "Tell")) = some false := of_decide_eq_true (exs_at T 52)
theorem x_nf_There_Tell (T : Tx K mg sa sx) : PySem.W.notFirst K (He.ga K "There") (.ref (He.ga K "Tell")) = true := of_decide_eq_true (exs_at T 53)
theorem x_kit_There_Put (T : Tx K mg sa sx) : PySem.W.kitOne K (.ref (He.ga K "There")) (.ref (He.ga K "Put")) = some false := of_decide_eq_true (exs_at T 54)
theorem x_nf_There_Put (T : Tx K mg sa sx) : PySem.W.notFirst K (He.ga K "There") (.ref (He.ga K "Put")) = true := of_decide_eq_true (exs_at T 55)
theorem x_kit_There_Same (T : Tx K mg sa sx) : PySem.W.kitOne K (.ref (He.ga K "There")) (.ref (He.ga K "Same")) = some false := of_decide_eq_true (exs_at T 56)
theorem x_nf_There_Same (T : Tx K mg sa sx) : PySem.W.notFirst K (He.ga K "There") (.ref (He.ga K "Same")) = true := of_decide_eq_true (exs_at T 57)
theorem x_kit_There_There (T : Tx K mg sa sx) : PySem.W.kitOne K (.ref (He.ga K "There")) (.ref (He.ga K "There")) = some true := of_decide_eq_true (exs_at T 58)
theorem x_nf_There_There (T : Tx K mg sa sx) : PySem.W.notFirst K (He.ga K "There") (.ref (He.ga K "There")) = true := of_decide_eq_true (exs_at T 59)
theorem x_kit_There_Call (T : Tx K mg sa sx) : PySem.W.kitOne K (.ref (He.ga K "There")) (.ref (He.ga K "Call")) = some false := of_decide_eq_true (exs_at T 60)
theorem x_nf_There_Call (T : Tx K mg sa sx) : PySem.W.notFirst K (He.ga K "There") (.ref (He.ga K "Call")) = true := of_decide_eq_true (exs_at T 61)
theorem x_kit_There_End (T : Tx K mg sa sx) : PySem.W.kitOne K (.ref (He.ga K "There")) (.ref (He.ga K "End")) = some false := of_decide_eq_true (exs_at T 62)
theorem x_nf_There_End (T : Tx K mg sa sx) : PySem.W.notFirst K (He.ga K "There") (.ref (He.ga K "End")) = true := of_decide_eq_true (exs_at T 63)
theorem x_kits_There (T : Tx K mg sa sx) : PySem.W.kitOne K (.type "str") (.ref (He.ga K "There")) = some false := of_decide_eq_true (exs_at T 64)
theorem x_nfs_There (T : Tx K mg sa sx) : PySem.W.notFirst K (He.ga K "There") (.type "str") = true := of_decide_eq_true (exs_at T 65)
theorem x_cc_Call (T : Tx K mg sa sx) : PySem.W.findIn K (.ref (He.ga K "Call")) "__class__" = some (some (.builtin "object.__class__")) := of_decide_eq_true (exs_at T 66)
theorem x_mro_Call (T : Tx K mg sa sx) : PySem.W.mroIn K (He.ga K "Call") (.type "object") = some true := of_decide_eq_true (exs_at T 67)
theorem x_kit_Call_Tell (T : Tx K mg sa sx) : PySem.W.kitOne K (.ref (He.ga K "Call")) (.ref (He.ga K "Tell")) = some false := of_decide_eq_true (exs_at T 68)
theorem x_nf_Call_Tell (T : Tx K mg sa sx) : PySem.W.notFirst K (He.ga K "Call") (.ref (He.ga K "Tell")) = true := of_decide_eq_true (exs_at T 69)
theorem x_kit_Call_Put (T : Tx K mg sa sx) : PySem.W.kitOne K (.ref (He.ga K "Call")) (.ref (He.ga K "Put")) = some false := of_decide_eq_true (exs_at T 70)
theorem x_nf_Call_Put (T : Tx K mg sa sx) : PySem.W.notFirst K (He.ga K "Call") (.ref (He.ga K "Put")) = true := of_decide_eq_true (exs_at T 71)
theorem x_kit_Call_Same (T : Tx K mg sa sx) : PySem.W.kitOne K (.ref (He.ga K "Call")) (.ref (He.ga K "Same")) = some false := of_decide_eq_true (exs_at T 72)
theorem x_nf_Call_Same (T : Tx K mg sa sx) : PySem.W.notFirst K (He.ga K "Call") (.ref (He.ga K "Same")) = true := of_decide_eq_true (exs_at T 73)
theorem x_kit_Call_There (T : Tx K mg sa sx) : PySem.W.kitOne K (.ref (He.ga K "Call")) (.ref (He.ga K "There")) = some false := of_decide_eq_true (exs_at T 74)
theorem x_nf_Call_There (T : Tx K mg sa sx) : PySem.W.notFirst K (He.ga K "Call") (.ref (He.ga K "There")) = true := of_decide_eq_true (exs_at T 75)
theorem x_kit_Call_Call (T : Tx K mg sa sx) : PySem.W.kitOne K (.ref (He.ga K "Call")) (.ref (He.ga K "Call")) = some true := of_decide_eq_true (exs_at T 76)
theorem x_nf_Call_Call (T : Tx K mg sa sx) : PySem.W.notFirst K (He.ga K "Call") (.ref (He.ga K "Call")) = true := of_decide_eq_true (exs_at T 77)
theorem x_kit_Call_End (T : Tx K mg sa sx) : PySem.W.kitOne K (.ref (He.ga K "Call")) (.ref (He.ga K "End")) = some false := of_decide_eq_true (exs_at T 78)
theorem x_nf_Call_End (T : Tx K mg sa sx) : PySem.W.notFirst K (He.ga K "Call") (.ref (He.ga K "End")) = true := of_decide_eq_true (exs_at T 79)
theorem x_kits_Call (T : Tx K mg sa sx) : PySem.W.kitOne K (.type "str") (.ref (He.ga K "Call")) = some false := of_decide_eq_true (exs_at T 80)
theorem x_nfs_Call (T : Tx K mg sa sx) : PySem.W.notFirst K (He.ga K "Call") (.type "str") = true := of_decide_eq_true (exs_at T 81)
theorem x_cc_End (T : Tx K mg sa sx) : PySem.W.findIn K (.ref (He.ga K "End")) "__class__" = some (some (.builtin "object.__class__")) := of_decide_eq_true (exs_at T 82)
theorem x_mro_End (T : Tx K mg sa sx) : PySem.W.mroIn K (He.ga K "End") (.type "object") = some true := of_decide_eq_true (exs_at T 83)
theorem x_kit_End_Tell (T : Tx K mg sa sx) : PySem.W.kitOne K (.ref (He.ga K "End")) (.ref (He.ga K "Tell")) = some false := of_decide_eq_true (exs_at T 84)
theorem x_nf_End_Tell (T : Tx K mg sa sx) : PySem.W.notFirst K (He.ga K "End") (.ref (He.ga K "Tell")) = true := of_decide_eq_true (exs_at T 85)
theorem x_kit_End_Put (T : Tx K mg sa sx) : PySem.W.kitOne K (.ref (He.ga K "End")) (.ref (He.ga K "Put")) = some false := of_decide_eq_true (exs_at T 86)
theorem x_nf_End_Put (T : Tx K mg sa sx) : PySem.W.notFirst K (He.ga K "End") (.ref (He.ga K "Put")) = true := of_decide_eq_true (exs_at T 87)
theorem x_kit_End_Same (T : Tx K mg sa sx) : PySem.W.kitOne K (.ref (He.ga K "End")) (.ref (He.ga K "Same")) = some false := of_decide_eq_true (exs_at T 88)
theorem x_nf_End_Same (T : Tx K mg sa sx) : PySem.W.notFirst K (He.ga K "End") (.ref (He.ga K "Same")) = true := of_decide_eq_true (exs_at T 89)
theorem x_kit_End_There (T : Tx K mg sa sx) : PySem.W.kitOne K (.ref (He.ga K "End")) (.ref (He.ga K "There")) = some false := of_decide_eq_true (exs_at T 90)
theorem x_nf_End_There (T : Tx K mg sa sx) : PySem.W.notFirst K (He.ga K "End") (.ref (He.ga K "There")) = true := of_decide_eq_true (exs_at T 91)
theorem x_kit_End_Call (T : Tx K mg sa sx) : PySem.W.kitOne K (.ref (He.ga K "End")) (.ref (He.ga K "Call")) = some false := of_decide_eq_true (exs_at T 92)
theorem x_nf_End_Call (T : Tx K mg sa sx) : PySem.W.notFirst K (He.ga K "End") (.ref (He.ga K "Call")) = true := of_decide_eq_true (exs_at T 93)
theorem x_kit_End_End (T : Tx K mg sa sx) : PySem.W.kitOne K (.ref (He.ga K "End")) (.ref (He.ga K "End")) = some true := of_decide_eq_true (exs_at T 94)
theorem x_nf_End_End (T : Tx K mg sa sx) : PySem.W.notFirst K (He.ga K "End") (.ref (He.ga K "End")) = true := of_decide_eq_true (exs_at T 95)
theorem x_kits_End (T : Tx K mg sa sx) : PySem.W.kitOne K (.type "str") (.ref (He.ga K "End")) = some false := of_decide_eq_true (exs_at T 96)
theorem x_nfs_End (T : Tx K mg sa sx) : PySem.W.notFirst K (He.ga K "End") (.type "str") = true := of_decide_eq_true (exs_at T 97)
theorem x_emk (T : Tx K mg sa sx) : PySem.W.makesIn K (He.ga K "End") = true := of_decide_eq_true (exs_at T 98)
theorem x_ekp (T : Tx K mg sa sx) : PySem.W.keepIn K (.ref (He.ga K "End")) = true := of_decide_eq_true (exs_at T 99)
theorem x_ein (T : Tx K mg sa sx) : PySem.W.findIn K (.ref (He.ga K "End")) "__init__" = some (some (.builtin "object.__init__")) := of_decide_eq_true (exs_at T 100)
theorem c_Tell (T : Tx K mg sa sx) : Cls K (He.ga K "Tell") := He.cls_ok (T.c.fact 26 (f := .cls "Tell") rfl)
theorem m_Tell (T : Tx K mg sa sx) : Mk K (He.ga K "Tell") (He.ma K (He.ga K "Tell") "__init__") := He.mkr_ok (T.c.fact 27 (f := .mkr "Tell") rfl)
theorem c_Put (T : Tx K mg sa sx) : Cls K (He.ga K "Put") := He.cls_ok (T.c.fact 28 (f := .cls "Put") rfl)
theorem m_Put (T : Tx K mg sa sx) : Mk K (He.ga K "Put") (He.ma K (He.ga K "Put") "__init__") := He.mkr_ok (T.c.fact 29 (f := .mkr "Put") rfl)
theorem c_Same (T : Tx K mg sa sx) : Cls K (He.ga K "Same") := He.cls_ok (T.c.fact 30 (f := .cls "Same") rfl)
theorem m_Same (T : Tx K mg sa sx) : Mk K (He.ga K "Same") (He.ma K (He.ga K "Same") "__init__") := He.mkr_ok (T.c.fact 31 (f := .mkr "Same") rfl)
theorem c_There (T : Tx K mg sa sx) : Cls K (He.ga K "There") := He.cls_ok (T.c.fact 32 (f := .cls "There") rfl)
theorem m_There (T : Tx K mg sa sx) : Mk K (He.ga K "There") (He.ma K (He.ga K "There") "__init__") := He.mkr_ok (T.c.fact 33 (f := .mkr "There") rfl)
theorem c_Call (T : Tx K mg sa sx) : Cls K (He.ga K "Call") := He.cls_ok (T.c.fact 34 (f := .cls "Call") rfl)
theorem m_Call (T : Tx K mg sa sx) : Mk K (He.ga K "Call") (He.ma K (He.ga K "Call") "__init__") := He.mkr_ok (T.c.fact 35 (f := .mkr "Call") rfl)
theorem c_End (T : Tx K mg sa sx) : Cls K (He.ga K "End") := He.cls_ok (T.c.fact 36 (f := .cls "End") rfl)
theorem me_Tell_text (T : Tx K mg sa sx) : Meth K (He.ga K "Tell") "text" (He.ma K (He.ga K "Tell") "text") := He.meth_ok (T.c.fact 37 (f := .meth "Tell" "text") rfl)
theorem me_Tell_operands (T : Tx K mg sa sx) : Meth K (He.ga K "Tell") "operands" (He.ma K (He.ga K "Tell") "operands") := He.meth_ok (T.c.fact 38 (f := .meth "Tell" "operands") rfl)
theorem me_Tell_eq (T : Tx K mg sa sx) : Meth K (He.ga K "Tell") "__eq__" (He.ma K (He.ga K "Tell") "__eq__") := He.meth_ok (T.c.fact 39 (f := .meth "Tell" "__eq__") rfl)
theorem me_Put_text (T : Tx K mg sa sx) : Meth K (He.ga K "Put") "text" (He.ma K (He.ga K "Put") "text") := He.meth_ok (T.c.fact 40 (f := .meth "Put" "text") rfl)
theorem me_Put_operands (T : Tx K mg sa sx) : Meth K (He.ga K "Put") "operands" (He.ma K (He.ga K "Put") "operands") := He.meth_ok (T.c.fact 41 (f := .meth "Put" "operands") rfl)
theorem me_Put_eq (T : Tx K mg sa sx) : Meth K (He.ga K "Put") "__eq__" (He.ma K (He.ga K "Put") "__eq__") := He.meth_ok (T.c.fact 42 (f := .meth "Put" "__eq__") rfl)
theorem me_Same_text (T : Tx K mg sa sx) : Meth K (He.ga K "Same") "text" (He.ma K (He.ga K "Same") "text") := He.meth_ok (T.c.fact 43 (f := .meth "Same" "text") rfl)
theorem me_Same_operands (T : Tx K mg sa sx) : Meth K (He.ga K "Same") "operands" (He.ma K (He.ga K "Same") "operands") := He.meth_ok (T.c.fact 44 (f := .meth "Same" "operands") rfl)
theorem me_Same_eq (T : Tx K mg sa sx) : Meth K (He.ga K "Same") "__eq__" (He.ma K (He.ga K "Same") "__eq__") := He.meth_ok (T.c.fact 45 (f := .meth "Same" "__eq__") rfl)
theorem me_There_text (T : Tx K mg sa sx) : Meth K (He.ga K "There") "text" (He.ma K (He.ga K "There") "text") := He.meth_ok (T.c.fact 46 (f := .meth "There" "text") rfl)
theorem me_There_operands (T : Tx K mg sa sx) : Meth K (He.ga K "There") "operands" (He.ma K (He.ga K "There") "operands") := He.meth_ok (T.c.fact 47 (f := .meth "There" "operands") rfl)
theorem me_There_eq (T : Tx K mg sa sx) : Meth K (He.ga K "There") "__eq__" (He.ma K (He.ga K "There") "__eq__") := He.meth_ok (T.c.fact 48 (f := .meth "There" "__eq__") rfl)
theorem me_Call_text (T : Tx K mg sa sx) : Meth K (He.ga K "Call") "text" (He.ma K (He.ga K "Call") "text") := He.meth_ok (T.c.fact 49 (f := .meth "Call" "text") rfl)
theorem me_Call_operands (T : Tx K mg sa sx) : Meth K (He.ga K "Call") "operands" (He.ma K (He.ga K "Call") "operands") := He.meth_ok (T.c.fact 50 (f := .meth "Call" "operands") rfl)
theorem me_Call_eq (T : Tx K mg sa sx) : Meth K (He.ga K "Call") "__eq__" (He.ma K (He.ga K "Call") "__eq__") := He.meth_ok (T.c.fact 51 (f := .meth "Call" "__eq__") rfl)
theorem me_End_text (T : Tx K mg sa sx) : Meth K (He.ga K "End") "text" (He.ma K (He.ga K "End") "text") := He.meth_ok (T.c.fact 52 (f := .meth "End" "text") rfl)
theorem me_End_operands (T : Tx K mg sa sx) : Meth K (He.ga K "End") "operands" (He.ma K (He.ga K "End") "operands") := He.meth_ok (T.c.fact 53 (f := .meth "End" "operands") rfl)
theorem me_End_eq (T : Tx K mg sa sx) : Meth K (He.ga K "End") "__eq__" (He.ma K (He.ga K "End") "__eq__") := He.meth_ok (T.c.fact 54 (f := .meth "End" "__eq__") rfl)
theorem na_Tell_value (T : Tx K mg sa sx) : NoAttr K (He.ga K "Tell") "value" := He.noat_ok (T.c.fact 55 (f := .noat "Tell" "value") rfl)
theorem na_Put_place (T : Tx K mg sa sx) : NoAttr K (He.ga K "Put") "place" := He.noat_ok (T.c.fact 56 (f := .noat "Put" "place") rfl)
theorem na_Put_value (T : Tx K mg sa sx) : NoAttr K (He.ga K "Put") "value" := He.noat_ok (T.c.fact 57 (f := .noat "Put" "value") rfl)
theorem na_Same_left (T : Tx K mg sa sx) : NoAttr K (He.ga K "Same") "left" := He.noat_ok (T.c.fact 58 (f := .noat "Same" "left") rfl)
theorem na_Same_right (T : Tx K mg sa sx) : NoAttr K (He.ga K "Same") "right" := He.noat_ok (T.c.fact 59 (f := .noat "Same" "right") rfl)
theorem na_Same_skip (T : Tx K mg sa sx) : NoAttr K (He.ga K "Same") "skip" := He.noat_ok (T.c.fact 60 (f := .noat "Same" "skip") rfl)
theorem na_There_name (T : Tx K mg sa sx) : NoAttr K (He.ga K "There") "name" := He.noat_ok (T.c.fact 61 (f := .noat "There" "name") rfl)
theorem na_There_skip (T : Tx K mg sa sx) : NoAttr K (He.ga K "There") "skip" := He.noat_ok (T.c.fact 62 (f := .noat "There" "skip") rfl)
theorem na_Call_name (T : Tx K mg sa sx) : NoAttr K (He.ga K "Call") "name" := He.noat_ok (T.c.fact 63 (f := .noat "Call" "name") rfl)
theorem na_Call_value (T : Tx K mg sa sx) : NoAttr K (He.ga K "Call") "value" := He.noat_ok (T.c.fact 64 (f := .noat "Call" "value") rfl)
theorem na_Call_tag (T : Tx K mg sa sx) : NoAttr K (He.ga K "Call") "tag" := He.noat_ok (T.c.fact 65 (f := .noat "Call" "tag") rfl)
theorem f_value_text (T : Tx K mg sa sx) : ∃ fd, FunD K "value_text" "value_text" (defArgs s_value_text) (defBody s_value_text) (defScope s_value_text) [] [] (He.ga K "value_text") fd := T.c.def_ 0 (d := d_value_text) rfl
theorem f_Tell_init (T : Tx K mg sa sx) : ∃ fd, FunD K "__init__" "Tell.__init__" (defArgs s_Tell_init) (defBody s_Tell_init) (defScope s_Tell_init) [] [] (He.ma K (He.ga K "Tell") "__init__") fd := T.c.def_ 1 (d := d_Tell_init) rfl
theorem f_Tell_text (T : Tx K mg sa sx) : ∃ fd, FunD K "text" "Tell.text" (defArgs s_Tell_text) (defBody s_Tell_text) (defScope s_Tell_text) [] [] (He.ma K (He.ga K "Tell") "text") fd := T.c.def_ 2 (d := d_Tell_text) rfl
theorem f_Tell_operands (T : Tx K mg sa sx) : ∃ fd, FunD K "operands" "Tell.operands" (defArgs s_Tell_operands) (defBody s_Tell_operands) (defScope s_Tell_operands) [] [] (He.ma K (He.ga K "Tell") "operands") fd := T.c.def_ 3 (d := d_Tell_operands) rfl
theorem f_Tell_eq (T : Tx K mg sa sx) : ∃ fd, FunD K "__eq__" "Tell.__eq__" (defArgs s_Tell_eq) (defBody s_Tell_eq) (defScope s_Tell_eq) [] [] (He.ma K (He.ga K "Tell") "__eq__") fd := T.c.def_ 4 (d := d_Tell_eq) rfl
theorem f_Put_init (T : Tx K mg sa sx) : ∃ fd, FunD K "__init__" "Put.__init__" (defArgs s_Put_init) (defBody s_Put_init) (defScope s_Put_init) [] [] (He.ma K (He.ga K "Put") "__init__") fd := T.c.def_ 5 (d := d_Put_init) rfl
theorem f_Put_text (T : Tx K mg sa sx) : ∃ fd, FunD K "text" "Put.text" (defArgs s_Put_text) (defBody s_Put_text) (defScope s_Put_text) [] [] (He.ma K (He.ga K "Put") "text") fd := T.c.def_ 6 (d := d_Put_text) rfl
theorem f_Put_operands (T : Tx K mg sa sx) : ∃ fd, FunD K "operands" "Put.operands" (defArgs s_Put_operands) (defBody s_Put_operands) (defScope s_Put_operands) [] [] (He.ma K (He.ga K "Put") "operands") fd := T.c.def_ 7 (d := d_Put_operands) rfl
theorem f_Put_eq (T : Tx K mg sa sx) : ∃ fd, FunD K "__eq__" "Put.__eq__" (defArgs s_Put_eq) (defBody s_Put_eq) (defScope s_Put_eq) [] [] (He.ma K (He.ga K "Put") "__eq__") fd := T.c.def_ 8 (d := d_Put_eq) rfl
theorem f_Same_init (T : Tx K mg sa sx) : ∃ fd, FunD K "__init__" "Same.__init__" (defArgs s_Same_init) (defBody s_Same_init) (defScope s_Same_init) [] [] (He.ma K (He.ga K "Same") "__init__") fd := T.c.def_ 9 (d := d_Same_init) rfl
theorem f_Same_text (T : Tx K mg sa sx) : ∃ fd, FunD K "text" "Same.text" (defArgs s_Same_text) (defBody s_Same_text) (defScope s_Same_text) [] [] (He.ma K (He.ga K "Same") "text") fd := T.c.def_ 10 (d := d_Same_text) rfl
theorem f_Same_operands (T : Tx K mg sa sx) : ∃ fd, FunD K "operands" "Same.operands" (defArgs s_Same_operands) (defBody s_Same_operands) (defScope s_Same_operands) [] [] (He.ma K (He.ga K "Same") "operands") fd := T.c.def_ 11 (d := d_Same_operands) rfl
theorem f_Same_eq (T : Tx K mg sa sx) : ∃ fd, FunD K "__eq__" "Same.__eq__" (defArgs s_Same_eq) (defBody s_Same_eq) (defScope s_Same_eq) [] [] (He.ma K (He.ga K "Same") "__eq__") fd := T.c.def_ 12 (d := d_Same_eq) rfl
theorem f_There_init (T : Tx K mg sa sx) : ∃ fd, FunD K "__init__" "There.__init__" (defArgs s_There_init) (defBody s_There_init) (defScope s_There_init) [] [] (He.ma K (He.ga K "There") "__init__") fd := T.c.def_ 13 (d := d_There_init) rfl
theorem f_There_text (T : Tx K mg sa sx) : ∃ fd, FunD K "text" "There.text" (defArgs s_There_text) (defBody s_There_text) (defScope s_There_text) [] [] (He.ma K (He.ga K "There") "text") fd := T.c.def_ 14 (d := d_There_text) rfl
theorem f_There_operands (T : Tx K mg sa sx) : ∃ fd, FunD K "operands" "There.operands" (defArgs s_There_operands) (defBody s_There_operands) (defScope s_There_operands) [] [] (He.ma K (He.ga K "There") "operands") fd := T.c.def_ 15 (d := d_There_operands) rfl
theorem f_There_eq (T : Tx K mg sa sx) : ∃ fd, FunD K "__eq__" "There.__eq__" (defArgs s_There_eq) (defBody s_There_eq) (defScope s_There_eq) [] [] (He.ma K (He.ga K "There") "__eq__") fd := T.c.def_ 16 (d := d_There_eq) rfl
theorem f_Call_init (T : Tx K mg sa sx) : ∃ fd, FunD K "__init__" "Call.__init__" (defArgs s_Call_init) (defBody s_Call_init) (defScope s_Call_init) [V.int 0] [] (He.ma K (He.ga K "Call") "__init__") fd := T.c.def_ 17 (d := d_Call_init) rfl
theorem f_Call_text (T : Tx K mg sa sx) : ∃ fd, FunD K "text" "Call.text" (defArgs s_Call_text) (defBody s_Call_text) (defScope s_Call_text) [] [] (He.ma K (He.ga K "Call") "text") fd := T.c.def_ 18 (d := d_Call_text) rfl
theorem f_Call_operands (T : Tx K mg sa sx) : ∃ fd, FunD K "operands" "Call.operands" (defArgs s_Call_operands) (defBody s_Call_operands) (defScope s_Call_operands) [] [] (He.ma K (He.ga K "Call") "operands") fd := T.c.def_ 19 (d := d_Call_operands) rfl
theorem f_Call_eq (T : Tx K mg sa sx) : ∃ fd, FunD K "__eq__" "Call.__eq__" (defArgs s_Call_eq) (defBody s_Call_eq) (defScope s_Call_eq) [] [] (He.ma K (He.ga K "Call") "__eq__") fd := T.c.def_ 20 (d := d_Call_eq) rfl
theorem f_End_text (T : Tx K mg sa sx) : ∃ fd, FunD K "text" "End.text" (defArgs s_End_text) (defBody s_End_text) (defScope s_End_text) [] [] (He.ma K (He.ga K "End") "text") fd := T.c.def_ 21 (d := d_End_text) rfl
theorem f_End_operands (T : Tx K mg sa sx) : ∃ fd, FunD K "operands" "End.operands" (defArgs s_End_operands) (defBody s_End_operands) (defScope s_End_operands) [] [] (He.ma K (He.ga K "End") "operands") fd := T.c.def_ 22 (d := d_End_operands) rfl
theorem f_End_eq (T : Tx K mg sa sx) : ∃ fd, FunD K "__eq__" "End.__eq__" (defArgs s_End_eq) (defBody s_End_eq) (defScope s_End_eq) [] [] (He.ma K (He.ga K "End") "__eq__") fd := T.c.def_ 23 (d := d_End_eq) rfl
theorem f_l_draw (T : Tx K mg sa sx) : ∃ fd, FunD K "_law_draw" "_law_draw" (defArgs s_l_draw) (defBody s_l_draw) (defScope s_l_draw) [] [] (He.ga K "_law_draw") fd := T.c.def_ 24 (d := d_l_draw) rfl
theorem f_l_name (T : Tx K mg sa sx) : ∃ fd, FunD K "_law_name" "_law_name" (defArgs s_l_name) (defBody s_l_name) (defScope s_l_name) [] [] (He.ga K "_law_name") fd := T.c.def_ 25 (d := d_l_name) rfl
theorem f_l_number (T : Tx K mg sa sx) : ∃ fd, FunD K "_law_number" "_law_number" (defArgs s_l_number) (defBody s_l_number) (defScope s_l_number) [] [] (He.ga K "_law_number") fd := T.c.def_ 26 (d := d_l_number) rfl
theorem f_l_any_value (T : Tx K mg sa sx) : ∃ fd, FunD K "_law_any_value" "_law_any_value" (defArgs s_l_any_value) (defBody s_l_any_value) (defScope s_l_any_value) [] [] (He.ga K "_law_any_value") fd := T.c.def_ 27 (d := d_l_any_value) rfl
theorem f_l_value_word (T : Tx K mg sa sx) : ∃ fd, FunD K "_law_value_word" "_law_value_word" (defArgs s_l_value_word) (defBody s_l_value_word) (defScope s_l_value_word) [] [] (He.ga K "_law_value_word") fd := T.c.def_ 28 (d := d_l_value_word) rfl
theorem f_l_drawn_row (T : Tx K mg sa sx) : ∃ fd, FunD K "_law_drawn_row" "_law_drawn_row" (defArgs s_l_drawn_row) (defBody s_l_drawn_row) (defScope s_l_drawn_row) [] [] (He.ga K "_law_drawn_row") fd := T.c.def_ 29 (d := d_l_drawn_row) rfl
theorem f_l_made (T : Tx K mg sa sx) : ∃ fd, FunD K "_law_made" "_law_made" (defArgs s_l_made) (defBody s_l_made) (defScope s_l_made) [] [] (He.ga K "_law_made") fd := T.c.def_ 30 (d := d_l_made) rfl
theorem f_l_line (T : Tx K mg sa sx) : ∃ fd, FunD K "_law_line" "_law_line" (defArgs s_l_line) (defBody s_l_line) (defScope s_l_line) [] [] (He.ga K "_law_line") fd := T.c.def_ 31 (d := d_l_line) rfl
theorem f_l_values (T : Tx K mg sa sx) : ∃ fd, FunD K "_law_values" "_law_values" (defArgs s_l_values) (defBody s_l_values) (defScope s_l_values) [] [] (He.ga K "_law_values") fd := T.c.def_ 32 (d := d_l_values) rfl
theorem f_l_has_fields (T : Tx K mg sa sx) : ∃ fd, FunD K "_law_has_fields" "_law_has_fields" (defArgs s_l_has_fields) (defBody s_l_has_fields) (defScope s_l_has_fields) [] [] (He.ga K "_law_has_fields") fd := T.c.def_ 33 (d := d_l_has_fields) rfl
theorem f_law (T : Tx K mg sa sx) : ∃ fd, FunD K "law" "law" (defArgs s_law) (defBody s_law) (defScope s_law) [] [] (He.ga K "law") fd := T.c.def_ 34 (d := d_law) rfl
end
end K00
namespace K00
open PySem PySem.Spec PyProof.Rows L2 Cm
/-! ### values and rows as data -/
inductive Val where
  | num (n : Int) | arg | place (x : Str) (k : Int) | own (x : Str) | named (x : Str)
  deriving DecidableEq
def Val.vs : Val → List V
  | .num n => [.str "number", .int n]
  | .arg => [.str "argument"]
  | .place x k => [.str "place", .str x, .int k]
  | .own x => [.str "own", .str x]
  | .named x => [.str "named", .str x]
def Val.ds : Val → List PyData
  | .num n => [.str "number", .int n]
  | .arg => [.str "argument"]
  | .place x k => [.str "place", .str x, .int k]
  | .own x => [.str "own", .str x]
  | .named x => [.str "named", .str x]
def NmOk (x : Str) : Prop := x.length ≤ 100 ∧ x.cps.all (· < 128) = true
def IntOk (n : Int) : Prop := n.natAbs ≤ 4000000000
def Val.ok : Val → Prop
  | .num n => IntOk n
  | .arg => True
  | .place x k => NmOk x ∧ IntOk k
  | .own x => NmOk x
  | .named x => NmOk x
/-- a number written -/
def nt (n : Int) : Str := toString n
def Val.tx : Val → Str
  | .num n => nt n
  | .arg => "it"
  | .place x k => x ++ ("." ++ nt k)
  | .own x => "$" ++ x
  | .named x => "#" ++ x
theorem IntOk.log {n : Int} (h : IntOk n) : n.natAbs.log2 < 1920 := log_of (Nat.lt_of_le_of_lt h (by decide +kernel))
theorem nt_len {n : Int} (h : IntOk n) : (nt n).length ≤ 1921 := int_text_len_1921 h.log
theorem Val.tx_len : ∀ {v : Val}, v.ok → v.tx.length ≤ 3000
  | .num n, h => Nat.le_trans (nt_len h) (by decide)
  | .arg, _ => by decide +kernel
  | .place x k, h => by
    have h1 := h.1.1
    have h2 := nt_len h.2
    have e : (Val.place x k).tx.length = x.length + (("." : Str).length + (nt k).length) := by
      show (x ++ ("." ++ nt k)).length = _
      rw [app_len, app_len]
    have e2 : (("." : Str).length) = 1 := by decide +kernel
    omega
  | .own x, h => by
    have h1 := h.1
    have e : (Val.own x).tx.length = ("$" : Str).length + x.length := app_len _ _
    have e2 : (("$" : Str).length) = 1 := by decide +kernel
    omega
  | .named x, h => by
    have h1 := h.1
    have e : (Val.named x).tx.length = ("#" : Str).length + x.length := app_len _ _
    have e2 : (("#" : Str).length) = 1 := by decide +kernel
    omega
inductive Rw where
  | tell (v : Val) | set (p v : Val) | same (a b : Val) (k : Int) | there (x : Str) (k : Int) | call (x : Str) (v : Val) (t : Int) | fin
  deriving DecidableEq
def Rw.ds : Rw → List PyData
  | .tell v => [.str "tell", .tuple v.ds]
  | .set p v => [.str "set", .tuple p.ds, .tuple v.ds]
  | .same a b k => [.str "same", .tuple a.ds, .tuple b.ds, .int k]
  | .there x k => [.str "there", .str x, .int k]
  | .call x v t => [.str "call", .str x, .tuple v.ds, .int t]
  | .fin => [.str "end"]
def Rw.ok : Rw → Prop
  | .tell v => v.ok
  | .set p v => p.ok ∧ v.ok
  | .same a b k => a.ok ∧ b.ok ∧ IntOk k
  | .there x k => NmOk x ∧ IntOk k
  | .call x v t => NmOk x ∧ v.ok ∧ IntOk t
  | .fin => True
def Rw.tx : Rw → Str
  | .tell v => "tell " ++ v.tx
  | .set p v => "set " ++ (p.tx ++ (" " ++ v.tx))
  | .same a b k => "same " ++ (a.tx ++ (" " ++ (b.tx ++ (" else " ++ nt k))))
  | .there x k => "there " ++ (x ++ (" else " ++ nt k))
  | .call x v t => if t = 0 then "call " ++ (x ++ (" " ++ v.tx)) else "call " ++ (x ++ (" " ++ (v.tx ++ (" at " ++ nt t))))
  | .fin => "end"
/-- the values that a row tells -/
def Rw.ops : Rw → List Val
  | .tell v => [v]
  | .set p v => [p, v]
  | .same a b _ => [a, b]
  | .there _ _ => []
  | .call _ v _ => [v]
  | .fin => []
def Rw.opd (r : Rw) : List PyData := r.ops.map fun v => .tuple v.ds
/-! ### equal data -/
section
theorem ne1 : (("number" : Str) == "argument") = false := by decide +kernel
theorem ne2 : (("number" : Str) == "place") = false := by decide +kernel
theorem ne3 : (("number" : Str) == "own") = false := by decide +kernel
theorem ne4 : (("number" : Str) == "named") = false := by decide +kernel
theorem ne5 : (("argument" : Str) == "number") = false := by decide +kernel
theorem ne6 : (("argument" : Str) == "place") = false := by decide +kernel
theorem ne7 : (("argument" : Str) == "own") = false := by decide +kernel
theorem ne8 : (("argument" : Str) == "named") = false := by decide +kernel
theorem ne9 : (("place" : Str) == "number") = false := by decide +kernel
theorem ne10 : (("place" : Str) == "argument") = false := by decide +kernel
theorem ne11 : (("place" : Str) == "own") = false := by decide +kernel
theorem ne12 : (("place" : Str) == "named") = false := by decide +kernel
theorem ne13 : (("own" : Str) == "number") = false := by decide +kernel
theorem ne14 : (("own" : Str) == "argument") = false := by decide +kernel
theorem ne15 : (("own" : Str) == "place") = false := by decide +kernel
theorem ne16 : (("own" : Str) == "named") = false := by decide +kernel
theorem ne17 : (("named" : Str) == "number") = false := by decide +kernel
theorem ne18 : (("named" : Str) == "argument") = false := by decide +kernel
theorem ne19 : (("named" : Str) == "place") = false := by decide +kernel
theorem ne20 : (("named" : Str) == "own") = false := by decide +kernel
end
theorem beq_dec {α : Type} [DecidableEq α] (a b : α) : (a == b) = decide (a = b) := by
  by_cases h : a = b
  · subst h; simp
  · rw [decide_eq_false h]; exact beq_eq_false_iff_ne.mpr h
theorem dand {p q r : Prop} [Decidable p] [Decidable q] [Decidable r] (h : r ↔ p ∧ q) : (decide p && decide q) = decide r := by
  by_cases a : p <;> by_cases b : q <;> simp [h, a, b]
theorem eqv_val : ∀ a b : Val, PyData.eqv (.tuple a.ds) (.tuple b.ds) = decide (a = b) := by
  intro a b
  cases a <;> cases b <;> simp only [Val.ds, PyData.eqv, PyData.eqvAll, ne1, ne2, ne3, ne4, ne5, ne6, ne7, ne8, ne9, ne10, ne11, ne12, ne13, ne14, ne15, ne16, ne17, ne18, ne19, ne20,
    Bool.false_and, Bool.and_false, Bool.and_true, Bool.true_and, beq_self_eq_true, beq_dec, reduceCtorEq, decide_false, decide_true, Val.num.injEq, Val.place.injEq, Val.own.injEq, Val.named.injEq]
  · exact dand Iff.rfl
  · rw [decide_eq_false (show ¬ (("own" : Str) = "named") by decide +kernel)]; rfl
  · rw [decide_eq_false (show ¬ (("named" : Str) = "own") by decide +kernel)]; rfl
theorem eqv_val' (a b : Val) : PyData.eqvAll a.ds b.ds = decide (a = b) := eqv_val a b
section
theorem rn1 : (("tell" : Str) == "set") = false := by decide +kernel
theorem rn2 : (("tell" : Str) == "same") = false := by decide +kernel
theorem rn3 : (("tell" : Str) == "there") = false := by decide +kernel
theorem rn4 : (("tell" : Str) == "call") = false := by decide +kernel
theorem rn5 : (("tell" : Str) == "end") = false := by decide +kernel
theorem rn6 : (("set" : Str) == "same") = false := by decide +kernel
theorem rn7 : (("set" : Str) == "there") = false := by decide +kernel
theorem rn8 : (("set" : Str) == "call") = false := by decide +kernel
theorem rn9 : (("set" : Str) == "end") = false := by decide +kernel
theorem rn10 : (("same" : Str) == "there") = false := by decide +kernel
theorem rn11 : (("same" : Str) == "call") = false := by decide +kernel
theorem rn12 : (("same" : Str) == "end") = false := by decide +kernel
theorem rn13 : (("there" : Str) == "call") = false := by decide +kernel
theorem rn14 : (("there" : Str) == "end") = false := by decide +kernel
theorem rn15 : (("call" : Str) == "end") = false := by decide +kernel
theorem bc (a b : Str) (h : (a == b) = false) : (b == a) = false := by
  rw [beq_dec] at h ⊢
  exact decide_eq_false fun e => of_decide_eq_false h e.symm
end
theorem eqv_row : ∀ a b : Rw, PyData.eqv (.list a.ds) (.list b.ds) = decide (a = b) := by
  intro a b
  cases a <;> cases b <;> simp only [Rw.ds, PyData.eqv, PyData.eqvAll, rn1, rn2, rn3, rn4, rn5, rn6, rn7, rn8, rn9, rn10, rn11, rn12, rn13, rn14, rn15,
    bc _ _ rn1, bc _ _ rn2, bc _ _ rn3, bc _ _ rn4, bc _ _ rn5, bc _ _ rn6, bc _ _ rn7, bc _ _ rn8, bc _ _ rn9, bc _ _ rn10, bc _ _ rn11, bc _ _ rn12, bc _ _ rn13, bc _ _ rn14, bc _ _ rn15, eqv_val',
    Bool.false_and, Bool.and_false, Bool.and_true, Bool.true_and, beq_self_eq_true, beq_dec, reduceCtorEq, decide_false, decide_true, Rw.tell.injEq, Rw.set.injEq, Rw.same.injEq, Rw.there.injEq, Rw.call.injEq, Bool.decide_and]
/-! ### shaped data -/
theorem strOk_nm {x : Str} (h : NmOk x) : PyData.strOk x = true := by
  have h2 := h.2
  unfold PyData.strOk
  rw [← Array.all_toList, List.all_eq_true] at h2 ⊢
  intro c hc
  have := of_decide_eq_true (h2 c hc)
  exact decide_eq_true (by omega)
theorem Val.lay {v : Val} (h : v.ok) : PyData.canLay0 (.tuple v.ds) = true ∧ (PyData.tuple v.ds).depth = 1 := by
  have k : ∀ x : Str, PyData.strOk x = true → PyData.canLay0 (.str x) = true := fun x h => by rw [PyData.canLay0]; exact h
  cases v with
  | num n =>
    refine ⟨?_, rfl⟩
    rw [PyData.canLay0]
    show (PyData.canLay0 (.str "number") && (PyData.canLay0 (.int n) && true)) = true
    rw [k "number" (by decide +kernel)]
    rfl
  | arg =>
    refine ⟨?_, rfl⟩
    rw [PyData.canLay0]
    show (PyData.canLay0 (.str "argument") && true) = true
    rw [k "argument" (by decide +kernel)]
    rfl
  | place x n =>
    refine ⟨?_, rfl⟩
    rw [PyData.canLay0]
    show (PyData.canLay0 (.str "place") && (PyData.canLay0 (.str x) && (PyData.canLay0 (.int n) && true))) = true
    rw [k x (strOk_nm h.1), k "place" (by decide +kernel)]
    rfl
  | own x =>
    refine ⟨?_, rfl⟩
    rw [PyData.canLay0]
    show (PyData.canLay0 (.str "own") && (PyData.canLay0 (.str x) && true)) = true
    rw [k x (strOk_nm h), k "own" (by decide +kernel)]
    rfl
  | named x =>
    refine ⟨?_, rfl⟩
    rw [PyData.canLay0]
    show (PyData.canLay0 (.str "named") && (PyData.canLay0 (.str x) && true)) = true
    rw [k x (strOk_nm h), k "named" (by decide +kernel)]
    rfl
theorem Val.shp {v : Val} (h : v.ok) : SeqAt.shaped (.tuple v.ds) = true := by
  obtain ⟨h1, h2⟩ := v.lay h
  unfold SeqAt.shaped
  rw [h1, h2]
  rfl
end K00
namespace K00
open PySem PySem.Spec PyProof.Rows L2 Cm
local macro_rules | `(tactic| walk_at "sz") => `(tactic| (apply sz1; simp only [app_len, show Str.empty.length = 0 from rfl,
  show (("tell " : Str)).length = 5 by decide +kernel, show (("set " : Str)).length = 4 by decide +kernel, show (("same " : Str)).length = 5 by decide +kernel, show (("there " : Str)).length = 6 by decide +kernel,
  show (("call " : Str)).length = 5 by decide +kernel, show ((" else " : Str)).length = 6 by decide +kernel, show ((" at " : Str)).length = 4 by decide +kernel, show ((" " : Str)).length = 1 by decide +kernel,
  show (("." : Str)).length = 1 by decide +kernel, show (("$" : Str)).length = 1 by decide +kernel, show (("#" : Str)).length = 1 by decide +kernel]; omega))
section
variable {P : Program} {w : World} {K : PySem.W.Frag} {mg : Str → Option Value} {base : Heap} {sa : Addr} {sx : List Int}
def spVt : Sp := fun vs H Q _ => ∃ t v, vs = [.ref t] ∧ Val.ok v ∧ H t = some (.tup v.vs) ∧ Q (.str v.tx) H
theorem ok_value_text (T : Tx K mg sa sx) : Cal P w K mg base 1 "value_text" spVt := by
  obtain ⟨fd, F⟩ := f_value_text T
  refine ⟨_, fd, ["value"], fnok F sc_value_text (fun vs H Q E h => ?_) (fun cdv A outer s H vs Q E hr h => ?_), F.bindsN fun _ _ _ _ _ _ us hl => match us, hl with | [_], _ => rfl, g_value_text T, F.kp⟩
  · obtain ⟨t, v, rfl, _⟩ := h; rfl
  · obtain ⟨t, v, rfl, ok, ht, k⟩ := h
    refine ⟨_, (pss_cons (ps_set (i := 1) sc_value_text.nd rfl (by first | exact Or.inl rfl | exact Or.inr rfl) (pe_ix ix_tup (pv 0) pe_int (fun _ _ => rfl)))
    (pss_cons (ps_if (pt_cmpR op_eq (pv 1) pe_str (nomark _)) (pss_one (ps_ret (pe_callTy (T := "str") call_str_int rfl (n_str T) (by decide +kernel) (pa_cons (pe_ix ix_tup (pv 0) pe_int (fun _ _ => rfl)) pa_nil)))) pss_nil)
    (pss_cons (ps_if (pt_cmpR op_eq (pv 1) pe_str (nomark _)) (pss_one (ps_ret pe_str)) pss_nil)
    (pss_cons (ps_if (pt_cmpR op_eq (pv 1) pe_str (nomark _)) (pss_one (ps_ret (pe_joined (PJ.cons (pe_fmt (pe_ix ix_tup (pv 0) pe_int (fun _ _ => rfl))) (PJ.cons pe_str (PJ.cons (pe_fmt (pe_ix ix_tup (pv 0) pe_int (fun _ _ => rfl))) PJ.nil)))))) pss_nil)
    (pss_cons (ps_if (pt_cmpR op_eq (pv 1) pe_str (nomark _)) (pss_one (ps_ret (pe_op op_add_str pe_str (pe_ix ix_tup (pv 0) pe_int (fun _ _ => rfl))))) pss_nil)
    (pss_one (ps_ret (pe_op op_add_str pe_str (pe_ix ix_tup (pv 0) pe_int (fun _ _ => rfl)))))))))), ?_⟩
    have hS := SqT.of (K := K) ht
    cases v with
    | num n =>
      refine ⟨_, rfl, t, _, 0, .str "number", rfl, rfl, hS, rfl, ?_⟩
      refine ⟨_, rfl, rfl, _, rfl, tT rfl ?_⟩
      exact ⟨_, rfl, t, _, 1, .int n, rfl, rfl, hS, rfl, n, rfl, ok.log, k⟩
    | arg =>
      refine ⟨_, rfl, t, _, 0, .str "argument", rfl, rfl, hS, rfl, ?_⟩
      refine ⟨_, rfl, rfl, _, rfl, tF (by decide +kernel) ?_⟩
      refine ⟨_, rfl, rfl, _, rfl, tT rfl ?_⟩
      exact k
    | place x n =>
      have h1 := ok.1.1
      have h2 := nt_len ok.2
      refine ⟨_, rfl, t, _, 0, .str "place", rfl, rfl, hS, rfl, ?_⟩
      refine ⟨_, rfl, rfl, _, rfl, tF (by decide +kernel) ?_⟩
      refine ⟨_, rfl, rfl, _, rfl, tF (by decide +kernel) ?_⟩
      refine ⟨_, rfl, rfl, _, rfl, tT rfl ?_⟩
      refine ⟨_, rfl, t, _, 1, .str x, rfl, rfl, hS, rfl, .inl ⟨x, rfl, sz1 (by omega), x, rfl, (by walk_at "sz"), ?_⟩⟩
      refine ⟨".", rfl, (by walk_at "sz"), ?_⟩
      refine ⟨_, rfl, t, _, 2, .int n, rfl, rfl, hS, rfl, .inr ⟨n, rfl, ok.2.log, nt n, rfl, (by walk_at "sz"), ?_⟩⟩
      show Q (.str (Str.empty ++ x ++ "." ++ nt n)) H
      rw [emp_app, app_assoc]
      exact k
    | own x =>
      have h1 := ok.1
      refine ⟨_, rfl, t, _, 0, .str "own", rfl, rfl, hS, rfl, ?_⟩
      refine ⟨_, rfl, rfl, _, rfl, tF (by decide +kernel) ?_⟩
      refine ⟨_, rfl, rfl, _, rfl, tF (by decide +kernel) ?_⟩
      refine ⟨_, rfl, rfl, _, rfl, tF (by decide +kernel) ?_⟩
      refine ⟨_, rfl, rfl, _, rfl, tT rfl ?_⟩
      refine ⟨_, rfl, t, _, 1, .str x, rfl, rfl, hS, rfl, "$", x, rfl, rfl, (by rw [show (("$" : Str)).length = 1 by decide +kernel]; exact sz1 (by omega)), k⟩
    | named x =>
      have h1 := ok.1
      refine ⟨_, rfl, t, _, 0, .str "named", rfl, rfl, hS, rfl, ?_⟩
      refine ⟨_, rfl, rfl, _, rfl, tF (by decide +kernel) ?_⟩
      refine ⟨_, rfl, rfl, _, rfl, tF (by decide +kernel) ?_⟩
      refine ⟨_, rfl, rfl, _, rfl, tF (by decide +kernel) ?_⟩
      refine ⟨_, rfl, rfl, _, rfl, tF (by decide +kernel) ?_⟩
      refine ⟨_, rfl, t, _, 1, .str x, rfl, rfl, hS, rfl, "#", x, rfl, rfl, (by rw [show (("#" : Str)).length = 1 by decide +kernel]; exact sz1 (by omega)), k⟩
end
end K00
namespace K00
open PySem PySem.Spec PyProof.Rows L2 Cm
local macro_rules | `(tactic| walk_at "sz") => `(tactic| (apply sz1; simp only [app_len, show Str.empty.length = 0 from rfl,
  show (("tell " : Str)).length = 5 by decide +kernel, show (("set " : Str)).length = 4 by decide +kernel, show (("same " : Str)).length = 5 by decide +kernel, show (("there " : Str)).length = 6 by decide +kernel,
  show (("call " : Str)).length = 5 by decide +kernel, show ((" else " : Str)).length = 6 by decide +kernel, show ((" at " : Str)).length = 4 by decide +kernel, show ((" " : Str)).length = 1 by decide +kernel]; omega))
/-! ### what stands at an address -/
def VA (H : Hp) (t : Addr) (v : Val) : Prop := v.ok ∧ H t = some (.tup v.vs)
def MA (K : PySem.W.Frag) (H : Hp) (o : Addr) : Rw → Prop
  | .tell v => ∃ t dx, VA H t v ∧ H o = some (.ins (He.ga K "Tell") dx (putF "value" (.ref t) []))
  | .set p v => ∃ t u dx, VA H t p ∧ VA H u v ∧ H o = some (.ins (He.ga K "Put") dx (putF "value" (.ref u) (putF "place" (.ref t) [])))
  | .same a b k => ∃ t u dx, VA H t a ∧ VA H u b ∧ IntOk k ∧ H o = some (.ins (He.ga K "Same") dx (putF "skip" (.int k) (putF "right" (.ref u) (putF "left" (.ref t) []))))
  | .there x k => ∃ dx, NmOk x ∧ IntOk k ∧ H o = some (.ins (He.ga K "There") dx (putF "skip" (.int k) (putF "name" (.str x) [])))
  | .call x v n => ∃ u dx, NmOk x ∧ VA H u v ∧ IntOk n ∧ H o = some (.ins (He.ga K "Call") dx (putF "tag" (.int n) (putF "value" (.ref u) (putF "name" (.str x) []))))
  | .fin => ∃ dx, H o = some (.ins (He.ga K "End") dx [])
section
variable {P : Program} {w : World} {K : PySem.W.Frag} {mg : Str → Option Value} {base : Heap} {sa : Addr} {sx : List Int}
/-! ### the makers -/
def spI1 (C : Addr) (f : Str) : Sp := fun vs H Q _ => ∃ o dx t xs, vs = [.ref o, .ref t] ∧ H o = some (.ins C dx []) ∧ H t = some (.tup xs) ∧ Q .non (upd H o (.ins C dx (putF f (.ref t) [])))
theorem ok_Tell_init (T : Tx K mg sa sx) : KCal P w K mg base 1 "Tell" (He.ga K "Tell") (spI1 (He.ga K "Tell") "value") [] := by
  obtain ⟨fd, F⟩ := f_Tell_init T
  refine ⟨g_Tell T, _, fd, ["self", "value"], [], m_Tell T, fnok F sc_Tell_init (fun vs H Q E h => ?_) (fun cdv A outer s H vs Q E hr h => ?_), F.bindsN fun _ _ _ _ _ _ us hl => match us, hl with | [_, _], _ => rfl, .nil⟩
  · obtain ⟨o, dx, t, xs, rfl, _⟩ := h; rfl
  · obtain ⟨o, dx, t, xs, rfl, ho, ht, k⟩ := h
    refine ⟨_, (pss_one (ps_fld (pv 0) (pe_callTy (T := "tuple") call_tuple_of rfl (n_tuple T) (by decide +kernel) (pa_cons (pv 1) pa_nil)) rfl)), ?_⟩
    exact ⟨_, rfl, t, xs, rfl, .inr ⟨SqT.of ht, _, rfl, o, _, dx, [], rfl, ho, c_Tell T, na_Tell_value T, fn0, k⟩⟩
def spI2 (C : Addr) (f g : Str) : Sp := fun vs H Q _ => ∃ o dx t xs u ys, vs = [.ref o, .ref t, .ref u] ∧ H o = some (.ins C dx []) ∧ H t = some (.tup xs) ∧ H u = some (.tup ys) ∧ Q .non (upd H o (.ins C dx (putF g (.ref u) (putF f (.ref t) []))))
theorem ok_Put_init (T : Tx K mg sa sx) : KCal P w K mg base 1 "Put" (He.ga K "Put") (spI2 (He.ga K "Put") "place" "value") [] := by
  obtain ⟨fd, F⟩ := f_Put_init T
  refine ⟨g_Put T, _, fd, ["self", "place", "value"], [], m_Put T, fnok F sc_Put_init (fun vs H Q E h => ?_) (fun cdv A outer s H vs Q E hr h => ?_), F.bindsN fun _ _ _ _ _ _ us hl => match us, hl with | [_, _, _], _ => rfl, .nil⟩
  · obtain ⟨o, dx, t, xs, u, ys, rfl, _⟩ := h; rfl
  · obtain ⟨o, dx, t, xs, u, ys, rfl, ho, ht, hu, k⟩ := h
    refine ⟨_, (pss_cons (ps_fld (pv 0) (pe_callTy (T := "tuple") call_tuple_of rfl (n_tuple T) (by decide +kernel) (pa_cons (pv 1) pa_nil)) rfl)
    (pss_one (ps_fld (pv 0) (pe_callTy (T := "tuple") call_tuple_of rfl (n_tuple T) (by decide +kernel) (pa_cons (pv 2) pa_nil)) rfl))), ?_⟩
    have nu : u ≠ o := ne_of hu ho (by intro z; cases z)
    refine ⟨_, rfl, t, xs, rfl, .inr ⟨SqT.of ht, _, rfl, o, _, dx, [], rfl, ho, c_Put T, na_Put_place T, fn0, ?_⟩⟩
    refine ⟨_, rfl, u, ys, rfl, .inr ⟨SqT.of ((upd_ne nu).trans hu), _, rfl, o, _, dx, _, rfl, upd_same, c_Put T, na_Put_value T, fnS fs0, ?_⟩⟩
    rw [upd_upd]
    exact k
def spI3 (C : Addr) : Sp := fun vs H Q _ => ∃ o dx t xs u ys n, vs = [.ref o, .ref t, .ref u, .int n] ∧ H o = some (.ins C dx []) ∧ H t = some (.tup xs) ∧ H u = some (.tup ys) ∧
  Q .non (upd H o (.ins C dx (putF "skip" (.int n) (putF "right" (.ref u) (putF "left" (.ref t) [])))))
theorem ok_Same_init (T : Tx K mg sa sx) : KCal P w K mg base 1 "Same" (He.ga K "Same") (spI3 (He.ga K "Same")) [] := by
  obtain ⟨fd, F⟩ := f_Same_init T
  refine ⟨g_Same T, _, fd, ["self", "left", "right", "skip"], [], m_Same T, fnok F sc_Same_init (fun vs H Q E h => ?_) (fun cdv A outer s H vs Q E hr h => ?_), F.bindsN fun _ _ _ _ _ _ us hl => match us, hl with | [_, _, _, _], _ => rfl, .nil⟩
  · obtain ⟨o, dx, t, xs, u, ys, n, rfl, _⟩ := h; rfl
  · obtain ⟨o, dx, t, xs, u, ys, n, rfl, ho, ht, hu, k⟩ := h
    refine ⟨_, (pss_cons (ps_fld (pv 0) (pe_callTy (T := "tuple") call_tuple_of rfl (n_tuple T) (by decide +kernel) (pa_cons (pv 1) pa_nil)) rfl)
    (pss_cons (ps_fld (pv 0) (pe_callTy (T := "tuple") call_tuple_of rfl (n_tuple T) (by decide +kernel) (pa_cons (pv 2) pa_nil)) rfl)
    (pss_one (ps_fld (pv 0) (pv 3) rfl)))), ?_⟩
    have nu : u ≠ o := ne_of hu ho (by intro z; cases z)
    refine ⟨_, rfl, t, xs, rfl, .inr ⟨SqT.of ht, _, rfl, o, _, dx, [], rfl, ho, c_Same T, na_Same_left T, fn0, ?_⟩⟩
    refine ⟨_, rfl, u, ys, rfl, .inr ⟨SqT.of ((upd_ne nu).trans hu), _, rfl, o, _, dx, _, rfl, upd_same, c_Same T, na_Same_right T, fnS fs0, ?_⟩⟩
    rw [upd_upd]
    refine ⟨_, rfl, _, rfl, o, _, dx, _, rfl, upd_same, c_Same T, na_Same_skip T, fnS (fs1 (by decide)), ?_⟩
    rw [upd_upd]
    exact k
def spI4 (C : Addr) : Sp := fun vs H Q _ => ∃ o dx x n, vs = [.ref o, .str x, .int n] ∧ H o = some (.ins C dx []) ∧ Q .non (upd H o (.ins C dx (putF "skip" (.int n) (putF "name" (.str x) []))))
theorem ok_There_init (T : Tx K mg sa sx) : KCal P w K mg base 1 "There" (He.ga K "There") (spI4 (He.ga K "There")) [] := by
  obtain ⟨fd, F⟩ := f_There_init T
  refine ⟨g_There T, _, fd, ["self", "name", "skip"], [], m_There T, fnok F sc_There_init (fun vs H Q E h => ?_) (fun cdv A outer s H vs Q E hr h => ?_), F.bindsN fun _ _ _ _ _ _ us hl => match us, hl with | [_, _, _], _ => rfl, .nil⟩
  · obtain ⟨o, dx, x, n, rfl, _⟩ := h; rfl
  · obtain ⟨o, dx, x, n, rfl, ho, k⟩ := h
    refine ⟨_, (pss_cons (ps_fld (pv 0) (pv 1) rfl)
    (pss_one (ps_fld (pv 0) (pv 2) rfl))), ?_⟩
    refine ⟨_, rfl, _, rfl, o, _, dx, [], rfl, ho, c_There T, na_There_name T, fn0, ?_⟩
    refine ⟨_, rfl, _, rfl, o, _, dx, _, rfl, upd_same, c_There T, na_There_skip T, fnS fs0, ?_⟩
    rw [upd_upd]
    exact k
def spI5 (C : Addr) : Sp := fun vs H Q _ => ∃ o dx x u ys n, vs = [.ref o, .str x, .ref u, .int n] ∧ H o = some (.ins C dx []) ∧ H u = some (.tup ys) ∧
  Q .non (upd H o (.ins C dx (putF "tag" (.int n) (putF "value" (.ref u) (putF "name" (.str x) [])))))
theorem call_init (T : Tx K mg sa sx) {fd : FuncData} (F : FunD K "__init__" "Call.__init__" (defArgs s_Call_init) (defBody s_Call_init) (defScope s_Call_init) [V.int 0] [] (He.ma K (He.ga K "Call") "__init__") fd) :
    FnOk P w K mg base CX0 1 (He.ma K (He.ga K "Call") "__init__") fd ["self", "name", "value", "tag"] (spI5 (He.ga K "Call")) := by
  refine fnok F sc_Call_init (fun vs H Q E h => ?_) (fun cdv A outer s H vs Q E hr h => ?_)
  · obtain ⟨o, dx, x, u, ys, n, rfl, _⟩ := h; rfl
  · obtain ⟨o, dx, x, u, ys, n, rfl, ho, hu, k⟩ := h
    refine ⟨_, (pss_cons (ps_fld (pv 0) (pv 1) rfl)
    (pss_cons (ps_fld (pv 0) (pe_callTy (T := "tuple") call_tuple_of rfl (n_tuple T) (by decide +kernel) (pa_cons (pv 2) pa_nil)) rfl)
    (pss_one (ps_fld (pv 0) (pv 3) rfl)))), ?_⟩
    have nu : u ≠ o := ne_of hu ho (by intro z; cases z)
    refine ⟨_, rfl, _, rfl, o, _, dx, [], rfl, ho, c_Call T, na_Call_name T, fn0, ?_⟩
    refine ⟨_, rfl, u, ys, rfl, .inr ⟨SqT.of ((upd_ne nu).trans hu), _, rfl, o, _, dx, _, rfl, upd_same, c_Call T, na_Call_value T, fnS fs0, ?_⟩⟩
    rw [upd_upd]
    refine ⟨_, rfl, _, rfl, o, _, dx, _, rfl, upd_same, c_Call T, na_Call_tag T, fnS (fs1 (by decide)), ?_⟩
    rw [upd_upd]
    exact k
theorem ok_Call_init (T : Tx K mg sa sx) : KCal P w K mg base 1 "Call" (He.ga K "Call") (spI5 (He.ga K "Call")) [] := by
  obtain ⟨fd, F⟩ := f_Call_init T
  obtain ⟨ds, v, b⟩ := F.binds1 (ps := ["self", "name", "value", "tag"]) 4 1 (by simp) rfl fun _ _ _ _ _ _ _ us its hl h1 => match us, its, hl, h1 with | [_, _, _, _], [_], _, _ => ⟨_, rfl, rfl⟩
  exact ⟨g_Call T, _, fd, ["self", "name", "value", "tag"], ds, m_Call T, call_init T F, b, v⟩
theorem ok_Call_init3 (T : Tx K mg sa sx) : KCal P w K mg base 1 "Call" (He.ga K "Call") (spI5 (He.ga K "Call")) [.int 0] := by
  obtain ⟨fd, F⟩ := f_Call_init T
  obtain ⟨ds, v, b⟩ := F.binds1 (ps := ["self", "name", "value", "tag"]) 3 0 (by simp) rfl fun _ _ _ _ _ _ _ us its hl h1 => match us, its, hl, h1 with | [_, _, _], [_], _, _ => ⟨_, rfl, rfl⟩
  exact ⟨g_Call T, _, fd, ["self", "name", "value", "tag"], ds, m_Call T, call_init T F, b, v⟩
end
end K00
namespace K00
open PySem PySem.Spec PyProof.Rows L2 Cm
local macro_rules | `(tactic| walk_at "sz") => `(tactic| (apply sz1; simp only [app_len, show Str.empty.length = 0 from rfl,
  show (("tell " : Str)).length = 5 by decide +kernel, show (("set " : Str)).length = 4 by decide +kernel, show (("same " : Str)).length = 5 by decide +kernel, show (("there " : Str)).length = 6 by decide +kernel,
  show (("call " : Str)).length = 5 by decide +kernel, show ((" else " : Str)).length = 6 by decide +kernel, show ((" at " : Str)).length = 4 by decide +kernel, show ((" " : Str)).length = 1 by decide +kernel]; omega))
def Rw.cn : Rw → Str
  | .tell _ => "Tell"
  | .set _ _ => "Put"
  | .same _ _ _ => "Same"
  | .there _ _ => "There"
  | .call _ _ _ => "Call"
  | .fin => "End"
section
variable {P : Program} {w : World} {K : PySem.W.Frag} {mg : Str → Option Value} {base : Heap} {sa : Addr} {sx : List Int}
theorem va_dp {H : Hp} {t : Addr} {v : Val} (h : VA H t v) : Dp K H (.ref t) (.tuple v.ds) := by
  refine .tup (SqT.of h.2) ?_
  cases v with
  | num n => exact .cons (.str _) (.cons (.int _) .nil)
  | arg => exact .cons (.str _) .nil
  | place x k => exact .cons (.str _) (.cons (.str _) (.cons (.int _) .nil))
  | own x => exact .cons (.str _) (.cons (.str _) .nil)
  | named x => exact .cons (.str _) (.cons (.str _) .nil)
theorem cndV {A B : Prop} {a b : Val} (hT : a = b → A) (hF : a ≠ b → B) : if PyData.eqv (.tuple a.ds) (.tuple b.ds) = true then A else B := by
  rw [eqv_val]
  by_cases h : a = b
  · exact tT h (hT h)
  · exact tF h (hF h)
theorem ma_ins {H : Hp} {o : Addr} {r : Rw} (m : MA K H o r) : ∃ dx fs, H o = some (.ins (He.ga K r.cn) dx fs) := by
  cases r with
  | tell v => obtain ⟨t, dx, hv, ho⟩ := m; exact ⟨_, _, ho⟩
  | set p v => obtain ⟨t, u, dx, hp, hv, ho⟩ := m; exact ⟨_, _, ho⟩
  | same a b n => obtain ⟨t, u, dx, ha, hb, hn, ho⟩ := m; exact ⟨_, _, ho⟩
  | there x n => obtain ⟨dx, hx, hn, ho⟩ := m; exact ⟨_, _, ho⟩
  | call x v n => obtain ⟨u, dx, hx, hv, hn, ho⟩ := m; exact ⟨_, _, ho⟩
  | fin => obtain ⟨dx, ho⟩ := m; exact ⟨_, _, ho⟩
theorem ma_ty (T : Tx K mg sa sx) {H : Hp} {o : Addr} {r : Rw} (m : MA K H o r) : TyX K H (.ref o) (.ref (He.ga K r.cn)) := by
  obtain ⟨dx, fs, e⟩ := ma_ins m
  cases r with
  | tell v => exact .base (.ins e (c_Tell T) (x_cc_Tell T) (x_cget T) (x_ctak T) (x_mro_Tell T))
  | set p v => exact .base (.ins e (c_Put T) (x_cc_Put T) (x_cget T) (x_ctak T) (x_mro_Put T))
  | same a b n => exact .base (.ins e (c_Same T) (x_cc_Same T) (x_cget T) (x_ctak T) (x_mro_Same T))
  | there x n => exact .base (.ins e (c_There T) (x_cc_There T) (x_cget T) (x_ctak T) (x_mro_There T))
  | call x v n => exact .base (.ins e (c_Call T) (x_cc_Call T) (x_cget T) (x_ctak T) (x_mro_Call T))
  | fin => exact .base (.ins e (c_End T) (x_cc_End T) (x_cget T) (x_ctak T) (x_mro_End T))
def spTx (K : PySem.W.Frag) (f : Rw → Prop) : Sp := fun vs H Q _ => ∃ o r, f r ∧ vs = [.ref o] ∧ MA K H o r ∧ Q (.str r.tx) H
def spOp (K : PySem.W.Frag) (f : Rw → Prop) : Sp := fun vs H Q _ => ∃ o r, f r ∧ vs = [.ref o] ∧ MA K H o r ∧ ∀ l xs, H l = none → xs.length ≤ 2 → DpAll K H xs r.opd → Q (.ref l) (upd H l (.lst xs))
def spEq (K : PySem.W.Frag) (f : Rw → Prop) : Sp := fun vs H Q _ => ∃ o r y, f r ∧ vs = [.ref o, y] ∧ MA K H o r ∧ ((∃ o' r', y = .ref o' ∧ MA K H o' r' ∧ Q (.bl (decide (r = r'))) H) ∨ ∃ z, y = .str z ∧ Q (.bl false) H)
theorem ok_Tell_text (T : Tx K mg sa sx) : MCal P w K mg base 2 (He.ga K "Tell") "text" (spTx K (fun r => ∃ v, r = Rw.tell v)) := by
  obtain ⟨fd, F⟩ := f_Tell_text T
  refine ⟨c_Tell T, _, fd, ["self"], fnok F sc_Tell_text (fun vs H Q E h => ?_) (fun cdv A outer s H vs Q E hr h => ?_), F.bindsN fun _ _ _ _ _ _ us hl => match us, hl with | [_], _ => rfl, me_Tell_text T⟩
  · obtain ⟨o, r, _, rfl, _⟩ := h; rfl
  · obtain ⟨o, _, ⟨v, rfl⟩, rfl, m, k⟩ := h
    obtain ⟨t, dx, hv, ho⟩ := m
    refine ⟨_, (pss_one (ps_ret (pe_joined (PJ.cons pe_str (PJ.cons (pe_fmt (pe_cal (ok_value_text T) hr (by decide) (pa_cons (pe_fld (pv 0) rfl) pa_nil))) PJ.nil))))), ?_⟩
    have h1 := Val.tx_len hv.1
    refine ⟨_, rfl, (by walk_at "sz"), ?_⟩
    refine ⟨_, rfl, o, _, dx, _, _, rfl, ho, c_Tell T, na_Tell_value T, fl1, t, v, rfl, hv.1, hv.2, .inl ⟨_, rfl, sz1 (by omega), _, rfl, (by walk_at "sz"), ?_⟩⟩
    show Q (.str (Str.empty ++ "tell " ++ v.tx)) H
    rw [emp_app]
    exact k
theorem ok_Put_text (T : Tx K mg sa sx) : MCal P w K mg base 2 (He.ga K "Put") "text" (spTx K (fun r => ∃ p v, r = Rw.set p v)) := by
  obtain ⟨fd, F⟩ := f_Put_text T
  refine ⟨c_Put T, _, fd, ["self"], fnok F sc_Put_text (fun vs H Q E h => ?_) (fun cdv A outer s H vs Q E hr h => ?_), F.bindsN fun _ _ _ _ _ _ us hl => match us, hl with | [_], _ => rfl, me_Put_text T⟩
  · obtain ⟨o, r, _, rfl, _⟩ := h; rfl
  · obtain ⟨o, _, ⟨p, v, rfl⟩, rfl, m, k⟩ := h
    obtain ⟨t, u, dx, hp, hv, ho⟩ := m
    refine ⟨_, (pss_one (ps_ret (pe_joined (PJ.cons pe_str (PJ.cons (pe_fmt (pe_cal (ok_value_text T) hr (by decide) (pa_cons (pe_fld (pv 0) rfl) pa_nil))) (PJ.cons pe_str (PJ.cons (pe_fmt (pe_cal (ok_value_text T) hr (by decide) (pa_cons (pe_fld (pv 0) rfl) pa_nil))) PJ.nil))))))), ?_⟩
    have h1 := Val.tx_len hp.1
    have h2 := Val.tx_len hv.1
    refine ⟨_, rfl, (by walk_at "sz"), ?_⟩
    refine ⟨_, rfl, o, _, dx, _, _, rfl, ho, c_Put T, na_Put_place T, (fl2 (by decide +kernel) fl1), t, p, rfl, hp.1, hp.2, .inl ⟨_, rfl, sz1 (by omega), _, rfl, (by walk_at "sz"), ?_⟩⟩
    refine ⟨_, rfl, (by walk_at "sz"), ?_⟩
    refine ⟨_, rfl, o, _, dx, _, _, rfl, ho, c_Put T, na_Put_value T, fl1, u, v, rfl, hv.1, hv.2, .inl ⟨_, rfl, sz1 (by omega), _, rfl, (by walk_at "sz"), ?_⟩⟩
    show Q (.str (Str.empty ++ "set " ++ p.tx ++ " " ++ v.tx)) H
    rw [emp_app, app_assoc, app_assoc]
    exact k
theorem ok_Same_text (T : Tx K mg sa sx) : MCal P w K mg base 2 (He.ga K "Same") "text" (spTx K (fun r => ∃ a b n, r = Rw.same a b n)) := by
  obtain ⟨fd, F⟩ := f_Same_text T
  refine ⟨c_Same T, _, fd, ["self"], fnok F sc_Same_text (fun vs H Q E h => ?_) (fun cdv A outer s H vs Q E hr h => ?_), F.bindsN fun _ _ _ _ _ _ us hl => match us, hl with | [_], _ => rfl, me_Same_text T⟩
  · obtain ⟨o, r, _, rfl, _⟩ := h; rfl
  · obtain ⟨o, _, ⟨a, b, n, rfl⟩, rfl, m, k⟩ := h
    obtain ⟨t, u, dx, ha, hb, hn, ho⟩ := m
    refine ⟨_, (pss_one (ps_ret (pe_joined (PJ.cons pe_str (PJ.cons (pe_fmt (pe_cal (ok_value_text T) hr (by decide) (pa_cons (pe_fld (pv 0) rfl) pa_nil))) (PJ.cons pe_str (PJ.cons (pe_fmt (pe_cal (ok_value_text T) hr (by decide) (pa_cons (pe_fld (pv 0) rfl) pa_nil))) (PJ.cons pe_str (PJ.cons (pe_fmt (pe_fld (pv 0) rfl)) PJ.nil))))))))), ?_⟩
    have h1 := Val.tx_len ha.1
    have h2 := Val.tx_len hb.1
    have h3 := nt_len hn
    refine ⟨_, rfl, (by walk_at "sz"), ?_⟩
    refine ⟨_, rfl, o, _, dx, _, _, rfl, ho, c_Same T, na_Same_left T, (fl2 (by decide +kernel) (fl2 (by decide +kernel) fl1)), t, a, rfl, ha.1, ha.2, .inl ⟨_, rfl, sz1 (by omega), _, rfl, (by walk_at "sz"), ?_⟩⟩
    refine ⟨_, rfl, (by walk_at "sz"), ?_⟩
    refine ⟨_, rfl, o, _, dx, _, _, rfl, ho, c_Same T, na_Same_right T, (fl2 (by decide +kernel) fl1), u, b, rfl, hb.1, hb.2, .inl ⟨_, rfl, sz1 (by omega), _, rfl, (by walk_at "sz"), ?_⟩⟩
    refine ⟨_, rfl, (by walk_at "sz"), ?_⟩
    refine ⟨_, rfl, o, _, dx, _, _, rfl, ho, c_Same T, na_Same_skip T, fl1, .inr ⟨n, rfl, hn.log, nt n, rfl, (by walk_at "sz"), ?_⟩⟩
    show Q (.str (Str.empty ++ "same " ++ a.tx ++ " " ++ b.tx ++ " else " ++ nt n)) H
    rw [emp_app, app_assoc, app_assoc, app_assoc, app_assoc]
    exact k
theorem ok_There_text (T : Tx K mg sa sx) : MCal P w K mg base 1 (He.ga K "There") "text" (spTx K (fun r => ∃ x n, r = Rw.there x n)) := by
  obtain ⟨fd, F⟩ := f_There_text T
  refine ⟨c_There T, _, fd, ["self"], fnok F sc_There_text (fun vs H Q E h => ?_) (fun cdv A outer s H vs Q E hr h => ?_), F.bindsN fun _ _ _ _ _ _ us hl => match us, hl with | [_], _ => rfl, me_There_text T⟩
  · obtain ⟨o, r, _, rfl, _⟩ := h; rfl
  · obtain ⟨o, _, ⟨x, n, rfl⟩, rfl, m, k⟩ := h
    obtain ⟨dx, hx, hn, ho⟩ := m
    refine ⟨_, (pss_one (ps_ret (pe_joined (PJ.cons pe_str (PJ.cons (pe_fmt (pe_fld (pv 0) rfl)) (PJ.cons pe_str (PJ.cons (pe_fmt (pe_fld (pv 0) rfl)) PJ.nil))))))), ?_⟩
    have h1 := hx.1
    have h3 := nt_len hn
    refine ⟨_, rfl, (by walk_at "sz"), ?_⟩
    refine ⟨_, rfl, o, _, dx, _, _, rfl, ho, c_There T, na_There_name T, (fl2 (by decide +kernel) fl1), .inl ⟨x, rfl, sz1 (by omega), x, rfl, (by walk_at "sz"), ?_⟩⟩
    refine ⟨_, rfl, (by walk_at "sz"), ?_⟩
    refine ⟨_, rfl, o, _, dx, _, _, rfl, ho, c_There T, na_There_skip T, fl1, .inr ⟨n, rfl, hn.log, nt n, rfl, (by walk_at "sz"), ?_⟩⟩
    show Q (.str (Str.empty ++ "there " ++ x ++ " else " ++ nt n)) H
    rw [emp_app, app_assoc, app_assoc]
    exact k
theorem ok_Call_text (T : Tx K mg sa sx) : MCal P w K mg base 2 (He.ga K "Call") "text" (spTx K (fun r => ∃ x v n, r = Rw.call x v n)) := by
  obtain ⟨fd, F⟩ := f_Call_text T
  refine ⟨c_Call T, _, fd, ["self"], fnok F sc_Call_text (fun vs H Q E h => ?_) (fun cdv A outer s H vs Q E hr h => ?_), F.bindsN fun _ _ _ _ _ _ us hl => match us, hl with | [_], _ => rfl, me_Call_text T⟩
  · obtain ⟨o, r, _, rfl, _⟩ := h; rfl
  · obtain ⟨o, _, ⟨x, v, n, rfl⟩, rfl, m, k⟩ := h
    obtain ⟨u, dx, hx, hv, hn, ho⟩ := m
    refine ⟨_, (pss_cons (ps_set (i := 1) sc_Call_text.nd rfl (by first | exact Or.inl rfl | exact Or.inr rfl) (pe_joined (PJ.cons pe_str (PJ.cons (pe_fmt (pe_fld (pv 0) rfl)) (PJ.cons pe_str (PJ.cons (pe_fmt (pe_cal (ok_value_text T) hr (by decide) (pa_cons (pe_fld (pv 0) rfl) pa_nil))) PJ.nil))))))
    (pss_one (ps_ret (pe_ifExp (pt_cmpR op_eq (pe_fld (pv 0) rfl) pe_int (nomark _)) (pv 1) (pe_joined (PJ.cons (pe_fmt (pv 1)) (PJ.cons pe_str (PJ.cons (pe_fmt (pe_fld (pv 0) rfl)) PJ.nil)))))))), ?_⟩
    have h1 := hx.1
    have h2 := Val.tx_len hv.1
    have h3 := nt_len hn
    refine ⟨_, rfl, (by walk_at "sz"), ?_⟩
    refine ⟨_, rfl, o, _, dx, _, _, rfl, ho, c_Call T, na_Call_name T, (fl2 (by decide +kernel) (fl2 (by decide +kernel) fl1)), .inl ⟨x, rfl, sz1 (by omega), x, rfl, (by walk_at "sz"), ?_⟩⟩
    refine ⟨_, rfl, (by walk_at "sz"), ?_⟩
    refine ⟨_, rfl, o, _, dx, _, _, rfl, ho, c_Call T, na_Call_value T, (fl2 (by decide +kernel) fl1), u, v, rfl, hv.1, hv.2, .inl ⟨_, rfl, sz1 (by omega), _, rfl, (by walk_at "sz"), ?_⟩⟩
    refine ⟨_, rfl, o, _, dx, _, _, rfl, ho, c_Call T, na_Call_tag T, fl1, rfl, _, rfl, ?_⟩
    have e1 : Str.empty ++ "call " ++ x ++ " " ++ v.tx = "call " ++ (x ++ (" " ++ v.tx)) := by rw [emp_app, app_assoc, app_assoc]
    by_cases c : n = 0
    · refine tT (by rw [c]) ⟨_, rfl, ?_⟩
      show Q (.str (Str.empty ++ "call " ++ x ++ " " ++ v.tx)) H
      rw [e1]
      have e2 : (Rw.call x v n).tx = "call " ++ (x ++ (" " ++ v.tx)) := if_pos c
      rw [e2] at k
      exact k
    · refine tF (by intro z; exact c (V.int.inj z)) ⟨_, rfl, .inl ⟨Str.empty ++ "call " ++ x ++ " " ++ v.tx, rfl, (by walk_at "sz"), _, rfl, (by walk_at "sz"), ?_⟩⟩
      refine ⟨_, rfl, (by walk_at "sz"), ?_⟩
      refine ⟨_, rfl, o, _, dx, _, _, rfl, ho, c_Call T, na_Call_tag T, fl1, .inr ⟨n, rfl, hn.log, nt n, rfl, (by walk_at "sz"), ?_⟩⟩
      show Q (.str (Str.empty ++ (Str.empty ++ "call " ++ x ++ " " ++ v.tx) ++ " at " ++ nt n)) H
      have e2 : (Rw.call x v n).tx = "call " ++ (x ++ (" " ++ (v.tx ++ (" at " ++ nt n)))) := if_neg c
      rw [e2] at k
      rw [emp_app, e1, app_assoc, app_assoc, app_assoc, app_assoc]
      exact k
theorem ok_End_text (T : Tx K mg sa sx) : MCal P w K mg base 1 (He.ga K "End") "text" (spTx K (fun r => r = Rw.fin)) := by
  obtain ⟨fd, F⟩ := f_End_text T
  refine ⟨c_End T, _, fd, ["self"], fnok F sc_End_text (fun vs H Q E h => ?_) (fun cdv A outer s H vs Q E hr h => ?_), F.bindsN fun _ _ _ _ _ _ us hl => match us, hl with | [_], _ => rfl, me_End_text T⟩
  · obtain ⟨o, r, _, rfl, _⟩ := h; rfl
  · obtain ⟨o, _, rfl, rfl, m, k⟩ := h
    obtain ⟨dx, ho⟩ := m
    refine ⟨_, (pss_one (ps_ret pe_str)), ?_⟩
    exact k
theorem ok_Tell_operands (T : Tx K mg sa sx) : MCal P w K mg base 1 (He.ga K "Tell") "operands" (spOp K (fun r => ∃ v, r = Rw.tell v)) := by
  obtain ⟨fd, F⟩ := f_Tell_operands T
  refine ⟨c_Tell T, _, fd, ["self"], fnok F sc_Tell_operands (fun vs H Q E h => ?_) (fun cdv A outer s H vs Q E hr h => ?_), F.bindsN fun _ _ _ _ _ _ us hl => match us, hl with | [_], _ => rfl, me_Tell_operands T⟩
  · obtain ⟨o, r, _, rfl, _⟩ := h; rfl
  · obtain ⟨o, _, ⟨v, rfl⟩, rfl, m, k⟩ := h
    obtain ⟨t, dx, hv, ho⟩ := m
    refine ⟨_, (pss_one (ps_ret (pe_lst (pa_cons (pe_fld (pv 0) rfl) pa_nil)))), ?_⟩
    exact ⟨_, rfl, o, _, dx, _, _, rfl, ho, c_Tell T, na_Tell_value T, fl1, sz1 (by simp), fun l hl => k l _ hl (by simp) (.cons (va_dp hv) .nil)⟩
theorem ok_Put_operands (T : Tx K mg sa sx) : MCal P w K mg base 1 (He.ga K "Put") "operands" (spOp K (fun r => ∃ p v, r = Rw.set p v)) := by
  obtain ⟨fd, F⟩ := f_Put_operands T
  refine ⟨c_Put T, _, fd, ["self"], fnok F sc_Put_operands (fun vs H Q E h => ?_) (fun cdv A outer s H vs Q E hr h => ?_), F.bindsN fun _ _ _ _ _ _ us hl => match us, hl with | [_], _ => rfl, me_Put_operands T⟩
  · obtain ⟨o, r, _, rfl, _⟩ := h; rfl
  · obtain ⟨o, _, ⟨p, v, rfl⟩, rfl, m, k⟩ := h
    obtain ⟨t, u, dx, hp, hv, ho⟩ := m
    refine ⟨_, (pss_one (ps_ret (pe_lst (pa_cons (pe_fld (pv 0) rfl) (pa_cons (pe_fld (pv 0) rfl) pa_nil))))), ?_⟩
    exact ⟨_, rfl, o, _, dx, _, _, rfl, ho, c_Put T, na_Put_place T, (fl2 (by decide +kernel) fl1), _, rfl, o, _, dx, _, _, rfl, ho, c_Put T, na_Put_value T, fl1, sz1 (by simp), fun l hl => k l _ hl (by simp) (.cons (va_dp hp) (.cons (va_dp hv) .nil))⟩
theorem ok_Same_operands (T : Tx K mg sa sx) : MCal P w K mg base 1 (He.ga K "Same") "operands" (spOp K (fun r => ∃ a b n, r = Rw.same a b n)) := by
  obtain ⟨fd, F⟩ := f_Same_operands T
  refine ⟨c_Same T, _, fd, ["self"], fnok F sc_Same_operands (fun vs H Q E h => ?_) (fun cdv A outer s H vs Q E hr h => ?_), F.bindsN fun _ _ _ _ _ _ us hl => match us, hl with | [_], _ => rfl, me_Same_operands T⟩
  · obtain ⟨o, r, _, rfl, _⟩ := h; rfl
  · obtain ⟨o, _, ⟨a, b, n, rfl⟩, rfl, m, k⟩ := h
    obtain ⟨t, u, dx, ha, hb, hn, ho⟩ := m
    refine ⟨_, (pss_one (ps_ret (pe_lst (pa_cons (pe_fld (pv 0) rfl) (pa_cons (pe_fld (pv 0) rfl) pa_nil))))), ?_⟩
    exact ⟨_, rfl, o, _, dx, _, _, rfl, ho, c_Same T, na_Same_left T, (fl2 (by decide +kernel) (fl2 (by decide +kernel) fl1)), _, rfl, o, _, dx, _, _, rfl, ho, c_Same T, na_Same_right T, (fl2 (by decide +kernel) fl1), sz1 (by simp), fun l hl => k l _ hl (by simp) (.cons (va_dp ha) (.cons (va_dp hb) .nil))⟩
theorem ok_There_operands (T : Tx K mg sa sx) : MCal P w K mg base 1 (He.ga K "There") "operands" (spOp K (fun r => ∃ x n, r = Rw.there x n)) := by
  obtain ⟨fd, F⟩ := f_There_operands T
  refine ⟨c_There T, _, fd, ["self"], fnok F sc_There_operands (fun vs H Q E h => ?_) (fun cdv A outer s H vs Q E hr h => ?_), F.bindsN fun _ _ _ _ _ _ us hl => match us, hl with | [_], _ => rfl, me_There_operands T⟩
  · obtain ⟨o, r, _, rfl, _⟩ := h; rfl
  · obtain ⟨o, _, ⟨x, n, rfl⟩, rfl, m, k⟩ := h
    obtain ⟨dx, hx, hn, ho⟩ := m
    refine ⟨_, (pss_one (ps_ret (pe_lst pa_nil))), ?_⟩
    exact ⟨sz1 (by simp), fun l hl => k l _ hl (by simp) .nil⟩
theorem ok_Call_operands (T : Tx K mg sa sx) : MCal P w K mg base 1 (He.ga K "Call") "operands" (spOp K (fun r => ∃ x v n, r = Rw.call x v n)) := by
  obtain ⟨fd, F⟩ := f_Call_operands T
  refine ⟨c_Call T, _, fd, ["self"], fnok F sc_Call_operands (fun vs H Q E h => ?_) (fun cdv A outer s H vs Q E hr h => ?_), F.bindsN fun _ _ _ _ _ _ us hl => match us, hl with | [_], _ => rfl, me_Call_operands T⟩
  · obtain ⟨o, r, _, rfl, _⟩ := h; rfl
  · obtain ⟨o, _, ⟨x, v, n, rfl⟩, rfl, m, k⟩ := h
    obtain ⟨u, dx, hx, hv, hn, ho⟩ := m
    refine ⟨_, (pss_one (ps_ret (pe_lst (pa_cons (pe_fld (pv 0) rfl) pa_nil)))), ?_⟩
    exact ⟨_, rfl, o, _, dx, _, _, rfl, ho, c_Call T, na_Call_value T, (fl2 (by decide +kernel) fl1), sz1 (by simp), fun l hl => k l _ hl (by simp) (.cons (va_dp hv) .nil)⟩
theorem ok_End_operands (T : Tx K mg sa sx) : MCal P w K mg base 1 (He.ga K "End") "operands" (spOp K (fun r => r = Rw.fin)) := by
  obtain ⟨fd, F⟩ := f_End_operands T
  refine ⟨c_End T, _, fd, ["self"], fnok F sc_End_operands (fun vs H Q E h => ?_) (fun cdv A outer s H vs Q E hr h => ?_), F.bindsN fun _ _ _ _ _ _ us hl => match us, hl with | [_], _ => rfl, me_End_operands T⟩
  · obtain ⟨o, r, _, rfl, _⟩ := h; rfl
  · obtain ⟨o, _, rfl, rfl, m, k⟩ := h
    obtain ⟨dx, ho⟩ := m
    refine ⟨_, (pss_one (ps_ret (pe_lst pa_nil))), ?_⟩
    exact ⟨sz1 (by simp), fun l hl => k l _ hl (by simp) .nil⟩
theorem ok_Tell_eq (T : Tx K mg sa sx) : MCal P w K mg base 1 (He.ga K "Tell") "__eq__" (spEq K (fun r => ∃ v, r = Rw.tell v)) := by
  obtain ⟨fd, F⟩ := f_Tell_eq T
  refine ⟨c_Tell T, _, fd, ["self", "other"], fnok F sc_Tell_eq (fun vs H Q E h => ?_) (fun cdv A outer s H vs Q E hr h => ?_), F.bindsN fun _ _ _ _ _ _ us hl => match us, hl with | [_, _], _ => rfl, me_Tell_eq T⟩
  · obtain ⟨o, r, y, _, rfl, _⟩ := h; rfl
  · obtain ⟨o, _, y, ⟨v, rfl⟩, rfl, m, k⟩ := h
    refine ⟨_, (pss_one (ps_ret (pe_and (pe_callB (id := "isinstance") (r := rIsi K) call_isi rfl (n_isinstance T) (by decide +kernel) (pa_cons (pv 1) (pa_cons (pe_glob (v := .ref _) rfl (g_Tell T) rfl) pa_nil))) (pe_one (pe_cmpR (op_eqD hr.units) (pe_fld (pv 0) rfl) (pe_fld (pv 1) rfl) (nomark _)))))), ?_⟩
    rcases k with ⟨o', r', rfl, m', k⟩ | ⟨z, rfl, k⟩
    · have ty := ma_ty T m'
      cases r' with
      | tell v' =>
        obtain ⟨t, dx, hv, ho⟩ := m
        obtain ⟨t', dx', hv', ho'⟩ := m'
        refine ⟨_, rfl, .ref o', .ref (He.ga K "Tell"), _, _, true, rfl, .own _, ty, x_kit_Tell_Tell T, true, rfl, iteT ?_⟩
        refine ⟨_, rfl, o, _, dx, _, _, rfl, ho, c_Tell T, na_Tell_value T, fl1, _, rfl, o', _, dx', _, _, rfl, ho', c_Tell T, na_Tell_value T, fl1, .tuple v.ds, .tuple v'.ds, va_dp hv, va_dp hv', Val.shp hv.1, Val.shp hv'.1, ?_⟩
        show Q (.bl (PyData.eqv (.tuple v.ds) (.tuple v'.ds))) H
        have e : (PyData.eqv (.tuple v.ds) (.tuple v'.ds)) = decide (Rw.tell v = Rw.tell v') := by
          rw [eqv_val]
          exact decide_eq_decide.mpr ⟨fun z => by cases z; rfl, fun z => by cases z; rfl⟩
        rw [e]
        exact k
      | set p v => exact ⟨_, rfl, .ref o', .ref (He.ga K "Tell"), _, _, false, rfl, .own _, ty, x_kit_Put_Tell T, false, rfl, iteF k⟩
      | same a b n => exact ⟨_, rfl, .ref o', .ref (He.ga K "Tell"), _, _, false, rfl, .own _, ty, x_kit_Same_Tell T, false, rfl, iteF k⟩
      | there x n => exact ⟨_, rfl, .ref o', .ref (He.ga K "Tell"), _, _, false, rfl, .own _, ty, x_kit_There_Tell T, false, rfl, iteF k⟩
      | call x v n => exact ⟨_, rfl, .ref o', .ref (He.ga K "Tell"), _, _, false, rfl, .own _, ty, x_kit_Call_Tell T, false, rfl, iteF k⟩
      | fin => exact ⟨_, rfl, .ref o', .ref (He.ga K "Tell"), _, _, false, rfl, .own _, ty, x_kit_End_Tell T, false, rfl, iteF k⟩
    · exact ⟨_, rfl, .str z, .ref (He.ga K "Tell"), _, _, false, rfl, .own _, .base (.str z), x_kits_Tell T, false, rfl, iteF k⟩
theorem ok_Put_eq (T : Tx K mg sa sx) : MCal P w K mg base 1 (He.ga K "Put") "__eq__" (spEq K (fun r => ∃ p v, r = Rw.set p v)) := by
  obtain ⟨fd, F⟩ := f_Put_eq T
  refine ⟨c_Put T, _, fd, ["self", "other"], fnok F sc_Put_eq (fun vs H Q E h => ?_) (fun cdv A outer s H vs Q E hr h => ?_), F.bindsN fun _ _ _ _ _ _ us hl => match us, hl with | [_, _], _ => rfl, me_Put_eq T⟩
  · obtain ⟨o, r, y, _, rfl, _⟩ := h; rfl
  · obtain ⟨o, _, y, ⟨p, v, rfl⟩, rfl, m, k⟩ := h
    refine ⟨_, (pss_one (ps_ret (pe_and (pe_callB (id := "isinstance") (r := rIsi K) call_isi rfl (n_isinstance T) (by decide +kernel) (pa_cons (pv 1) (pa_cons (pe_glob (v := .ref _) rfl (g_Put T) rfl) pa_nil))) (pe_and (pe_cmpR (op_eqD hr.units) (pe_fld (pv 0) rfl) (pe_fld (pv 1) rfl) (nomark _)) (pe_one (pe_cmpR (op_eqD hr.units) (pe_fld (pv 0) rfl) (pe_fld (pv 1) rfl) (nomark _))))))), ?_⟩
    rcases k with ⟨o', r', rfl, m', k⟩ | ⟨z, rfl, k⟩
    · have ty := ma_ty T m'
      cases r' with
      | tell v => exact ⟨_, rfl, .ref o', .ref (He.ga K "Put"), _, _, false, rfl, .own _, ty, x_kit_Tell_Put T, false, rfl, iteF k⟩
      | set p' v' =>
        obtain ⟨t, u, dx, hp, hv, ho⟩ := m
        obtain ⟨t', u', dx', hp', hv', ho'⟩ := m'
        refine ⟨_, rfl, .ref o', .ref (He.ga K "Put"), _, _, true, rfl, .own _, ty, x_kit_Put_Put T, true, rfl, iteT ?_⟩
        refine ⟨_, rfl, o, _, dx, _, _, rfl, ho, c_Put T, na_Put_place T, (fl2 (by decide +kernel) fl1), _, rfl, o', _, dx', _, _, rfl, ho', c_Put T, na_Put_place T, (fl2 (by decide +kernel) fl1), .tuple p.ds, .tuple p'.ds, va_dp hp, va_dp hp', Val.shp hp.1, Val.shp hp'.1, _, rfl, ?_⟩
        by_cases c : p = p'
        rotate_left
        · have e : decide (Rw.set p v = Rw.set p' v') = false := decide_eq_false (fun z => c (by cases z; rfl))
          rw [e] at k
          exact cndV (fun z => absurd z c) (fun _ => k)
        refine cndV (fun _ => ?_) (fun z => absurd c z)
        subst c
        refine ⟨_, rfl, o, _, dx, _, _, rfl, ho, c_Put T, na_Put_value T, fl1, _, rfl, o', _, dx', _, _, rfl, ho', c_Put T, na_Put_value T, fl1, .tuple v.ds, .tuple v'.ds, va_dp hv, va_dp hv', Val.shp hv.1, Val.shp hv'.1, ?_⟩
        show Q (.bl (PyData.eqv (.tuple v.ds) (.tuple v'.ds))) H
        have e : (PyData.eqv (.tuple v.ds) (.tuple v'.ds)) = decide (Rw.set p v = Rw.set p v') := by
          rw [eqv_val]
          exact decide_eq_decide.mpr ⟨fun z => by cases z; rfl, fun z => by cases z; rfl⟩
        rw [e]
        exact k
      | same a b n => exact ⟨_, rfl, .ref o', .ref (He.ga K "Put"), _, _, false, rfl, .own _, ty, x_kit_Same_Put T, false, rfl, iteF k⟩
      | there x n => exact ⟨_, rfl, .ref o', .ref (He.ga K "Put"), _, _, false, rfl, .own _, ty, x_kit_There_Put T, false, rfl, iteF k⟩
      | call x v n => exact ⟨_, rfl, .ref o', .ref (He.ga K "Put"), _, _, false, rfl, .own _, ty, x_kit_Call_Put T, false, rfl, iteF k⟩
      | fin => exact ⟨_, rfl, .ref o', .ref (He.ga K "Put"), _, _, false, rfl, .own _, ty, x_kit_End_Put T, false, rfl, iteF k⟩
    · exact ⟨_, rfl, .str z, .ref (He.ga K "Put"), _, _, false, rfl, .own _, .base (.str z), x_kits_Put T, false, rfl, iteF k⟩
theorem ok_Same_eq (T : Tx K mg sa sx) : MCal P w K mg base 1 (He.ga K "Same") "__eq__" (spEq K (fun r => ∃ a b n, r = Rw.same a b n)) := by
  obtain ⟨fd, F⟩ := f_Same_eq T
  refine ⟨c_Same T, _, fd, ["self", "other"], fnok F sc_Same_eq (fun vs H Q E h => ?_) (fun cdv A outer s H vs Q E hr h => ?_), F.bindsN fun _ _ _ _ _ _ us hl => match us, hl with | [_, _], _ => rfl, me_Same_eq T⟩
  · obtain ⟨o, r, y, _, rfl, _⟩ := h; rfl
  · obtain ⟨o, _, y, ⟨a, b, n, rfl⟩, rfl, m, k⟩ := h
    refine ⟨_, (pss_one (ps_ret (pe_and (pe_callB (id := "isinstance") (r := rIsi K) call_isi rfl (n_isinstance T) (by decide +kernel) (pa_cons (pv 1) (pa_cons (pe_glob (v := .ref _) rfl (g_Same T) rfl) pa_nil))) (pe_and (pe_cmpR (op_eqD hr.units) (pe_fld (pv 0) rfl) (pe_fld (pv 1) rfl) (nomark _)) (pe_and (pe_cmpR (op_eqD hr.units) (pe_fld (pv 0) rfl) (pe_fld (pv 1) rfl) (nomark _)) (pe_one (pe_cmpR op_eq (pe_fld (pv 0) rfl) (pe_fld (pv 1) rfl) (nomark _)))))))), ?_⟩
    rcases k with ⟨o', r', rfl, m', k⟩ | ⟨z, rfl, k⟩
    · have ty := ma_ty T m'
      cases r' with
      | tell v => exact ⟨_, rfl, .ref o', .ref (He.ga K "Same"), _, _, false, rfl, .own _, ty, x_kit_Tell_Same T, false, rfl, iteF k⟩
      | set p v => exact ⟨_, rfl, .ref o', .ref (He.ga K "Same"), _, _, false, rfl, .own _, ty, x_kit_Put_Same T, false, rfl, iteF k⟩
      | same a' b' n' =>
        obtain ⟨t, u, dx, ha, hb, hn, ho⟩ := m
        obtain ⟨t', u', dx', ha', hb', hn', ho'⟩ := m'
        refine ⟨_, rfl, .ref o', .ref (He.ga K "Same"), _, _, true, rfl, .own _, ty, x_kit_Same_Same T, true, rfl, iteT ?_⟩
        refine ⟨_, rfl, o, _, dx, _, _, rfl, ho, c_Same T, na_Same_left T, (fl2 (by decide +kernel) (fl2 (by decide +kernel) fl1)), _, rfl, o', _, dx', _, _, rfl, ho', c_Same T, na_Same_left T, (fl2 (by decide +kernel) (fl2 (by decide +kernel) fl1)), .tuple a.ds, .tuple a'.ds, va_dp ha, va_dp ha', Val.shp ha.1, Val.shp ha'.1, _, rfl, ?_⟩
        by_cases c : a = a'
        rotate_left
        · have e : decide (Rw.same a b n = Rw.same a' b' n') = false := decide_eq_false (fun z => c (by cases z; rfl))
          rw [e] at k
          exact cndV (fun z => absurd z c) (fun _ => k)
        refine cndV (fun _ => ?_) (fun z => absurd c z)
        subst c
        refine ⟨_, rfl, o, _, dx, _, _, rfl, ho, c_Same T, na_Same_right T, (fl2 (by decide +kernel) fl1), _, rfl, o', _, dx', _, _, rfl, ho', c_Same T, na_Same_right T, (fl2 (by decide +kernel) fl1), .tuple b.ds, .tuple b'.ds, va_dp hb, va_dp hb', Val.shp hb.1, Val.shp hb'.1, _, rfl, ?_⟩
        by_cases c : b = b'
        rotate_left
        · have e : decide (Rw.same a b n = Rw.same a b' n') = false := decide_eq_false (fun z => c (by cases z; rfl))
          rw [e] at k
          exact cndV (fun z => absurd z c) (fun _ => k)
        refine cndV (fun _ => ?_) (fun z => absurd c z)
        subst c
        refine ⟨_, rfl, o, _, dx, _, _, rfl, ho, c_Same T, na_Same_skip T, fl1, _, rfl, o', _, dx', _, _, rfl, ho', c_Same T, na_Same_skip T, fl1, rfl, ?_⟩
        show Q (.bl (decide (V.int n = V.int n'))) H
        have e : (decide (V.int n = V.int n')) = decide (Rw.same a b n = Rw.same a b n') := by
          exact decide_eq_decide.mpr ⟨fun z => by cases z; rfl, fun z => by cases z; rfl⟩
        rw [e]
        exact k
      | there x n => exact ⟨_, rfl, .ref o', .ref (He.ga K "Same"), _, _, false, rfl, .own _, ty, x_kit_There_Same T, false, rfl, iteF k⟩
      | call x v n => exact ⟨_, rfl, .ref o', .ref (He.ga K "Same"), _, _, false, rfl, .own _, ty, x_kit_Call_Same T, false, rfl, iteF k⟩
      | fin => exact ⟨_, rfl, .ref o', .ref (He.ga K "Same"), _, _, false, rfl, .own _, ty, x_kit_End_Same T, false, rfl, iteF k⟩
    · exact ⟨_, rfl, .str z, .ref (He.ga K "Same"), _, _, false, rfl, .own _, .base (.str z), x_kits_Same T, false, rfl, iteF k⟩
theorem ok_There_eq (T : Tx K mg sa sx) : MCal P w K mg base 1 (He.ga K "There") "__eq__" (spEq K (fun r => ∃ x n, r = Rw.there x n)) := by
  obtain ⟨fd, F⟩ := f_There_eq T
  refine ⟨c_There T, _, fd, ["self", "other"], fnok F sc_There_eq (fun vs H Q E h => ?_) (fun cdv A outer s H vs Q E hr h => ?_), F.bindsN fun _ _ _ _ _ _ us hl => match us, hl with | [_, _], _ => rfl, me_There_eq T⟩
  · obtain ⟨o, r, y, _, rfl, _⟩ := h; rfl
  · obtain ⟨o, _, y, ⟨x, n, rfl⟩, rfl, m, k⟩ := h
    refine ⟨_, (pss_one (ps_ret (pe_and (pe_callB (id := "isinstance") (r := rIsi K) call_isi rfl (n_isinstance T) (by decide +kernel) (pa_cons (pv 1) (pa_cons (pe_glob (v := .ref _) rfl (g_There T) rfl) pa_nil))) (pe_and (pe_cmpR op_eq (pe_fld (pv 0) rfl) (pe_fld (pv 1) rfl) (nomark _)) (pe_one (pe_cmpR op_eq (pe_fld (pv 0) rfl) (pe_fld (pv 1) rfl) (nomark _))))))), ?_⟩
    rcases k with ⟨o', r', rfl, m', k⟩ | ⟨z, rfl, k⟩
    · have ty := ma_ty T m'
      cases r' with
      | tell v => exact ⟨_, rfl, .ref o', .ref (He.ga K "There"), _, _, false, rfl, .own _, ty, x_kit_Tell_There T, false, rfl, iteF k⟩
      | set p v => exact ⟨_, rfl, .ref o', .ref (He.ga K "There"), _, _, false, rfl, .own _, ty, x_kit_Put_There T, false, rfl, iteF k⟩
      | same a b n => exact ⟨_, rfl, .ref o', .ref (He.ga K "There"), _, _, false, rfl, .own _, ty, x_kit_Same_There T, false, rfl, iteF k⟩
      | there x' n' =>
        obtain ⟨dx, hx, hn, ho⟩ := m
        obtain ⟨dx', hx', hn', ho'⟩ := m'
        refine ⟨_, rfl, .ref o', .ref (He.ga K "There"), _, _, true, rfl, .own _, ty, x_kit_There_There T, true, rfl, iteT ?_⟩
        refine ⟨_, rfl, o, _, dx, _, _, rfl, ho, c_There T, na_There_name T, (fl2 (by decide +kernel) fl1), _, rfl, o', _, dx', _, _, rfl, ho', c_There T, na_There_name T, (fl2 (by decide +kernel) fl1), rfl, _, rfl, ?_⟩
        by_cases c : x = x'
        rotate_left
        · have e : decide (Rw.there x n = Rw.there x' n') = false := decide_eq_false (fun z => c (by cases z; rfl))
          rw [e] at k
          exact tF (by intro z; exact c (by cases z; rfl)) k
        refine tT (by rw [c]) ?_
        subst c
        refine ⟨_, rfl, o, _, dx, _, _, rfl, ho, c_There T, na_There_skip T, fl1, _, rfl, o', _, dx', _, _, rfl, ho', c_There T, na_There_skip T, fl1, rfl, ?_⟩
        show Q (.bl (decide (V.int n = V.int n'))) H
        have e : (decide (V.int n = V.int n')) = decide (Rw.there x n = Rw.there x n') := by
          exact decide_eq_decide.mpr ⟨fun z => by cases z; rfl, fun z => by cases z; rfl⟩
        rw [e]
        exact k
      | call x v n => exact ⟨_, rfl, .ref o', .ref (He.ga K "There"), _, _, false, rfl, .own _, ty, x_kit_Call_There T, false, rfl, iteF k⟩
      | fin => exact ⟨_, rfl, .ref o', .ref (He.ga K "There"), _, _, false, rfl, .own _, ty, x_kit_End_There T, false, rfl, iteF k⟩
    · exact ⟨_, rfl, .str z, .ref (He.ga K "There"), _, _, false, rfl, .own _, .base (.str z), x_kits_There T, false, rfl, iteF k⟩
theorem ok_Call_eq (T : Tx K mg sa sx) : MCal P w K mg base 1 (He.ga K "Call") "__eq__" (spEq K (fun r => ∃ x v n, r = Rw.call x v n)) := by
  obtain ⟨fd, F⟩ := f_Call_eq T
  refine ⟨c_Call T, _, fd, ["self", "other"], fnok F sc_Call_eq (fun vs H Q E h => ?_) (fun cdv A outer s H vs Q E hr h => ?_), F.bindsN fun _ _ _ _ _ _ us hl => match us, hl with | [_, _], _ => rfl, me_Call_eq T⟩
  · obtain ⟨o, r, y, _, rfl, _⟩ := h; rfl
  · obtain ⟨o, _, y, ⟨x, v, n, rfl⟩, rfl, m, k⟩ := h
    refine ⟨_, (pss_one (ps_ret (pe_and (pe_callB (id := "isinstance") (r := rIsi K) call_isi rfl (n_isinstance T) (by decide +kernel) (pa_cons (pv 1) (pa_cons (pe_glob (v := .ref _) rfl (g_Call T) rfl) pa_nil))) (pe_and (pe_cmpR op_eq (pe_fld (pv 0) rfl) (pe_fld (pv 1) rfl) (nomark _)) (pe_and (pe_cmpR (op_eqD hr.units) (pe_fld (pv 0) rfl) (pe_fld (pv 1) rfl) (nomark _)) (pe_one (pe_cmpR op_eq (pe_fld (pv 0) rfl) (pe_fld (pv 1) rfl) (nomark _)))))))), ?_⟩
    rcases k with ⟨o', r', rfl, m', k⟩ | ⟨z, rfl, k⟩
    · have ty := ma_ty T m'
      cases r' with
      | tell v => exact ⟨_, rfl, .ref o', .ref (He.ga K "Call"), _, _, false, rfl, .own _, ty, x_kit_Tell_Call T, false, rfl, iteF k⟩
      | set p v => exact ⟨_, rfl, .ref o', .ref (He.ga K "Call"), _, _, false, rfl, .own _, ty, x_kit_Put_Call T, false, rfl, iteF k⟩
      | same a b n => exact ⟨_, rfl, .ref o', .ref (He.ga K "Call"), _, _, false, rfl, .own _, ty, x_kit_Same_Call T, false, rfl, iteF k⟩
      | there x n => exact ⟨_, rfl, .ref o', .ref (He.ga K "Call"), _, _, false, rfl, .own _, ty, x_kit_There_Call T, false, rfl, iteF k⟩
      | call x' v' n' =>
        obtain ⟨u, dx, hx, hv, hn, ho⟩ := m
        obtain ⟨u', dx', hx', hv', hn', ho'⟩ := m'
        refine ⟨_, rfl, .ref o', .ref (He.ga K "Call"), _, _, true, rfl, .own _, ty, x_kit_Call_Call T, true, rfl, iteT ?_⟩
        refine ⟨_, rfl, o, _, dx, _, _, rfl, ho, c_Call T, na_Call_name T, (fl2 (by decide +kernel) (fl2 (by decide +kernel) fl1)), _, rfl, o', _, dx', _, _, rfl, ho', c_Call T, na_Call_name T, (fl2 (by decide +kernel) (fl2 (by decide +kernel) fl1)), rfl, _, rfl, ?_⟩
        by_cases c : x = x'
        rotate_left
        · have e : decide (Rw.call x v n = Rw.call x' v' n') = false := decide_eq_false (fun z => c (by cases z; rfl))
          rw [e] at k
          exact tF (by intro z; exact c (by cases z; rfl)) k
        refine tT (by rw [c]) ?_
        subst c
        refine ⟨_, rfl, o, _, dx, _, _, rfl, ho, c_Call T, na_Call_value T, (fl2 (by decide +kernel) fl1), _, rfl, o', _, dx', _, _, rfl, ho', c_Call T, na_Call_value T, (fl2 (by decide +kernel) fl1), .tuple v.ds, .tuple v'.ds, va_dp hv, va_dp hv', Val.shp hv.1, Val.shp hv'.1, _, rfl, ?_⟩
        by_cases c : v = v'
        rotate_left
        · have e : decide (Rw.call x v n = Rw.call x v' n') = false := decide_eq_false (fun z => c (by cases z; rfl))
          rw [e] at k
          exact cndV (fun z => absurd z c) (fun _ => k)
        refine cndV (fun _ => ?_) (fun z => absurd c z)
        subst c
        refine ⟨_, rfl, o, _, dx, _, _, rfl, ho, c_Call T, na_Call_tag T, fl1, _, rfl, o', _, dx', _, _, rfl, ho', c_Call T, na_Call_tag T, fl1, rfl, ?_⟩
        show Q (.bl (decide (V.int n = V.int n'))) H
        have e : (decide (V.int n = V.int n')) = decide (Rw.call x v n = Rw.call x v n') := by
          exact decide_eq_decide.mpr ⟨fun z => by cases z; rfl, fun z => by cases z; rfl⟩
        rw [e]
        exact k
      | fin => exact ⟨_, rfl, .ref o', .ref (He.ga K "Call"), _, _, false, rfl, .own _, ty, x_kit_End_Call T, false, rfl, iteF k⟩
    · exact ⟨_, rfl, .str z, .ref (He.ga K "Call"), _, _, false, rfl, .own _, .base (.str z), x_kits_Call T, false, rfl, iteF k⟩
theorem ok_End_eq (T : Tx K mg sa sx) : MCal P w K mg base 1 (He.ga K "End") "__eq__" (spEq K (fun r => r = Rw.fin)) := by
  obtain ⟨fd, F⟩ := f_End_eq T
  refine ⟨c_End T, _, fd, ["self", "other"], fnok F sc_End_eq (fun vs H Q E h => ?_) (fun cdv A outer s H vs Q E hr h => ?_), F.bindsN fun _ _ _ _ _ _ us hl => match us, hl with | [_, _], _ => rfl, me_End_eq T⟩
  · obtain ⟨o, r, y, _, rfl, _⟩ := h; rfl
  · obtain ⟨o, _, y, rfl, rfl, m, k⟩ := h
    refine ⟨_, (pss_one (ps_ret (pe_callB (id := "isinstance") (r := rIsi K) call_isi rfl (n_isinstance T) (by decide +kernel) (pa_cons (pv 1) (pa_cons (pe_glob (v := .ref _) rfl (g_End T) rfl) pa_nil))))), ?_⟩
    rcases k with ⟨o', r', rfl, m', k⟩ | ⟨z, rfl, k⟩
    · have ty := ma_ty T m'
      cases r' with
      | tell v => exact ⟨_, rfl, .ref o', .ref (He.ga K "End"), _, _, false, rfl, .own _, ty, x_kit_Tell_End T, k⟩
      | set p v => exact ⟨_, rfl, .ref o', .ref (He.ga K "End"), _, _, false, rfl, .own _, ty, x_kit_Put_End T, k⟩
      | same a b n => exact ⟨_, rfl, .ref o', .ref (He.ga K "End"), _, _, false, rfl, .own _, ty, x_kit_Same_End T, k⟩
      | there x n => exact ⟨_, rfl, .ref o', .ref (He.ga K "End"), _, _, false, rfl, .own _, ty, x_kit_There_End T, k⟩
      | call x v n => exact ⟨_, rfl, .ref o', .ref (He.ga K "End"), _, _, false, rfl, .own _, ty, x_kit_Call_End T, k⟩
      | fin =>
        exact ⟨_, rfl, .ref o', .ref (He.ga K "End"), _, _, true, rfl, .own _, ty, x_kit_End_End T, k⟩
    · exact ⟨_, rfl, .str z, .ref (He.ga K "End"), _, _, false, rfl, .own _, .base (.str z), x_kits_End T, k⟩
end
end K00
namespace K00
open PySem PySem.Spec PyProof.Rows L2 Cm
/-! ### drawing -/
def PoolAt (K : PySem.W.Frag) (sa : Addr) (sx : List Int) (H : Hp) (p : Addr) : Prop :=
  ∃ (i b s : Int), H p = some (.lst [V.ref sa, V.int i, V.int b, V.int s]) ∧ (sa ≠ p ∨ ∀ H', SqL K H' sa (sx.map V.int)) ∧ SqL K H sa (sx.map V.int) ∧ 0 ≤ i ∧ 0 ≤ b ∧ 0 ≤ s ∧ s < 2147483647
def spDraw (K : PySem.W.Frag) (sa : Addr) (sx : List Int) : Sp := fun vs H Q _ => ∃ p m, vs = [.ref p, .int m] ∧ 0 < m ∧ IntOk m ∧ PoolAt K sa sx H p ∧ ∀ k H', 0 ≤ k → k < m → Kp p H H' → PoolAt K sa sx H' p → Q (.int k) H'
section
variable {P : Program} {w : World} {K : PySem.W.Frag} {mg : Str → Option Value} {base : Heap} {sa : Addr} {sx : List Int}
theorem wd {m : Int} (h0 : 0 < m) (h : IntOk m) : CDivW 0 m := wide_div h0 (b := 40) (Nat.lt_of_le_of_lt h (by decide)) (by decide) (by decide)
theorem ok_l_draw (T : Tx K mg sa sx) : Cal P w K mg base 1 "_law_draw" (spDraw K sa sx) := by
  obtain ⟨fd, F⟩ := f_l_draw T
  refine ⟨_, fd, ["_law_pool", "_law_many"], fnok F sc_l_draw (fun vs H Q E h => ?_) (fun cdv A outer s H vs Q E hr h => ?_), F.bindsN fun _ _ _ _ _ _ us hl => match us, hl with | [_, _], _ => rfl, g__law_draw T, F.kp⟩
  · obtain ⟨p, m, rfl, _⟩ := h; rfl
  · obtain ⟨p, m, rfl, m0, mo, ⟨i, b, s, hp, na, hS, i0, b0, s0, s1⟩, k⟩ := h
    refine ⟨_, (pss_cons (ps_if (pt_cmpR op_lt (pe_ix ix_list (pv 0) pe_int (fun _ _ => rfl)) pe_int (nomark _)) (pss_cons (ps_set (i := 2) sc_l_draw.nd rfl (by first | exact Or.inl rfl | exact Or.inr rfl) pe_int)
      (pss_cons (ps_if (pt_cmpR op_lt (pe_ix ix_list (pv 0) pe_int (fun _ _ => rfl)) (pe_callB (id := "len") call_len_seq rfl (n_len T) (by decide +kernel) (pa_cons (pe_ix ix_list (pv 0) pe_int (fun _ _ => rfl)) pa_nil)) (nomark _)) (pss_one (ps_set (i := 2) sc_l_draw.nd rfl (by first | exact Or.inl rfl | exact Or.inr rfl) (pe_ix ix_list (pe_ix ix_list (pv 0) pe_int (fun _ _ => rfl)) (pe_ix ix_list (pv 0) pe_int (fun _ _ => rfl)) (fun _ _ => rfl)))) pss_nil)
      (pss_cons (ps_asg (pe_op op_add (pe_ix ix_list (pv 0) pe_int (fun _ _ => rfl)) pe_int) (pg_sub (pv 0) pe_int set_list))
      (pss_cons (ps_if (pt_cmpR op_lt (pv 2) (pe_op op_pow pe_int pe_int) (nomark _)) (pss_cons (ps_asg (pe_op op_mod (pe_callTy (T := "int") call_int1 rfl (n_int T) (by decide +kernel) (pa_cons (pe_op op_add (pe_op op_add (pe_op op_add (pe_op op_mul (pe_ix ix_list (pv 0) pe_int (fun _ _ => rfl)) pe_int) (pe_op op_mul (pv 2) pe_int)) (pe_op op_mul (pe_ix ix_list (pv 0) pe_int (fun _ _ => rfl)) pe_int)) pe_int) pa_nil)) pe_int) (pg_sub (pv 0) pe_int set_list))
        (pss_one (ps_ret (pe_op op_mod (pe_callTy (T := "int") call_int1 rfl (n_int T) (by decide +kernel) (pa_cons (pe_op op_fdivW (pe_ix ix_list (pv 0) pe_int (fun _ _ => rfl)) pe_int) pa_nil)) (pv 1))))) pss_nil)
      (pss_one (ps_asg (pe_callTy (T := "int") call_int1 rfl (n_int T) (by decide +kernel) (pa_cons (pv 2) pa_nil)) (pg_sub (pv 0) pe_int set_list))))))) pss_nil)
    (pss_cons (ps_set (i := 3) sc_l_draw.nd rfl (by first | exact Or.inl rfl | exact Or.inr rfl) (pe_op op_mod (pe_callTy (T := "int") call_int1 rfl (n_int T) (by decide +kernel) (pa_cons (pe_ix ix_list (pv 0) pe_int (fun _ _ => rfl)) pa_nil)) (pv 1)))
    (pss_cons (ps_asg (pe_op op_fdivW (pe_callTy (T := "int") call_int1 rfl (n_int T) (by decide +kernel) (pa_cons (pe_ix ix_list (pv 0) pe_int (fun _ _ => rfl)) pa_nil)) (pv 1)) (pg_sub (pv 0) pe_int set_list))
    (pss_one (ps_ret (pv 3)))))), ?_⟩
    have ix : ∀ {H' : Hp} {xs : List V}, H' p = some (.lst xs) → SqL K H' p xs := fun h => SqL.of h
    have sl : ∀ {H' : Hp}, Kp p H H' → SqL K H' sa (sx.map V.int) := fun k => na.elim (fun n => k.sl n hS) (fun z => z _)
    refine ⟨_, rfl, p, _, 2, _, rfl, rfl, ix hp, rfl, _, _, rfl, rfl, _, rfl, dC (fun hb => ?_) (fun hb => ?_)⟩
    · -- cell = 0; the script's next number
      refine ⟨_, rfl, p, _, 1, _, rfl, rfl, ix hp, rfl, _, rfl, p, _, 0, _, rfl, rfl, ix hp, rfl, sa, _, rfl, .inl hS, _, _, rfl, rfl, _, rfl, dC (fun hi => ?_) (fun hi => ?_)⟩
      · have hi2 : i.toNat < sx.length := by rw [List.length_map] at hi; omega
        refine ⟨_, rfl, p, _, 0, _, rfl, rfl, ix hp, rfl, _, rfl, p, _, 1, _, rfl, rfl, ix hp, rfl, sa, _, i, V.int sx[i.toNat], rfl, rfl, hS, at_of (j := i.toNat) (by omega) (by simp [hi2]), ?_⟩
        refine ⟨_, rfl, p, _, 1, _, rfl, rfl, ix hp, rfl, _, _, rfl, rfl, _, rfl, p, _, 1, 1, rfl, rfl, hp, rfl, ?_⟩
        refine ⟨_, rfl, _, _, rfl, rfl, ⟨by decide, by decide, by decide⟩, _, _, rfl, rfl, _, rfl, dC (fun hc => ?_) (fun hc => ?_)⟩
        · refine ⟨_, rfl, p, _, 3, _, rfl, rfl, ix upd_same, rfl, _, _, rfl, rfl, .inr ⟨by decide, by decide⟩, _, rfl, _, _, rfl, rfl, .inr ⟨by decide, by decide⟩, _, _, rfl, rfl,
            _, rfl, p, _, 1, _, rfl, rfl, ix upd_same, rfl, _, _, rfl, rfl, .inr ⟨by decide, by decide⟩, _, _, rfl, rfl, _, _, rfl, rfl, .inl ⟨_, rfl, _, _, rfl, rfl, (by show (0 : Int) < 2147483647; decide), _, rfl, p, _, 3, 3, rfl, rfl, upd_same, rfl, ?_⟩⟩
          refine ⟨_, rfl, p, _, 3, _, rfl, rfl, ix upd_same, rfl, _, _, rfl, rfl, ⟨by decide, by decide +kernel⟩, .inl ⟨_, rfl, _, rfl, _, _, rfl, rfl, m0, ?_⟩⟩
          refine k _ _ (Int.emod_nonneg _ (by omega)) (Int.emod_lt_of_pos _ m0) (Kp.refl.at.at) ⟨_, b, _, upd_same, na, sl Kp.refl.at.at, (by omega : (0 : Int) ≤ i + 1), b0, Int.emod_nonneg _ (by decide), Int.emod_lt_of_pos _ (by decide)⟩
        · refine ⟨_, rfl, .inl ⟨_, rfl, _, rfl, p, _, 2, 2, rfl, rfl, upd_same, rfl, ?_⟩⟩
          have hc0 : (0 : Int) ≤ sx[i.toNat] := by
            have : ((10 : Int) ^ (18 : Int).toNat) = 1000000000000000000 := by decide
            omega
          refine ⟨_, rfl, p, _, 2, _, rfl, rfl, ix upd_same, rfl, .inl ⟨_, rfl, _, rfl, _, _, rfl, rfl, m0, ?_⟩⟩
          refine ⟨_, rfl, p, _, 2, _, rfl, rfl, ix upd_same, rfl, .inl ⟨_, rfl, _, rfl, _, _, rfl, rfl, wd m0 mo, _, rfl, p, _, 2, 2, rfl, rfl, upd_same, rfl, ?_⟩⟩
          refine ⟨_, rfl, ?_⟩
          exact k _ _ (Int.emod_nonneg _ (by omega)) (Int.emod_lt_of_pos _ m0) (Kp.refl.at.at.at) ⟨_, _, s, upd_same, na, sl Kp.refl.at.at.at, (by omega : (0 : Int) ≤ i + 1), Int.ediv_nonneg hc0 (by omega), s0, s1⟩
      · refine ⟨_, rfl, p, _, 1, _, rfl, rfl, ix hp, rfl, _, _, rfl, rfl, _, rfl, p, _, 1, 1, rfl, rfl, hp, rfl, ?_⟩
        refine ⟨_, rfl, _, _, rfl, rfl, ⟨by decide, by decide, by decide⟩, _, _, rfl, rfl, _, rfl, dC (fun hc => ?_) (fun hc => ?_)⟩
        · refine ⟨_, rfl, p, _, 3, _, rfl, rfl, ix upd_same, rfl, _, _, rfl, rfl, .inr ⟨by decide, by decide⟩, _, rfl, _, _, rfl, rfl, .inr ⟨by decide, by decide⟩, _, _, rfl, rfl,
            _, rfl, p, _, 1, _, rfl, rfl, ix upd_same, rfl, _, _, rfl, rfl, .inr ⟨by decide, by decide⟩, _, _, rfl, rfl, _, _, rfl, rfl, .inl ⟨_, rfl, _, _, rfl, rfl, (by show (0 : Int) < 2147483647; decide), _, rfl, p, _, 3, 3, rfl, rfl, upd_same, rfl, ?_⟩⟩
          refine ⟨_, rfl, p, _, 3, _, rfl, rfl, ix upd_same, rfl, _, _, rfl, rfl, ⟨by decide, by decide +kernel⟩, .inl ⟨_, rfl, _, rfl, _, _, rfl, rfl, m0, ?_⟩⟩
          exact k _ _ (Int.emod_nonneg _ (by omega)) (Int.emod_lt_of_pos _ m0) (Kp.refl.at.at) ⟨_, b, _, upd_same, na, sl Kp.refl.at.at, (by omega : (0 : Int) ≤ i + 1), b0, Int.emod_nonneg _ (by decide), Int.emod_lt_of_pos _ (by decide)⟩
        · exact absurd (by decide) hc
    · refine ⟨_, rfl, p, _, 2, _, rfl, rfl, ix hp, rfl, .inl ⟨_, rfl, _, rfl, _, _, rfl, rfl, m0, ?_⟩⟩
      refine ⟨_, rfl, p, _, 2, _, rfl, rfl, ix hp, rfl, .inl ⟨_, rfl, _, rfl, _, _, rfl, rfl, wd m0 mo, _, rfl, p, _, 2, 2, rfl, rfl, hp, rfl, ?_⟩⟩
      refine ⟨_, rfl, ?_⟩
      exact k _ _ (Int.emod_nonneg _ (by omega)) (Int.emod_lt_of_pos _ m0) Kp.refl.at ⟨_, _, s, upd_same, na, sl Kp.refl.at, i0, Int.ediv_nonneg b0 (by omega), s0, s1⟩
end
end K00
namespace K00
open PySem PySem.Spec PyProof.Rows L2 Cm
/-! ### names -/
theorem chr_at {z : Str} {k : Int} (h0 : 0 ≤ k) (h1 : k < (z.length : Int)) : ∃ c, atI z.cps.toList k = some c ∧ c ∈ z.cps.toList := by
  have h2 : k.toNat < z.cps.toList.length := by
    have : z.cps.toList.length = z.length := by simp [Str.length]
    omega
  refine ⟨z.cps.toList[k.toNat], ?_, List.getElem_mem h2⟩
  have e : k = ((k.toNat : Nat) : Int) := by omega
  exact (congrArg (fun j => atI z.cps.toList j) e).trans (atI_nat (List.getElem?_eq_getElem h2))
theorem all_app (a b : Str) : (a ++ b).cps.all (· < 128) = (a.cps.all (· < 128) && b.cps.all (· < 128)) := by
  show (a.cps ++ b.cps).all (· < 128) = _
  rw [Array.all_append]
theorem all_one {z : Str} {c : Nat} (h : z.cps.all (· < 128) = true) (hc : c ∈ z.cps.toList) : (⟨#[c]⟩ : Str).cps.all (· < 128) = true := by
  rw [← Array.all_toList, List.all_eq_true] at h
  rw [← Array.all_toList, List.all_eq_true]
  intro d hd
  have e : d = c := by simpa using hd
  rw [e]
  exact h c hc
theorem nt_nm {k : Int} (h0 : 0 ≤ k) (h1 : k < 10) : (nt k).cps.all (· < 128) = true := by
  have h : k = 0 ∨ k = 1 ∨ k = 2 ∨ k = 3 ∨ k = 4 ∨ k = 5 ∨ k = 6 ∨ k = 7 ∨ k = 8 ∨ k = 9 := by omega
  rcases h with rfl | rfl | rfl | rfl | rfl | rfl | rfl | rfl | rfl | rfl <;> decide +kernel
theorem nt_l1 {k : Int} (h0 : 0 ≤ k) (h1 : k < 10) : (nt k).length = 1 := by
  have h : k = 0 ∨ k = 1 ∨ k = 2 ∨ k = 3 ∨ k = 4 ∨ k = 5 ∨ k = 6 ∨ k = 7 ∨ k = 8 ∨ k = 9 := by omega
  rcases h with rfl | rfl | rfl | rfl | rfl | rfl | rfl | rfl | rfl | rfl <;> decide +kernel
def spNum (K : PySem.W.Frag) (sa : Addr) (sx : List Int) : Sp := fun vs H Q _ => ∃ p, vs = [.ref p] ∧ PoolAt K sa sx H p ∧ ∀ n H', n.natAbs ≤ 1000000000 → Kp p H H' → PoolAt K sa sx H' p → Q (.int n) H'
def spName (K : PySem.W.Frag) (sa : Addr) (sx : List Int) : Sp := fun vs H Q _ => ∃ p k, vs = [.ref p, .int k] ∧ 0 ≤ k ∧ k < 10 ∧ PoolAt K sa sx H p ∧ ∀ x H', NmOk x → Kp p H H' → PoolAt K sa sx H' p → Q (.str x) H'
section
variable {P : Program} {w : World} {K : PySem.W.Frag} {mg : Str → Option Value} {base : Heap} {sa : Addr} {sx : List Int}
theorem io {m : Int} (h : m.natAbs ≤ 4000000000) : IntOk m := h
theorem ok_l_number (T : Tx K mg sa sx) : Cal P w K mg base 2 "_law_number" (spNum K sa sx) := by
  obtain ⟨fd, F⟩ := f_l_number T
  refine ⟨_, fd, ["_law_pool"], fnok F sc_l_number (fun vs H Q E h => ?_) (fun cdv A outer s H vs Q E hr h => ?_), F.bindsN fun _ _ _ _ _ _ us hl => match us, hl with | [_], _ => rfl, g__law_number T, F.kp⟩
  · obtain ⟨p, rfl, _⟩ := h; rfl
  · obtain ⟨p, rfl, hP, k⟩ := h
    refine ⟨_, (pss_cons (ps_set (i := 1) sc_l_number.nd rfl (by first | exact Or.inl rfl | exact Or.inr rfl) (pe_cal (ok_l_draw T) hr (by decide) (pa_cons (pv 0) (pa_cons pe_int pa_nil))))
    (pss_cons (ps_if (pt_cmpR op_eq (pv 1) pe_int (nomark _)) (pss_one (ps_ret (pe_op op_sub (pe_cal (ok_l_draw T) hr (by decide) (pa_cons (pv 0) (pa_cons pe_int pa_nil))) pe_int))) pss_nil)
    (pss_cons (ps_if (pt_cmpR op_eq (pv 1) pe_int (nomark _)) (pss_one (ps_ret (pe_op op_sub pe_int (pe_cal (ok_l_draw T) hr (by decide) (pa_cons (pv 0) (pa_cons pe_int pa_nil)))))) pss_nil)
    (pss_cons (ps_if (pt_cmpR op_eq (pv 1) pe_int (nomark _)) (pss_one (ps_ret (pe_op op_sub (pe_cal (ok_l_draw T) hr (by decide) (pa_cons (pv 0) (pa_cons pe_int pa_nil))) pe_int))) pss_nil)
    (pss_one (ps_ret (pe_cal (ok_l_draw T) hr (by decide) (pa_cons (pv 0) (pa_cons pe_int pa_nil))))))))), ?_⟩
    refine ⟨_, rfl, p, 6, rfl, by decide, io (by decide), hP, fun j H1 j0 j6 k1 p1 => ?_⟩
    refine ⟨_, rfl, rfl, _, rfl, dC (fun _ => ?_) (fun _ => ?_)⟩
    · exact ⟨_, rfl, p, 1000, rfl, by decide, io (by decide), p1, fun i H2 i0 i1 k2 p2 => ⟨_, _, rfl, rfl, k _ _ (by omega) (k1.trans k2) p2⟩⟩
    refine ⟨_, rfl, rfl, _, rfl, dC (fun _ => ?_) (fun _ => ?_)⟩
    · exact ⟨_, rfl, p, 1000000000, rfl, by decide, io (by decide), p1, fun i H2 i0 i1 k2 p2 => ⟨_, _, rfl, rfl, k _ _ (by omega) (k1.trans k2) p2⟩⟩
    refine ⟨_, rfl, rfl, _, rfl, dC (fun _ => ?_) (fun _ => ?_)⟩
    · exact ⟨_, rfl, p, 1999999999, rfl, by decide, io (by decide), p1, fun i H2 i0 i1 k2 p2 => ⟨_, _, rfl, rfl, k _ _ (by omega) (k1.trans k2) p2⟩⟩
    · exact ⟨_, rfl, p, 3, rfl, by decide, io (by decide), p1, fun i H2 i0 i1 k2 p2 => k _ _ (by omega) (k1.trans k2) p2⟩
theorem ok_l_name (T : Tx K mg sa sx) : Cal P w K mg base 2 "_law_name" (spName K sa sx) := by
  obtain ⟨fd, F⟩ := f_l_name T
  refine ⟨_, fd, ["_law_pool", "_law_k"], fnok F sc_l_name (fun vs H Q E h => ?_) (fun cdv A outer s H vs Q E hr h => ?_), F.bindsN fun _ _ _ _ _ _ us hl => match us, hl with | [_, _], _ => rfl, g__law_name T, F.kp⟩
  · obtain ⟨p, k, rfl, _⟩ := h; rfl
  · obtain ⟨p, n, rfl, n0, n1, hP, k⟩ := h
    refine ⟨_, (pss_cons (ps_set (i := 2) sc_l_name.nd rfl (by first | exact Or.inl rfl | exact Or.inr rfl) pe_str)
    (pss_cons (ps_set (i := 3) sc_l_name.nd rfl (by first | exact Or.inl rfl | exact Or.inr rfl) (pe_ix ix_str (pv 2) (pe_cal (ok_l_draw T) hr (by decide) (pa_cons (pv 0) (pa_cons pe_int pa_nil))) (fun _ _ => rfl)))
    (pss_cons (ps_for PassesOwn.never rfl (pi_range1 rfl (n_range T) (pa_cons (pe_cal (ok_l_draw T) hr (by decide) (pa_cons (pv 0) (pa_cons pe_int pa_nil))) pa_nil)) (pg_name (i := 4) sc_l_name.nd rfl (by first | exact Or.inl rfl | exact Or.inr rfl))
      (pss_one (ps_set (i := 3) sc_l_name.nd rfl (by first | exact Or.inl rfl | exact Or.inr rfl) (pe_op op_add_str (pv 3) (pe_ix ix_str (pe_op op_add_str (pv 2) pe_str) (pe_cal (ok_l_draw T) hr (by decide) (pa_cons (pv 0) (pa_cons pe_int pa_nil))) (fun _ _ => rfl))))))
    (pss_one (ps_ret (pe_op op_add_str (pv 3) (pe_callTy (T := "str") call_str_int rfl (n_str T) (by decide +kernel) (pa_cons (pv 1) pa_nil)))))))), ?_⟩
    have lL : (("abcdefghijklmnopqrstuvwxyz" : Str)).length = 26 := by decide +kernel
    have lA : (("abcdefghijklmnopqrstuvwxyz" : Str)).cps.all (· < 128) = true := by decide +kernel
    have dL : (("0123456789" : Str)).length = 10 := by decide +kernel
    have dA : (("0123456789" : Str)).cps.all (· < 128) = true := by decide +kernel
    have ldL : (("abcdefghijklmnopqrstuvwxyz" : Str) ++ ("0123456789" : Str)).length = 36 := by rw [app_len, lL, dL]
    have ldA : (("abcdefghijklmnopqrstuvwxyz" : Str) ++ ("0123456789" : Str)).cps.all (· < 128) = true := by rw [all_app, lA, dA]; rfl
    refine ⟨_, rfl, _, rfl, p, 26, rfl, by decide, io (by decide), hP, fun i H1 i0 i1 k1 p1 => ?_⟩
    obtain ⟨c, hc, cm⟩ := chr_at (z := "abcdefghijklmnopqrstuvwxyz") i0 (by rw [lL]; exact i1)
    refine ⟨_, _, c, rfl, rfl, sz1 (by rw [lL]; decide), hc, ?_⟩
    refine ⟨_, rfl, p, 4, rfl, by decide, io (by decide), p1, fun m H2 m0 m1 k2 p2 => ⟨m, rfl, by omega, by omega, ?_⟩⟩
    refine for_range (lo := 0) (n := m.toNat) (fun t σ H' => ∃ (x : Str) (v : Option V), σ = [some (.ref p), some (.int n), some (.str "abcdefghijklmnopqrstuvwxyz"), some (.str x), v] ∧ x.length = t + 1 ∧ x.cps.all (· < 128) = true ∧ Kp p H H' ∧ PoolAt K sa sx H' p)
      ⟨_, none, rfl, rfl, all_one lA cm, k1.trans k2, p2⟩ ?_ ?_
    · rintro t σ H' ht ⟨x, v, rfl, lx, ax, kk, pp⟩
      refine ⟨_, rfl, ⟨_, rfl, _, _, rfl, rfl, sz1 (by rw [lL, dL]; decide), _, rfl, p, 36, rfl, by decide, io (by decide), pp, fun j H3 j0 j1 k3 p3 => ?_⟩⟩
      obtain ⟨d, hd, dm⟩ := chr_at (z := ("abcdefghijklmnopqrstuvwxyz" : Str) ++ ("0123456789" : Str)) j0 (by rw [ldL]; exact j1)
      refine ⟨_, _, d, rfl, rfl, sz1 (by rw [ldL]; decide), hd, x, _, rfl, rfl, sz1 (by show x.length + 1 ≤ 100000; omega), ?_⟩
      exact ⟨_, _, rfl, by rw [app_len, lx]; rfl, by rw [all_app, ax, all_one ldA dm]; rfl, kk.trans k3, p3⟩
    · rintro σ H' ⟨x, v, rfl, lx, ax, kk, pp⟩
      refine ⟨_, rfl, _, rfl, n, rfl, (io (by omega)).log, x, nt n, rfl, rfl, sz1 (by rw [nt_l1 n0 n1, lx]; omega), ?_⟩
      exact k _ _ ⟨by rw [app_len, nt_l1 n0 n1, lx]; omega, by rw [all_app, ax, nt_nm n0 n1]; rfl⟩ kk pp
/-! ### values -/
theorem Kp.va {p t : Addr} {H H' : Hp} {v : Val} (k : Kp p H H') (hP : PoolAt K sa sx H p) (h : VA H t v) : VA H' t v := by
  obtain ⟨i, b, s, hp, _⟩ := hP
  exact ⟨h.1, k _ _ (ne_of h.2 hp (by intro z; cases z)) h.2⟩
def spVal (K : PySem.W.Frag) (sa : Addr) (sx : List Int) : Sp := fun vs H Q _ => ∃ p, vs = [.ref p] ∧ PoolAt K sa sx H p ∧ ∀ t v H', VA H' t v → Kp p H H' → PoolAt K sa sx H' p → Q (.ref t) H'
theorem pool_new {H : Hp} {p q : Addr} {o : HO} (hP : PoolAt K sa sx H p) (hq : H q = none) : PoolAt K sa sx (upd H q o) p := by
  obtain ⟨i, b, s, hp, na, hS, r⟩ := hP
  refine ⟨i, b, s, ?_, na, ?_, r⟩
  · rw [upd_ne (ne_of_none hp hq)]; exact hp
  · exact na.elim (fun n => Kp.sl (p := p) (Kp.refl.new hq) n hS) (fun z => z _)
/-- a new tuple of a value -/
theorem fin_val {H H1 : Hp} {p : Addr} {v : Val} {Q : VK} (ok : v.ok) (k1 : Kp p H H1) (p1 : PoolAt K sa sx H1 p) (k : ∀ t v H', VA H' t v → Kp p H H' → PoolAt K sa sx H' p → Q (.ref t) H') :
    ∀ t, H1 t = none → Q (.ref t) (upd H1 t (.tup v.vs)) := fun t ht => k t v _ ⟨ok, upd_same⟩ (k1.new ht) (pool_new p1 ht)
theorem ok_l_any_value (T : Tx K mg sa sx) : Cal P w K mg base 3 "_law_any_value" (spVal K sa sx) := by
  obtain ⟨fd, F⟩ := f_l_any_value T
  refine ⟨_, fd, ["_law_pool"], fnok F sc_l_any_value (fun vs H Q E h => ?_) (fun cdv A outer s H vs Q E hr h => ?_), F.bindsN fun _ _ _ _ _ _ us hl => match us, hl with | [_], _ => rfl, g__law_any_value T, F.kp⟩
  · obtain ⟨p, rfl, _⟩ := h; rfl
  · obtain ⟨p, rfl, hP, k⟩ := h
    refine ⟨_, (pss_cons (ps_set (i := 1) sc_l_any_value.nd rfl (by first | exact Or.inl rfl | exact Or.inr rfl) (pe_cal (ok_l_draw T) hr (by decide) (pa_cons (pv 0) (pa_cons pe_int pa_nil))))
    (pss_cons (ps_if (pt_cmpR op_eq (pv 1) pe_int (nomark _)) (pss_one (ps_ret (pe_tup (pa_cons pe_str (pa_cons (pe_cal (ok_l_number T) hr (by decide) (pa_cons (pv 0) pa_nil)) pa_nil))))) pss_nil)
    (pss_cons (ps_if (pt_cmpR op_eq (pv 1) pe_int (nomark _)) (pss_one (ps_ret (pe_tup (pa_cons pe_str pa_nil)))) pss_nil)
    (pss_cons (ps_if (pt_cmpR op_eq (pv 1) pe_int (nomark _)) (pss_one (ps_ret (pe_tup (pa_cons pe_str (pa_cons (pe_cal (ok_l_name T) hr (by decide) (pa_cons (pv 0) (pa_cons (pe_cal (ok_l_draw T) hr (by decide) (pa_cons (pv 0) (pa_cons pe_int pa_nil))) pa_nil))) (pa_cons (pe_cal (ok_l_draw T) hr (by decide) (pa_cons (pv 0) (pa_cons pe_int pa_nil))) pa_nil)))))) pss_nil)
    (pss_cons (ps_if (pt_cmpR op_eq (pv 1) pe_int (nomark _)) (pss_one (ps_ret (pe_tup (pa_cons pe_str (pa_cons (pe_cal (ok_l_name T) hr (by decide) (pa_cons (pv 0) (pa_cons (pe_cal (ok_l_draw T) hr (by decide) (pa_cons (pv 0) (pa_cons pe_int pa_nil))) pa_nil))) pa_nil))))) pss_nil)
    (pss_one (ps_ret (pe_tup (pa_cons pe_str (pa_cons (pe_cal (ok_l_name T) hr (by decide) (pa_cons (pv 0) (pa_cons (pe_cal (ok_l_draw T) hr (by decide) (pa_cons (pv 0) (pa_cons pe_int pa_nil))) pa_nil))) pa_nil)))))))))), ?_⟩
    refine ⟨_, rfl, p, 5, rfl, by decide, io (by decide), hP, fun j H1 j0 j6 k1 p1 => ?_⟩
    refine ⟨_, rfl, rfl, _, rfl, dC (fun _ => ?_) (fun _ => ?_)⟩
    · exact ⟨_, rfl, p, rfl, p1, fun n H2 hn k2 p2 => ⟨sz1 (by simp), fin_val (v := .num n) (io (by omega)) (k1.trans k2) p2 k⟩⟩
    refine ⟨_, rfl, rfl, _, rfl, dC (fun _ => ?_) (fun _ => ?_)⟩
    · exact ⟨sz1 (by simp), fin_val (v := .arg) trivial k1 p1 k⟩
    refine ⟨_, rfl, rfl, _, rfl, dC (fun _ => ?_) (fun _ => ?_)⟩
    · refine ⟨_, rfl, _, rfl, p, 10, rfl, by decide, io (by decide), p1, fun n H2 n0 n1 k2 p2 => ⟨p, n, rfl, n0, n1, p2, fun x H3 hx k3 p3 => ?_⟩⟩
      exact ⟨_, rfl, p, 10, rfl, by decide, io (by decide), p3, fun m H4 m0 m1 k4 p4 => ⟨sz1 (by simp), fin_val (v := .place x m) ⟨hx, io (by omega)⟩ (((k1.trans k2).trans k3).trans k4) p4 k⟩⟩
    refine ⟨_, rfl, rfl, _, rfl, dC (fun _ => ?_) (fun _ => ?_)⟩
    · exact ⟨_, rfl, _, rfl, p, 10, rfl, by decide, io (by decide), p1, fun n H2 n0 n1 k2 p2 => ⟨p, n, rfl, n0, n1, p2, fun x H3 hx k3 p3 => ⟨sz1 (by simp), fin_val (v := .own x) hx ((k1.trans k2).trans k3) p3 k⟩⟩⟩
    · exact ⟨_, rfl, _, rfl, p, 10, rfl, by decide, io (by decide), p1, fun n H2 n0 n1 k2 p2 => ⟨p, n, rfl, n0, n1, p2, fun x H3 hx k3 p3 => ⟨sz1 (by simp), fin_val (v := .named x) hx ((k1.trans k2).trans k3) p3 k⟩⟩⟩
end
end K00
namespace K00
open PySem PySem.Spec PyProof.Rows L2 Cm
local macro_rules | `(tactic| walk_at "sz") => `(tactic| (apply sz1; simp only [app_len, show Str.empty.length = 0 from rfl,
  show (("tell " : Str)).length = 5 by decide +kernel, show (("set " : Str)).length = 4 by decide +kernel, show (("same " : Str)).length = 5 by decide +kernel, show (("there " : Str)).length = 6 by decide +kernel,
  show (("call " : Str)).length = 5 by decide +kernel, show ((" else " : Str)).length = 6 by decide +kernel, show ((" at " : Str)).length = 4 by decide +kernel, show ((" " : Str)).length = 1 by decide +kernel,
  show (("." : Str)).length = 1 by decide +kernel, show (("$" : Str)).length = 1 by decide +kernel, show (("#" : Str)).length = 1 by decide +kernel]; omega))
/-- a row's list at a -/
def RA (H : Hp) (a : Addr) : Rw → Prop
  | .tell v => ∃ t, VA H t v ∧ H a = some (.lst [.str "tell", .ref t])
  | .set p v => ∃ t u, VA H t p ∧ VA H u v ∧ H a = some (.lst [.str "set", .ref t, .ref u])
  | .same x y k => ∃ t u, VA H t x ∧ VA H u y ∧ IntOk k ∧ H a = some (.lst [.str "same", .ref t, .ref u, .int k])
  | .there x k => NmOk x ∧ IntOk k ∧ H a = some (.lst [.str "there", .str x, .int k])
  | .call x v n => ∃ u, NmOk x ∧ VA H u v ∧ IntOk n ∧ H a = some (.lst [.str "call", .str x, .ref u, .int n])
  | .fin => H a = some (.lst [.str "end"])
section
variable {P : Program} {w : World} {K : PySem.W.Frag} {mg : Str → Option Value} {base : Heap} {sa : Addr} {sx : List Int}
def spRow (K : PySem.W.Frag) (sa : Addr) (sx : List Int) : Sp := fun vs H Q _ => ∃ p, vs = [.ref p] ∧ PoolAt K sa sx H p ∧ ∀ a r H', RA H' a r → a ≠ p → H a = none → Kp p H H' → PoolAt K sa sx H' p → Q (.ref a) H'
theorem VA.new {H : Hp} {t q : Addr} {v : Val} {o : HO} (h : VA H t v) (hq : H q = none) : VA (upd H q o) t v := ⟨h.1, (upd_ne (ne_of_none h.2 hq)).trans h.2⟩
theorem pool_ne {H : Hp} {p q : Addr} (hP : PoolAt K sa sx H p) (hq : H q = none) : q ≠ p := by
  obtain ⟨i, b, s, hp, _⟩ := hP
  exact (ne_of_none hp hq).symm
theorem Kp.free {p a : Addr} {H H' : Hp} (k : Kp p H H') (n : a ≠ p) (h : H' a = none) : H a = none := by
  cases e : H a with
  | none => rfl
  | some o => rw [k a o n e] at h; cases h
theorem ok_l_drawn_row (T : Tx K mg sa sx) : Cal P w K mg base 4 "_law_drawn_row" (spRow K sa sx) := by
  obtain ⟨fd, F⟩ := f_l_drawn_row T
  refine ⟨_, fd, ["_law_pool"], fnok F sc_l_drawn_row (fun vs H Q E h => ?_) (fun cdv A outer s H vs Q E hr h => ?_), F.bindsN fun _ _ _ _ _ _ us hl => match us, hl with | [_], _ => rfl, g__law_drawn_row T, F.kp⟩
  · obtain ⟨p, rfl, _⟩ := h; rfl
  · obtain ⟨p, rfl, hP, k⟩ := h
    refine ⟨_, (pss_cons (ps_set (i := 1) sc_l_drawn_row.nd rfl (by first | exact Or.inl rfl | exact Or.inr rfl) (pe_cal (ok_l_draw T) hr (by decide) (pa_cons (pv 0) (pa_cons pe_int pa_nil))))
    (pss_cons (ps_if (pt_cmpR op_eq (pv 1) pe_int (nomark _)) (pss_one (ps_ret (pe_lst (pa_cons pe_str (pa_cons (pe_cal (ok_l_any_value T) hr (by decide) (pa_cons (pv 0) pa_nil)) pa_nil))))) pss_nil)
    (pss_cons (ps_if (pt_cmpR op_eq (pv 1) pe_int (nomark _)) (pss_cons (ps_set (i := 2) sc_l_drawn_row.nd rfl (by first | exact Or.inl rfl | exact Or.inr rfl) (pe_cal (ok_l_name T) hr (by decide) (pa_cons (pv 0) (pa_cons (pe_cal (ok_l_draw T) hr (by decide) (pa_cons (pv 0) (pa_cons pe_int pa_nil))) pa_nil))))
      (pss_cons (ps_set (i := 3) sc_l_drawn_row.nd rfl (by first | exact Or.inl rfl | exact Or.inr rfl) (pe_ifExp (pt_cmpR op_eq (pe_cal (ok_l_draw T) hr (by decide) (pa_cons (pv 0) (pa_cons pe_int pa_nil))) pe_int (nomark _)) (pe_tup (pa_cons pe_str (pa_cons (pv 2) pa_nil))) (pe_tup (pa_cons pe_str (pa_cons (pv 2) (pa_cons (pe_cal (ok_l_draw T) hr (by decide) (pa_cons (pv 0) (pa_cons pe_int pa_nil))) pa_nil))))))
      (pss_one (ps_ret (pe_lst (pa_cons pe_str (pa_cons (pv 3) (pa_cons (pe_cal (ok_l_any_value T) hr (by decide) (pa_cons (pv 0) pa_nil)) pa_nil)))))))) pss_nil)
    (pss_cons (ps_if (pt_cmpR op_eq (pv 1) pe_int (nomark _)) (pss_one (ps_ret (pe_lst (pa_cons pe_str (pa_cons (pe_cal (ok_l_any_value T) hr (by decide) (pa_cons (pv 0) pa_nil)) (pa_cons (pe_cal (ok_l_any_value T) hr (by decide) (pa_cons (pv 0) pa_nil)) (pa_cons (pe_callB (id := "abs") call_abs rfl (n_abs T) (by decide +kernel) (pa_cons (pe_cal (ok_l_number T) hr (by decide) (pa_cons (pv 0) pa_nil)) pa_nil)) pa_nil))))))) pss_nil)
    (pss_cons (ps_if (pt_cmpR op_eq (pv 1) pe_int (nomark _)) (pss_one (ps_ret (pe_lst (pa_cons pe_str (pa_cons (pe_cal (ok_l_name T) hr (by decide) (pa_cons (pv 0) (pa_cons (pe_cal (ok_l_draw T) hr (by decide) (pa_cons (pv 0) (pa_cons pe_int pa_nil))) pa_nil))) (pa_cons (pe_callB (id := "abs") call_abs rfl (n_abs T) (by decide +kernel) (pa_cons (pe_cal (ok_l_number T) hr (by decide) (pa_cons (pv 0) pa_nil)) pa_nil)) pa_nil)))))) pss_nil)
    (pss_cons (ps_if (pt_cmpR op_eq (pv 1) pe_int (nomark _)) (pss_one (ps_ret (pe_lst (pa_cons pe_str (pa_cons (pe_cal (ok_l_name T) hr (by decide) (pa_cons (pv 0) (pa_cons (pe_cal (ok_l_draw T) hr (by decide) (pa_cons (pv 0) (pa_cons pe_int pa_nil))) pa_nil))) (pa_cons (pe_cal (ok_l_any_value T) hr (by decide) (pa_cons (pv 0) pa_nil)) (pa_cons (pe_cal (ok_l_draw T) hr (by decide) (pa_cons (pv 0) (pa_cons pe_int pa_nil))) pa_nil))))))) pss_nil)
    (pss_one (ps_ret (pe_lst (pa_cons pe_str pa_nil)))))))))), ?_⟩
    have out : ∀ (H1 : Hp) (xs : List V) (r : Rw), Kp p H H1 → PoolAt K sa sx H1 p → (∀ a, H1 a = none → RA (upd H1 a (.lst xs)) a r) → ∀ a, H1 a = none → Q (.ref a) (upd H1 a (.lst xs)) :=
      fun H1 xs r k1 p1 f a ha => k a r _ (f a ha) (pool_ne p1 ha) (Kp.free k1 (pool_ne p1 ha) ha) (k1.new ha) (pool_new p1 ha)
    refine ⟨_, rfl, p, 6, rfl, by decide, io (by decide), hP, fun j H1 j0 j6 k1 p1 => ?_⟩
    refine ⟨_, rfl, rfl, _, rfl, dC (fun _ => ?_) (fun _ => ?_)⟩
    · exact ⟨_, rfl, p, rfl, p1, fun t v H2 hv k2 p2 => ⟨sz1 (by simp), out H2 _ (.tell v) (k1.trans k2) p2 fun a ha => ⟨t, VA.new hv ha, upd_same⟩⟩⟩
    refine ⟨_, rfl, rfl, _, rfl, dC (fun _ => ?_) (fun _ => ?_)⟩
    · refine ⟨_, rfl, _, rfl, p, 10, rfl, by decide, io (by decide), p1, fun i0 H20 i00 i10 k20 p20 => ⟨p, i0, rfl, i00, i10, p20, fun x H2 hx k21 p2 => ?_⟩⟩
      have k2 := k20.trans k21
      refine ⟨_, rfl, p, 2, rfl, by decide, io (by decide), p2, fun i H3 i0 i1 k3 p3 => ⟨rfl, _, rfl, dC (fun _ => ?_) (fun _ => ?_)⟩⟩
      · refine ⟨_, rfl, sz1 (by simp), fun t ht => ?_⟩
        refine ⟨_, rfl, _, rfl, p, rfl, pool_new p3 ht, fun u v H4 hv k4 p4 => ⟨sz1 (by simp), out H4 _ (.set (.own x) v) (((k1.trans k2).trans k3).trans ((Kp.refl.new ht).trans k4)) p4 fun a ha => ?_⟩⟩
        exact ⟨t, u, VA.new (Kp.va k4 (pool_new p3 ht) ⟨hx, upd_same⟩) ha, VA.new hv ha, upd_same⟩
      · refine ⟨_, rfl, _, rfl, p, 10, rfl, by decide, io (by decide), p3, fun m H4 m0 m1 k4 p4 => ⟨sz1 (by simp), fun t ht => ?_⟩⟩
        refine ⟨_, rfl, _, rfl, p, rfl, pool_new p4 ht, fun u v H5 hv k5 p5 => ⟨sz1 (by simp), out H5 _ (.set (.place x m) v) ((((k1.trans k2).trans k3).trans k4).trans ((Kp.refl.new ht).trans k5)) p5 fun a ha => ?_⟩⟩
        exact ⟨t, u, VA.new (Kp.va k5 (pool_new p4 ht) ⟨⟨hx, io (by omega)⟩, upd_same⟩) ha, VA.new hv ha, upd_same⟩
    refine ⟨_, rfl, rfl, _, rfl, dC (fun _ => ?_) (fun _ => ?_)⟩
    · refine ⟨_, rfl, p, rfl, p1, fun t v H2 hv k2 p2 => ⟨_, rfl, p, rfl, p2, fun u v' H3 hv' k3 p3 => ⟨_, rfl, p, rfl, p3, fun n H4 hn k4 p4 => ⟨n, rfl, sz1 (by simp), ?_⟩⟩⟩⟩
      refine out H4 _ (.same v v' (if n < 0 then -n else n)) (((k1.trans k2).trans k3).trans k4) p4 fun a ha => ⟨t, u, VA.new (Kp.va (k3.trans k4) p2 hv) ha, VA.new (Kp.va k4 p3 hv') ha, io (by split <;> omega), upd_same⟩
    refine ⟨_, rfl, rfl, _, rfl, dC (fun _ => ?_) (fun _ => ?_)⟩
    · refine ⟨_, rfl, _, rfl, p, 10, rfl, by decide, io (by decide), p1, fun i0 H20 i00 i10 k20 p20 => ⟨p, i0, rfl, i00, i10, p20, fun x H2 hx k21 p2 => ⟨_, rfl, p, rfl, p2, fun n H4 hn k4 p4 => ⟨n, rfl, sz1 (by simp), ?_⟩⟩⟩⟩
      have k2 := k20.trans k21
      exact out H4 _ (.there x (if n < 0 then -n else n)) ((k1.trans k2).trans k4) p4 fun a ha => ⟨hx, io (by split <;> omega), upd_same⟩
    refine ⟨_, rfl, rfl, _, rfl, dC (fun _ => ?_) (fun _ => ?_)⟩
    · refine ⟨_, rfl, _, rfl, p, 10, rfl, by decide, io (by decide), p1, fun i0 H20 i00 i10 k20 p20 => ⟨p, i0, rfl, i00, i10, p20, fun x H2 hx k21 p2 => ⟨_, rfl, p, rfl, p2, fun t v H3 hv k3 p3 => ⟨_, rfl, p, 10, rfl, by decide, io (by decide), p3, fun m H4 m0 m1 k4 p4 => ⟨sz1 (by simp), ?_⟩⟩⟩⟩⟩
      have k2 := k20.trans k21
      exact out H4 _ (.call x v m) (((k1.trans k2).trans k3).trans k4) p4 fun a ha => ⟨t, hx, VA.new (Kp.va k4 p3 hv) ha, io (by omega), upd_same⟩
    · exact ⟨sz1 (by simp), out H1 _ .fin k1 p1 fun a ha => upd_same⟩
theorem ok_l_value_word (T : Tx K mg sa sx) : Cal P w K mg base 1 "_law_value_word" spVt := by
  obtain ⟨fd, F⟩ := f_l_value_word T
  refine ⟨_, fd, ["_law_value"], fnok F sc_l_value_word (fun vs H Q E h => ?_) (fun cdv A outer s H vs Q E hr h => ?_), F.bindsN fun _ _ _ _ _ _ us hl => match us, hl with | [_], _ => rfl, g__law_value_word T, F.kp⟩
  · obtain ⟨t, v, rfl, _⟩ := h; rfl
  · obtain ⟨t, v, rfl, ok, ht, k⟩ := h
    refine ⟨_, (pss_cons (ps_if (pt_cmpR op_eq (pe_ix ix_tup (pv 0) pe_int (fun _ _ => rfl)) pe_str (nomark _)) (pss_one (ps_ret (pe_callTy (T := "str") call_str_int rfl (n_str T) (by decide +kernel) (pa_cons (pe_ix ix_tup (pv 0) pe_int (fun _ _ => rfl)) pa_nil)))) pss_nil)
    (pss_cons (ps_if (pt_cmpR op_eq (pe_ix ix_tup (pv 0) pe_int (fun _ _ => rfl)) pe_str (nomark _)) (pss_one (ps_ret pe_str)) pss_nil)
    (pss_cons (ps_if (pt_cmpR op_eq (pe_ix ix_tup (pv 0) pe_int (fun _ _ => rfl)) pe_str (nomark _)) (pss_one (ps_ret (pe_op op_add_str (pe_op op_add_str (pe_ix ix_tup (pv 0) pe_int (fun _ _ => rfl)) pe_str) (pe_callTy (T := "str") call_str_int rfl (n_str T) (by decide +kernel) (pa_cons (pe_ix ix_tup (pv 0) pe_int (fun _ _ => rfl)) pa_nil))))) pss_nil)
    (pss_one (ps_ret (pe_op op_add_str (pe_ifExp (pt_cmpR op_eq (pe_ix ix_tup (pv 0) pe_int (fun _ _ => rfl)) pe_str (nomark _)) pe_str pe_str) (pe_ix ix_tup (pv 0) pe_int (fun _ _ => rfl)))))))), ?_⟩
    have hS := SqT.of (K := K) ht
    cases v with
    | num n =>
      refine ⟨_, rfl, t, _, 0, .str "number", rfl, rfl, hS, rfl, rfl, _, rfl, tT rfl ?_⟩
      exact ⟨_, rfl, t, _, 1, .int n, rfl, rfl, hS, rfl, n, rfl, ok.log, k⟩
    | arg =>
      refine ⟨_, rfl, t, _, 0, .str "argument", rfl, rfl, hS, rfl, rfl, _, rfl, tF (by decide +kernel) ?_⟩
      refine ⟨_, rfl, t, _, 0, .str "argument", rfl, rfl, hS, rfl, rfl, _, rfl, tT rfl ?_⟩
      exact k
    | place x n =>
      have h1 := ok.1.1
      have h2 := nt_len ok.2
      refine ⟨_, rfl, t, _, 0, .str "place", rfl, rfl, hS, rfl, rfl, _, rfl, tF (by decide +kernel) ?_⟩
      refine ⟨_, rfl, t, _, 0, .str "place", rfl, rfl, hS, rfl, rfl, _, rfl, tF (by decide +kernel) ?_⟩
      refine ⟨_, rfl, t, _, 0, .str "place", rfl, rfl, hS, rfl, rfl, _, rfl, tT rfl ?_⟩
      refine ⟨_, rfl, t, _, 1, .str x, rfl, rfl, hS, rfl, x, ".", rfl, rfl, (by rw [show (("." : Str)).length = 1 by decide +kernel]; exact sz1 (by omega)), _, rfl, t, _, 2, .int n, rfl, rfl, hS, rfl, n, rfl, ok.2.log, x ++ ".", nt n, rfl, rfl, ?_, ?_⟩
      · rw [app_len, show (("." : Str)).length = 1 by decide +kernel]; exact sz1 (by omega)
      · rw [app_assoc]; exact k
    | own x =>
      have h1 := ok.1
      refine ⟨_, rfl, t, _, 0, .str "own", rfl, rfl, hS, rfl, rfl, _, rfl, tF (by decide +kernel) ?_⟩
      refine ⟨_, rfl, t, _, 0, .str "own", rfl, rfl, hS, rfl, rfl, _, rfl, tF (by decide +kernel) ?_⟩
      refine ⟨_, rfl, t, _, 0, .str "own", rfl, rfl, hS, rfl, rfl, _, rfl, tF (by decide +kernel) ?_⟩
      refine ⟨_, rfl, t, _, 0, .str "own", rfl, rfl, hS, rfl, rfl, _, rfl, tT rfl ?_⟩
      exact ⟨_, rfl, t, _, 1, .str x, rfl, rfl, hS, rfl, "$", x, rfl, rfl, (by rw [show (("$" : Str)).length = 1 by decide +kernel]; exact sz1 (by omega)), k⟩
    | named x =>
      have h1 := ok.1
      refine ⟨_, rfl, t, _, 0, .str "named", rfl, rfl, hS, rfl, rfl, _, rfl, tF (by decide +kernel) ?_⟩
      refine ⟨_, rfl, t, _, 0, .str "named", rfl, rfl, hS, rfl, rfl, _, rfl, tF (by decide +kernel) ?_⟩
      refine ⟨_, rfl, t, _, 0, .str "named", rfl, rfl, hS, rfl, rfl, _, rfl, tF (by decide +kernel) ?_⟩
      refine ⟨_, rfl, t, _, 0, .str "named", rfl, rfl, hS, rfl, rfl, _, rfl, tF (by decide +kernel) ?_⟩
      exact ⟨_, rfl, t, _, 1, .str x, rfl, rfl, hS, rfl, "#", x, rfl, rfl, (by rw [show (("#" : Str)).length = 1 by decide +kernel]; exact sz1 (by omega)), k⟩
end
end K00
namespace K00
open PySem PySem.Spec PyProof.Rows L2 Cm
local macro_rules | `(tactic| walk_at "sz") => `(tactic| (apply sz1; simp only [app_len, show Str.empty.length = 0 from rfl,
  show (("tell " : Str)).length = 5 by decide +kernel, show (("set " : Str)).length = 4 by decide +kernel, show (("same " : Str)).length = 5 by decide +kernel, show (("there " : Str)).length = 6 by decide +kernel,
  show (("call " : Str)).length = 5 by decide +kernel, show ((" else " : Str)).length = 6 by decide +kernel, show ((" at " : Str)).length = 4 by decide +kernel, show ((" " : Str)).length = 1 by decide +kernel]; omega))
theorem VA.keep {H H' : Hp} {t : Addr} {v : Val} (h : VA H t v) (s : Same H H') : VA H' t v := ⟨h.1, s _ _ h.2⟩
theorem mk_same {H : Hp} {x dx C : Addr} {fs : List (Str × V)} (nx : H x = none) (nd : H dx = none) : Same H (upd (upd (upd H dx (.own x)) x (.ins C dx [])) x (.ins C dx fs)) := fun b o e => by
  rw [upd_ne (ne_of_none e nx), upd_ne (ne_of_none e nx), upd_ne (ne_of_none e nd)]; exact e
theorem mk_keep {H : Hp} {x dx C : Addr} (nx : H x = none) (nd : H dx = none) : Same H (upd (upd H dx (.own x)) x (.ins C dx [])) := fun b o e => by
  rw [upd_ne (ne_of_none e nx), upd_ne (ne_of_none e nd)]; exact e
section
variable {P : Program} {w : World} {K : PySem.W.Frag} {mg : Str → Option Value} {base : Heap} {sa : Addr} {sx : List Int}
def spMade (K : PySem.W.Frag) : Sp := fun vs H Q _ => ∃ a r, vs = [.ref a] ∧ RA H a r ∧ ∀ o H', MA K H' o r → Same H H' → Q (.ref o) H'
theorem ok_l_made (T : Tx K mg sa sx) : Cal P w K mg base 3 "_law_made" (spMade K) := by
  obtain ⟨fd, F⟩ := f_l_made T
  refine ⟨_, fd, ["_law_row"], fnok F sc_l_made (fun vs H Q E h => ?_) (fun cdv A outer s H vs Q E hr h => ?_), F.bindsN fun _ _ _ _ _ _ us hl => match us, hl with | [_], _ => rfl, g__law_made T, F.kp⟩
  · obtain ⟨a, r, rfl, _⟩ := h; rfl
  · obtain ⟨a, r, rfl, hr', k⟩ := h
    refine ⟨_, (pss_cons (ps_if (pt_cmpR op_eq (pe_ix ix_list (pv 0) pe_int (fun _ _ => rfl)) pe_str (nomark _)) (pss_one (ps_ret (pe_kal (ok_Tell_init T) hr (by decide) (pa_cons (pe_ix ix_list (pv 0) pe_int (fun _ _ => rfl)) pa_nil)))) pss_nil)
    (pss_cons (ps_if (pt_cmpR op_eq (pe_ix ix_list (pv 0) pe_int (fun _ _ => rfl)) pe_str (nomark _)) (pss_one (ps_ret (pe_kal (ok_Put_init T) hr (by decide) (pa_cons (pe_ix ix_list (pv 0) pe_int (fun _ _ => rfl)) (pa_cons (pe_ix ix_list (pv 0) pe_int (fun _ _ => rfl)) pa_nil))))) pss_nil)
    (pss_cons (ps_if (pt_cmpR op_eq (pe_ix ix_list (pv 0) pe_int (fun _ _ => rfl)) pe_str (nomark _)) (pss_one (ps_ret (pe_kal (ok_Same_init T) hr (by decide) (pa_cons (pe_ix ix_list (pv 0) pe_int (fun _ _ => rfl)) (pa_cons (pe_ix ix_list (pv 0) pe_int (fun _ _ => rfl)) (pa_cons (pe_ix ix_list (pv 0) pe_int (fun _ _ => rfl)) pa_nil)))))) pss_nil)
    (pss_cons (ps_if (pt_cmpR op_eq (pe_ix ix_list (pv 0) pe_int (fun _ _ => rfl)) pe_str (nomark _)) (pss_one (ps_ret (pe_kal (ok_There_init T) hr (by decide) (pa_cons (pe_ix ix_list (pv 0) pe_int (fun _ _ => rfl)) (pa_cons (pe_ix ix_list (pv 0) pe_int (fun _ _ => rfl)) pa_nil))))) pss_nil)
    (pss_cons (ps_if (pt_cmpR op_eq (pe_ix ix_list (pv 0) pe_int (fun _ _ => rfl)) pe_str (nomark _)) (pss_one (ps_ret (pe_ifExp (pt_cmpR op_ne (pe_ix ix_list (pv 0) pe_int (fun _ _ => rfl)) pe_int (nomark _)) (pe_kal (ok_Call_init T) hr (by decide) (pa_cons (pe_ix ix_list (pv 0) pe_int (fun _ _ => rfl)) (pa_cons (pe_ix ix_list (pv 0) pe_int (fun _ _ => rfl)) (pa_cons (pe_ix ix_list (pv 0) pe_int (fun _ _ => rfl)) pa_nil)))) (pe_kal (ok_Call_init3 T) hr (by decide) (pa_cons (pe_ix ix_list (pv 0) pe_int (fun _ _ => rfl)) (pa_cons (pe_ix ix_list (pv 0) pe_int (fun _ _ => rfl)) pa_nil)))))) pss_nil)
    (pss_one (ps_ret (pe_mk0 (x_emk T) (x_ein T) (x_ekp T) (g_End T))))))))), ?_⟩
    cases r with
    | tell v =>
      obtain ⟨t, hv, ha⟩ := hr'
      have hL := SqL.of (K := K) ha
      refine ⟨_, rfl, a, _, 0, .str "tell", rfl, rfl, hL, rfl, rfl, _, rfl, tT rfl ?_⟩
      refine ⟨_, rfl, a, _, 1, .ref t, rfl, rfl, hL, rfl, fun x dx nx nd ne => ?_⟩
      have kp := mk_keep (C := He.ga K "Tell") nx nd
      exact ⟨x, dx, t, _, rfl, upd_same, kp _ _ hv.2, rfl, k x _ ⟨t, dx, VA.keep hv (mk_same nx nd), upd_same⟩ (mk_same nx nd)⟩
    | set p v =>
      obtain ⟨t, u, hp, hv, ha⟩ := hr'
      have hL := SqL.of (K := K) ha
      refine ⟨_, rfl, a, _, 0, .str "set", rfl, rfl, hL, rfl, rfl, _, rfl, tF (by decide +kernel) ?_⟩
      refine ⟨_, rfl, a, _, 0, .str "set", rfl, rfl, hL, rfl, rfl, _, rfl, tT rfl ?_⟩
      refine ⟨_, rfl, a, _, 1, .ref t, rfl, rfl, hL, rfl, _, rfl, a, _, 2, .ref u, rfl, rfl, hL, rfl, fun x dx nx nd ne => ?_⟩
      have kp := mk_keep (C := He.ga K "Put") nx nd
      exact ⟨x, dx, t, _, u, _, rfl, upd_same, kp _ _ hp.2, kp _ _ hv.2, rfl, k x _ ⟨t, u, dx, VA.keep hp (mk_same nx nd), VA.keep hv (mk_same nx nd), upd_same⟩ (mk_same nx nd)⟩
    | same p v n =>
      obtain ⟨t, u, hp, hv, hn, ha⟩ := hr'
      have hL := SqL.of (K := K) ha
      refine ⟨_, rfl, a, _, 0, .str "same", rfl, rfl, hL, rfl, rfl, _, rfl, tF (by decide +kernel) ?_⟩
      refine ⟨_, rfl, a, _, 0, .str "same", rfl, rfl, hL, rfl, rfl, _, rfl, tF (by decide +kernel) ?_⟩
      refine ⟨_, rfl, a, _, 0, .str "same", rfl, rfl, hL, rfl, rfl, _, rfl, tT rfl ?_⟩
      refine ⟨_, rfl, a, _, 1, .ref t, rfl, rfl, hL, rfl, _, rfl, a, _, 2, .ref u, rfl, rfl, hL, rfl, _, rfl, a, _, 3, .int n, rfl, rfl, hL, rfl, fun x dx nx nd ne => ?_⟩
      have kp := mk_keep (C := He.ga K "Same") nx nd
      exact ⟨x, dx, t, _, u, _, n, rfl, upd_same, kp _ _ hp.2, kp _ _ hv.2, rfl, k x _ ⟨t, u, dx, VA.keep hp (mk_same nx nd), VA.keep hv (mk_same nx nd), hn, upd_same⟩ (mk_same nx nd)⟩
    | there z n =>
      obtain ⟨hz, hn, ha⟩ := hr'
      have hL := SqL.of (K := K) ha
      refine ⟨_, rfl, a, _, 0, .str "there", rfl, rfl, hL, rfl, rfl, _, rfl, tF (by decide +kernel) ?_⟩
      refine ⟨_, rfl, a, _, 0, .str "there", rfl, rfl, hL, rfl, rfl, _, rfl, tF (by decide +kernel) ?_⟩
      refine ⟨_, rfl, a, _, 0, .str "there", rfl, rfl, hL, rfl, rfl, _, rfl, tF (by decide +kernel) ?_⟩
      refine ⟨_, rfl, a, _, 0, .str "there", rfl, rfl, hL, rfl, rfl, _, rfl, tT rfl ?_⟩
      refine ⟨_, rfl, a, _, 1, .str z, rfl, rfl, hL, rfl, _, rfl, a, _, 2, .int n, rfl, rfl, hL, rfl, fun x dx nx nd ne => ?_⟩
      exact ⟨x, dx, z, n, rfl, upd_same, rfl, k x _ ⟨dx, hz, hn, upd_same⟩ (mk_same nx nd)⟩
    | call z v n =>
      obtain ⟨u, hz, hv, hn, ha⟩ := hr'
      have hL := SqL.of (K := K) ha
      refine ⟨_, rfl, a, _, 0, .str "call", rfl, rfl, hL, rfl, rfl, _, rfl, tF (by decide +kernel) ?_⟩
      refine ⟨_, rfl, a, _, 0, .str "call", rfl, rfl, hL, rfl, rfl, _, rfl, tF (by decide +kernel) ?_⟩
      refine ⟨_, rfl, a, _, 0, .str "call", rfl, rfl, hL, rfl, rfl, _, rfl, tF (by decide +kernel) ?_⟩
      refine ⟨_, rfl, a, _, 0, .str "call", rfl, rfl, hL, rfl, rfl, _, rfl, tF (by decide +kernel) ?_⟩
      refine ⟨_, rfl, a, _, 0, .str "call", rfl, rfl, hL, rfl, rfl, _, rfl, tT rfl ?_⟩
      refine ⟨_, rfl, a, _, 3, .int n, rfl, rfl, hL, rfl, rfl, _, rfl, uC (fun c => ?_) (fun c => ?_)⟩
      · refine ⟨_, rfl, a, _, 1, .str z, rfl, rfl, hL, rfl, _, rfl, a, _, 2, .ref u, rfl, rfl, hL, rfl, _, rfl, a, _, 3, .int n, rfl, rfl, hL, rfl, fun x dx nx nd ne => ?_⟩
        have kp := mk_keep (C := He.ga K "Call") nx nd
        exact ⟨x, dx, z, u, _, n, rfl, upd_same, kp _ _ hv.2, rfl, k x _ ⟨u, dx, hz, VA.keep hv (mk_same nx nd), hn, upd_same⟩ (mk_same nx nd)⟩
      · have c0 : n = 0 := by injection c
        subst c0
        refine ⟨_, rfl, a, _, 1, .str z, rfl, rfl, hL, rfl, _, rfl, a, _, 2, .ref u, rfl, rfl, hL, rfl, fun x dx nx nd ne => ?_⟩
        have kp := mk_keep (C := He.ga K "Call") nx nd
        exact ⟨x, dx, z, u, _, 0, rfl, upd_same, kp _ _ hv.2, rfl, k x _ ⟨u, dx, hz, VA.keep hv (mk_same nx nd), hn, upd_same⟩ (mk_same nx nd)⟩
    | fin =>
      have ha : H a = some (.lst [.str "end"]) := hr'
      have hL := SqL.of (K := K) ha
      refine ⟨_, rfl, a, _, 0, .str "end", rfl, rfl, hL, rfl, rfl, _, rfl, tF (by decide +kernel) ?_⟩
      refine ⟨_, rfl, a, _, 0, .str "end", rfl, rfl, hL, rfl, rfl, _, rfl, tF (by decide +kernel) ?_⟩
      refine ⟨_, rfl, a, _, 0, .str "end", rfl, rfl, hL, rfl, rfl, _, rfl, tF (by decide +kernel) ?_⟩
      refine ⟨_, rfl, a, _, 0, .str "end", rfl, rfl, hL, rfl, rfl, _, rfl, tF (by decide +kernel) ?_⟩
      refine ⟨_, rfl, a, _, 0, .str "end", rfl, rfl, hL, rfl, rfl, _, rfl, tF (by decide +kernel) ?_⟩
      exact fun x dx nx nd ne => k x _ ⟨dx, upd_same⟩ (mk_keep nx nd)
def spLine : Sp := fun vs H Q _ => ∃ a r, vs = [.ref a] ∧ RA H a r ∧ Q (.str r.tx) H
theorem ok_l_line (T : Tx K mg sa sx) : Cal P w K mg base 2 "_law_line" spLine := by
  obtain ⟨fd, F⟩ := f_l_line T
  refine ⟨_, fd, ["_law_row"], fnok F sc_l_line (fun vs H Q E h => ?_) (fun cdv A outer s H vs Q E hr h => ?_), F.bindsN fun _ _ _ _ _ _ us hl => match us, hl with | [_], _ => rfl, g__law_line T, F.kp⟩
  · obtain ⟨a, r, rfl, _⟩ := h; rfl
  · obtain ⟨a, r, rfl, hr', k⟩ := h
    refine ⟨_, (pss_cons (ps_if (pt_cmpR op_eq (pe_ix ix_list (pv 0) pe_int (fun _ _ => rfl)) pe_str (nomark _)) (pss_one (ps_ret (pe_op op_add_str pe_str (pe_cal (ok_l_value_word T) hr (by decide) (pa_cons (pe_ix ix_list (pv 0) pe_int (fun _ _ => rfl)) pa_nil))))) pss_nil)
    (pss_cons (ps_if (pt_cmpR op_eq (pe_ix ix_list (pv 0) pe_int (fun _ _ => rfl)) pe_str (nomark _)) (pss_one (ps_ret (pe_op op_add_str (pe_op op_add_str (pe_op op_add_str pe_str (pe_cal (ok_l_value_word T) hr (by decide) (pa_cons (pe_ix ix_list (pv 0) pe_int (fun _ _ => rfl)) pa_nil))) pe_str) (pe_cal (ok_l_value_word T) hr (by decide) (pa_cons (pe_ix ix_list (pv 0) pe_int (fun _ _ => rfl)) pa_nil))))) pss_nil)
    (pss_cons (ps_if (pt_cmpR op_eq (pe_ix ix_list (pv 0) pe_int (fun _ _ => rfl)) pe_str (nomark _)) (pss_cons (ps_set (i := 1) sc_l_line.nd rfl (by first | exact Or.inl rfl | exact Or.inr rfl) (pe_op op_add_str (pe_op op_add_str (pe_cal (ok_l_value_word T) hr (by decide) (pa_cons (pe_ix ix_list (pv 0) pe_int (fun _ _ => rfl)) pa_nil)) pe_str) (pe_cal (ok_l_value_word T) hr (by decide) (pa_cons (pe_ix ix_list (pv 0) pe_int (fun _ _ => rfl)) pa_nil))))
      (pss_one (ps_ret (pe_op op_add_str (pe_op op_add_str (pe_op op_add_str pe_str (pv 1)) pe_str) (pe_callTy (T := "str") call_str_int rfl (n_str T) (by decide +kernel) (pa_cons (pe_ix ix_list (pv 0) pe_int (fun _ _ => rfl)) pa_nil)))))) pss_nil)
    (pss_cons (ps_if (pt_cmpR op_eq (pe_ix ix_list (pv 0) pe_int (fun _ _ => rfl)) pe_str (nomark _)) (pss_one (ps_ret (pe_op op_add_str (pe_op op_add_str (pe_op op_add_str pe_str (pe_ix ix_list (pv 0) pe_int (fun _ _ => rfl))) pe_str) (pe_callTy (T := "str") call_str_int rfl (n_str T) (by decide +kernel) (pa_cons (pe_ix ix_list (pv 0) pe_int (fun _ _ => rfl)) pa_nil))))) pss_nil)
    (pss_cons (ps_if (pt_cmpR op_eq (pe_ix ix_list (pv 0) pe_int (fun _ _ => rfl)) pe_str (nomark _)) (pss_cons (ps_set (i := 2) sc_l_line.nd rfl (by first | exact Or.inl rfl | exact Or.inr rfl) (pe_op op_add_str (pe_op op_add_str (pe_op op_add_str pe_str (pe_ix ix_list (pv 0) pe_int (fun _ _ => rfl))) pe_str) (pe_cal (ok_l_value_word T) hr (by decide) (pa_cons (pe_ix ix_list (pv 0) pe_int (fun _ _ => rfl)) pa_nil))))
      (pss_one (ps_ret (pe_ifExp (pt_cmpR op_ne (pe_ix ix_list (pv 0) pe_int (fun _ _ => rfl)) pe_int (nomark _)) (pe_op op_add_str (pe_op op_add_str (pv 2) pe_str) (pe_callTy (T := "str") call_str_int rfl (n_str T) (by decide +kernel) (pa_cons (pe_ix ix_list (pv 0) pe_int (fun _ _ => rfl)) pa_nil))) (pv 2))))) pss_nil)
    (pss_one (ps_ret pe_str))))))), ?_⟩
    cases r with
    | tell v =>
      obtain ⟨t, hv, ha⟩ := hr'
      have hL := SqL.of (K := K) ha
      have h1 := Val.tx_len hv.1
      refine ⟨_, rfl, a, _, 0, .str "tell", rfl, rfl, hL, rfl, rfl, _, rfl, tT rfl ?_⟩
      refine ⟨_, rfl, a, _, 1, .ref t, rfl, rfl, hL, rfl, t, v, rfl, hv.1, hv.2, _, _, rfl, rfl, ?_, k⟩
      walk_at "sz"
    | set p v =>
      obtain ⟨t, u, hp, hv, ha⟩ := hr'
      have hL := SqL.of (K := K) ha
      have h1 := Val.tx_len hp.1
      have h2 := Val.tx_len hv.1
      refine ⟨_, rfl, a, _, 0, .str "set", rfl, rfl, hL, rfl, rfl, _, rfl, tF (by decide +kernel) ?_⟩
      refine ⟨_, rfl, a, _, 0, .str "set", rfl, rfl, hL, rfl, rfl, _, rfl, tT rfl ?_⟩
      refine ⟨_, rfl, a, _, 1, .ref t, rfl, rfl, hL, rfl, t, p, rfl, hp.1, hp.2, _, _, rfl, rfl, (by walk_at "sz"), _, _, rfl, rfl, (by walk_at "sz"), _, rfl, a, _, 2, .ref u, rfl, rfl, hL, rfl, u, v, rfl, hv.1, hv.2, _, _, rfl, rfl, (by walk_at "sz"), ?_⟩
      rw [app_assoc, app_assoc]
      exact k
    | same p v n =>
      obtain ⟨t, u, hp, hv, hn, ha⟩ := hr'
      have hL := SqL.of (K := K) ha
      have h1 := Val.tx_len hp.1
      have h2 := Val.tx_len hv.1
      have h3 := nt_len hn
      refine ⟨_, rfl, a, _, 0, .str "same", rfl, rfl, hL, rfl, rfl, _, rfl, tF (by decide +kernel) ?_⟩
      refine ⟨_, rfl, a, _, 0, .str "same", rfl, rfl, hL, rfl, rfl, _, rfl, tF (by decide +kernel) ?_⟩
      refine ⟨_, rfl, a, _, 0, .str "same", rfl, rfl, hL, rfl, rfl, _, rfl, tT rfl ?_⟩
      refine ⟨_, rfl, a, _, 1, .ref t, rfl, rfl, hL, rfl, t, p, rfl, hp.1, hp.2, _, _, rfl, rfl, (by walk_at "sz"), _, rfl, a, _, 2, .ref u, rfl, rfl, hL, rfl, u, v, rfl, hv.1, hv.2, _, _, rfl, rfl, (by walk_at "sz"), ?_⟩
      refine ⟨_, rfl, _, _, rfl, rfl, (by walk_at "sz"), _, _, rfl, rfl, (by walk_at "sz"), _, rfl, a, _, 3, .int n, rfl, rfl, hL, rfl, n, rfl, hn.log, _, nt n, rfl, rfl, (by walk_at "sz"), ?_⟩
      show Q (.str ("same " ++ (p.tx ++ " " ++ v.tx) ++ " else " ++ nt n)) H
      rw [app_assoc, app_assoc, app_assoc, app_assoc]
      exact k
    | there z n =>
      obtain ⟨hz, hn, ha⟩ := hr'
      have hL := SqL.of (K := K) ha
      have h1 := hz.1
      have h3 := nt_len hn
      refine ⟨_, rfl, a, _, 0, .str "there", rfl, rfl, hL, rfl, rfl, _, rfl, tF (by decide +kernel) ?_⟩
      refine ⟨_, rfl, a, _, 0, .str "there", rfl, rfl, hL, rfl, rfl, _, rfl, tF (by decide +kernel) ?_⟩
      refine ⟨_, rfl, a, _, 0, .str "there", rfl, rfl, hL, rfl, rfl, _, rfl, tF (by decide +kernel) ?_⟩
      refine ⟨_, rfl, a, _, 0, .str "there", rfl, rfl, hL, rfl, rfl, _, rfl, tT rfl ?_⟩
      refine ⟨_, rfl, a, _, 1, .str z, rfl, rfl, hL, rfl, _, _, rfl, rfl, (by walk_at "sz"), _, _, rfl, rfl, (by walk_at "sz"), _, rfl, a, _, 2, .int n, rfl, rfl, hL, rfl, n, rfl, hn.log, _, nt n, rfl, rfl, (by walk_at "sz"), ?_⟩
      show Q (.str ("there " ++ z ++ " else " ++ nt n)) H
      rw [app_assoc, app_assoc]
      exact k
    | call z v n =>
      obtain ⟨u, hz, hv, hn, ha⟩ := hr'
      have hL := SqL.of (K := K) ha
      have h1 := hz.1
      have h2 := Val.tx_len hv.1
      have h3 := nt_len hn
      refine ⟨_, rfl, a, _, 0, .str "call", rfl, rfl, hL, rfl, rfl, _, rfl, tF (by decide +kernel) ?_⟩
      refine ⟨_, rfl, a, _, 0, .str "call", rfl, rfl, hL, rfl, rfl, _, rfl, tF (by decide +kernel) ?_⟩
      refine ⟨_, rfl, a, _, 0, .str "call", rfl, rfl, hL, rfl, rfl, _, rfl, tF (by decide +kernel) ?_⟩
      refine ⟨_, rfl, a, _, 0, .str "call", rfl, rfl, hL, rfl, rfl, _, rfl, tF (by decide +kernel) ?_⟩
      refine ⟨_, rfl, a, _, 0, .str "call", rfl, rfl, hL, rfl, rfl, _, rfl, tT rfl ?_⟩
      refine ⟨_, rfl, a, _, 1, .str z, rfl, rfl, hL, rfl, _, _, rfl, rfl, (by walk_at "sz"), _, _, rfl, rfl, (by walk_at "sz"), _, rfl, a, _, 2, .ref u, rfl, rfl, hL, rfl, u, v, rfl, hv.1, hv.2, _, _, rfl, rfl, (by walk_at "sz"), ?_⟩
      have e1 : "call " ++ z ++ " " ++ v.tx = "call " ++ (z ++ (" " ++ v.tx)) := by rw [app_assoc, app_assoc]
      refine ⟨_, rfl, a, _, 3, .int n, rfl, rfl, hL, rfl, rfl, _, rfl, uC (fun c => ?_) (fun c => ?_)⟩
      · refine ⟨_, rfl, _, _, rfl, rfl, (by walk_at "sz"), _, rfl, a, _, 3, .int n, rfl, rfl, hL, rfl, n, rfl, hn.log, _, nt n, rfl, rfl, (by walk_at "sz"), ?_⟩
        have e2 : (Rw.call z v n).tx = "call " ++ (z ++ (" " ++ (v.tx ++ (" at " ++ nt n)))) := if_neg (fun e => c (by rw [e]))
        rw [e2] at k
        show Q (.str ("call " ++ z ++ " " ++ v.tx ++ " at " ++ nt n)) H
        rw [app_assoc, app_assoc, app_assoc, app_assoc]
        exact k
      · refine ⟨_, rfl, ?_⟩
        have e2 : (Rw.call z v n).tx = "call " ++ (z ++ (" " ++ v.tx)) := if_pos (by injection c)
        rw [e2] at k
        rw [e1]
        exact k
    | fin =>
      have ha : H a = some (.lst [.str "end"]) := hr'
      have hL := SqL.of (K := K) ha
      refine ⟨_, rfl, a, _, 0, .str "end", rfl, rfl, hL, rfl, rfl, _, rfl, tF (by decide +kernel) ?_⟩
      refine ⟨_, rfl, a, _, 0, .str "end", rfl, rfl, hL, rfl, rfl, _, rfl, tF (by decide +kernel) ?_⟩
      refine ⟨_, rfl, a, _, 0, .str "end", rfl, rfl, hL, rfl, rfl, _, rfl, tF (by decide +kernel) ?_⟩
      refine ⟨_, rfl, a, _, 0, .str "end", rfl, rfl, hL, rfl, rfl, _, rfl, tF (by decide +kernel) ?_⟩
      refine ⟨_, rfl, a, _, 0, .str "end", rfl, rfl, hL, rfl, rfl, _, rfl, tF (by decide +kernel) ?_⟩
      exact k
end
end K00
namespace K00
open PySem PySem.Spec PyProof.Rows L2 Cm
/-! ### the values of a row -/
def isR : V → Bool
  | .ref _ => true
  | _ => false
theorem ft {l : List V} {i : Nat} {x : V} (h : l[i]? = some x) : (l.take (i + 1)).filter isR = (l.take i).filter isR ++ (if isR x = true then [x] else []) := by
  rw [List.take_succ, h, List.filter_append]
  cases c : isR x <;> simp [List.filter_cons, c]
def VR (H : Hp) (x : V) (v : Val) : Prop := ∃ t, x = .ref t ∧ VA H t v
def Itm (H : Hp) (x : V) : Prop := (∃ t vs, x = .ref t ∧ H t = some (.tup vs)) ∨ (∃ z, x = .str z) ∨ ∃ n, x = .int n
theorem ra_gen {H : Hp} {a : Addr} {r : Rw} (h : RA H a r) : ∃ hd rest, H a = some (.lst (hd :: rest)) ∧ rest.length ≤ 3 ∧ (∀ x ∈ rest, Itm H x) ∧ Paired (VR H) (rest.filter isR) r.ops := by
  have it : ∀ {t : Addr} {v : Val}, VA H t v → Itm H (.ref t) := fun h => .inl ⟨_, _, rfl, h.2⟩
  cases r with
  | tell v =>
    obtain ⟨t, hv, ha⟩ := h
    exact ⟨_, _, ha, by simp, by simp [it hv], .cons ⟨t, rfl, hv⟩ .nil⟩
  | set p v =>
    obtain ⟨t, u, hp, hv, ha⟩ := h
    exact ⟨_, _, ha, by simp, by simp [it hp, it hv], .cons ⟨t, rfl, hp⟩ (.cons ⟨u, rfl, hv⟩ .nil)⟩
  | same x y n =>
    obtain ⟨t, u, hp, hv, hn, ha⟩ := h
    exact ⟨_, _, ha, by simp, by simp [it hp, it hv, show Itm H (.int n) from .inr (.inr ⟨_, rfl⟩)], .cons ⟨t, rfl, hp⟩ (.cons ⟨u, rfl, hv⟩ .nil)⟩
  | there x n =>
    obtain ⟨hx, hn, ha⟩ := h
    exact ⟨_, _, ha, by simp, by simp [show Itm H (.int n) from .inr (.inr ⟨_, rfl⟩), show Itm H (.str x) from .inr (.inl ⟨_, rfl⟩)], .nil⟩
  | call x v n =>
    obtain ⟨u, hx, hv, hn, ha⟩ := h
    exact ⟨_, _, ha, by simp, by simp [it hv, show Itm H (.int n) from .inr (.inr ⟨_, rfl⟩), show Itm H (.str x) from .inr (.inl ⟨_, rfl⟩)], .cons ⟨u, rfl, hv⟩ .nil⟩
  | fin => exact ⟨_, [], h, by simp, by simp, .nil⟩
theorem cut1 (hd : V) (rest : List V) : cutV (hd :: rest) (some 1) none = rest := by
  have e : HT.sIx (hd :: rest).length 0 (some 1) = 1 := by
    rw [show (some (1 : Int)) = some ((1 : Nat) : Int) from rfl, HT.sIx_nat, List.length_cons]
    omega
  unfold cutV
  rw [e, HT.sIx_none, List.length_cons]
  show (rest.take (rest.length + 1 - 1)) = rest
  exact List.take_of_length_le (by omega)
theorem VR.keep {H H' : Hp} (s : Same H H') {x : V} {v : Val} (h : VR H x v) : VR H' x v := let ⟨t, e, h⟩ := h; ⟨t, e, VA.keep h s⟩
theorem Same.new {H : Hp} {q : Addr} {o : HO} (h : H q = none) : Same H (upd H q o) := fun b u e => (upd_ne (ne_of_none e h)).trans e
/-- what H does not know may change -/
theorem Same.mut {H H' : Hp} {q : Addr} {o : HO} (s : Same H H') (h : H q = none) : Same H (upd H' q o) := fun b u e => (upd_ne (ne_of_none e h)).trans (s b u e)
theorem dp_vs {K : PySem.W.Frag} {H : Hp} : ∀ {xs : List V} {vs : List Val}, Paired (VR H) xs vs → DpAll K H xs (vs.map fun v => .tuple v.ds)
  | _, _, .nil => .nil
  | _, _, .cons ⟨t, e, h⟩ r => by subst e; exact .cons (va_dp h) (dp_vs r)
theorem paired_imp {α β : Type} {F G : α → β → Prop} (h : ∀ a b, F a b → G a b) : ∀ {xs : List α} {ys : List β}, Paired F xs ys → Paired G xs ys
  | _, _, .nil => .nil
  | _, _, .cons a r => .cons (h _ _ a) (paired_imp h r)
mutual
theorem Dp.same {K : PySem.W.Frag} {H H' : Hp} (s : Same H H') : ∀ {x : V} {d : PyData}, Dp K H x d → Dp K H' x d
  | _, _, .non => .non
  | _, _, .bl b => .bl b
  | _, _, .int i => .int i
  | _, _, .str x => .str x
  | _, _, .lst h r => .lst (s.seq h) (DpAll.same s r)
  | _, _, .tup h r => .tup (h.elim (fun r => .inl (r.elim (fun e => .inl (s _ _ e)) fun ⟨o, e⟩ => .inr ⟨o, s _ _ e⟩)) .inr) (DpAll.same s r)
theorem DpAll.same {K : PySem.W.Frag} {H H' : Hp} (s : Same H H') : ∀ {xs : List V} {ds : List PyData}, DpAll K H xs ds → DpAll K H' xs ds
  | _, _, .nil => .nil
  | _, _, .cons h r => .cons (Dp.same s h) (DpAll.same s r)
end
theorem paired_at {H : Hp} : ∀ {xs : List V} {vs : List Val} {j : Nat} {x : V}, Paired (VR H) xs vs → xs[j]? = some x → ∃ t v, x = .ref t ∧ VA H t v
  | _, _, 0, x, .cons ⟨t, e, h⟩ r, hj => ⟨t, _, (Option.some.inj hj).symm.trans e, h⟩
  | _, _, j + 1, x, .cons _ r, hj => paired_at r (by simpa using hj)
section
variable {P : Program} {w : World} {K : PySem.W.Frag} {mg : Str → Option Value} {base : Heap} {sa : Addr} {sx : List Int}
def spVals : Sp := fun vs H Q _ => ∃ a r, vs = [.ref a] ∧ RA H a r ∧ ∀ l xs H', Same H H' → H l = none → H' l = some (.lst xs) → xs.length ≤ 3 → Paired (VR H') xs r.ops → Q (.ref l) H'
theorem ok_l_values (T : Tx K mg sa sx) : Cal P w K mg base 1 "_law_values" spVals := by
  obtain ⟨fd, F⟩ := f_l_values T
  refine ⟨_, fd, ["_law_row"], fnok F sc_l_values (fun vs H Q E h => ?_) (fun cdv A outer s H vs Q E hr h => ?_), F.bindsN fun _ _ _ _ _ _ us hl => match us, hl with | [_], _ => rfl, g__law_values T, F.kp⟩
  · obtain ⟨a, r, rfl, _⟩ := h; rfl
  · obtain ⟨a, r, rfl, hr', k⟩ := h
    refine ⟨_, (pss_one (ps_ret (pe_lc (own := [("_law_part", 1)]) (g := gName 1) rfl sc_l_values.nd (pi_list (pe_slice sl_list (pv 0) (po_some pe_int) po_none)) (blkOk_by (own := [("_law_part", 1)]) (N := ["_law_row", "_law_part"]) (sc := defScope s_l_values) (by decide +kernel)) (fun _ _ _ _ _ => pg_name (i := 1) sc_l_values.nd rfl (Or.inl rfl)) (fun _ _ _ _ _ => (pts_one (pt_val (pe_callB (id := "isinstance") (r := rIsi K) call_isi rfl (n_isinstance T) (by decide +kernel) (pa_cons (pv 1) (pa_cons (pe_bltn (v := .ty "tuple") rfl (n_tuple T) (by decide +kernel) rfl) pa_nil)))))) (fun _ _ _ _ _ => (pv 1))))), ?_⟩
    obtain ⟨hd, rest, ha, hlen, him, hops⟩ := ra_gen hr'
    refine ⟨_, rfl, 1, rfl, a, _, rfl, SqL.of ha, fun p hp => ⟨p, rfl, ⟨_, SqL.of upd_same⟩, fun D hD => ?_⟩⟩
    rw [cut1] at hD ⊢
    have npD : p ≠ D := ne_of_none upd_same hD
    have hD0 : H D = none := (Same.new hp).free hD
    refine lc_list (K := K) (a := p) (xs := rest) (fun i H' => H' = upd (upd H p (.lst rest)) D (.lst ((rest.take i).filter isR))) rfl (fun i H' _ e => ?_) ?_ ?_
    · subst e; exact SqL.of ((upd_ne npD).trans upd_same)
    · rintro i x H' hi rfl
      obtain ⟨t, b, hb, ty, kt⟩ : ∃ t b, isR x = b ∧ TyX K (upd (upd H p (.lst rest)) D (.lst ((rest.take i).filter isR))) x t ∧ PySem.W.kitOne K t (.type "tuple") = some b := by
        rcases him x (List.mem_of_getElem? hi) with ⟨t, vs, rfl, ht⟩ | ⟨z, rfl⟩ | ⟨n, rfl⟩
        · exact ⟨_, true, rfl, .base (.tup (xs := vs) ((upd_ne (ne_of_none ht hD0)).trans ((upd_ne (ne_of_none ht hp)).trans ht))), kit_ty (by decide +kernel)⟩
        · exact ⟨_, false, rfl, .base (.str z), kit_ty (by decide +kernel)⟩
        · exact ⟨_, false, rfl, .base (.int n), kit_ty (by decide +kernel)⟩
      refine ⟨rfl, _, rfl, x, .ty "tuple", t, .type "tuple", b, rfl, .ty _, ty, kt, b, rfl, ?_⟩
      cases b with
      | true =>
        refine iteT ⟨_, rfl, _, upd_same, sz2 (Nat.le_trans (List.length_filter_le ..) (by rw [List.length_take]; omega)), ?_⟩
        rw [upd_upd, ft hi, if_pos hb]
      | false =>
        refine iteF ?_
        rw [ft hi, hb, if_neg Bool.false_ne_true, List.append_nil]
    · rintro H' rfl
      have sm : Same H (upd (upd H p (.lst rest)) D (.lst ((rest.take rest.length).filter isR))) := Same.mut (Same.new hp) hD0
      refine k D _ _ sm hD0 upd_same (Nat.le_trans (List.length_filter_le ..) (by rw [List.take_length]; exact hlen)) ?_
      rw [List.take_length] at sm ⊢
      exact paired_imp (fun _ _ => VR.keep sm) hops
def spHas (K : PySem.W.Frag) : Sp := fun vs H Q _ => ∃ o a r, vs = [.ref o, .ref a] ∧ MA K H o r ∧ RA H a r ∧ Q (.bl true) H
theorem eqv_same {v : Val} (h : v.ok) : PyData.eqv (.tuple v.ds) (.tuple v.ds) = true := by rw [eqv_val]; exact decide_eq_true rfl
theorem ok_l_has_fields (T : Tx K mg sa sx) : Cal P w K mg base 1 "_law_has_fields" (spHas K) := by
  obtain ⟨fd, F⟩ := f_l_has_fields T
  refine ⟨_, fd, ["_law_made_here", "_law_row"], fnok F sc_l_has_fields (fun vs H Q E h => ?_) (fun cdv A outer s H vs Q E hr h => ?_), F.bindsN fun _ _ _ _ _ _ us hl => match us, hl with | [_, _], _ => rfl, g__law_has_fields T, F.kp⟩
  · obtain ⟨o, a, r, rfl, _⟩ := h; rfl
  · obtain ⟨o, a, r, rfl, m, hr', k⟩ := h
    refine ⟨_, (pss_cons (ps_if (pt_cmpR op_eq (pe_ix ix_list (pv 1) pe_int (fun _ _ => rfl)) pe_str (nomark _)) (pss_one (ps_ret (pe_cmpR (op_eqD hr.units) (pe_fld (pv 0) rfl) (pe_ix ix_list (pv 1) pe_int (fun _ _ => rfl)) (nomark _)))) pss_nil)
    (pss_cons (ps_if (pt_cmpR op_eq (pe_ix ix_list (pv 1) pe_int (fun _ _ => rfl)) pe_str (nomark _)) (pss_one (ps_ret (pe_and (pe_cmpR (op_eqD hr.units) (pe_fld (pv 0) rfl) (pe_ix ix_list (pv 1) pe_int (fun _ _ => rfl)) (nomark _)) (pe_one (pe_cmpR (op_eqD hr.units) (pe_fld (pv 0) rfl) (pe_ix ix_list (pv 1) pe_int (fun _ _ => rfl)) (nomark _)))))) pss_nil)
    (pss_cons (ps_if (pt_cmpR op_eq (pe_ix ix_list (pv 1) pe_int (fun _ _ => rfl)) pe_str (nomark _)) (pss_one (ps_ret (pe_and (pe_cmpR (op_eqD hr.units) (pe_fld (pv 0) rfl) (pe_ix ix_list (pv 1) pe_int (fun _ _ => rfl)) (nomark _)) (pe_and (pe_cmpR (op_eqD hr.units) (pe_fld (pv 0) rfl) (pe_ix ix_list (pv 1) pe_int (fun _ _ => rfl)) (nomark _)) (pe_one (pe_cmpR op_eq (pe_fld (pv 0) rfl) (pe_ix ix_list (pv 1) pe_int (fun _ _ => rfl)) (nomark _))))))) pss_nil)
    (pss_cons (ps_if (pt_cmpR op_eq (pe_ix ix_list (pv 1) pe_int (fun _ _ => rfl)) pe_str (nomark _)) (pss_one (ps_ret (pe_and (pe_cmpR op_eq (pe_fld (pv 0) rfl) (pe_ix ix_list (pv 1) pe_int (fun _ _ => rfl)) (nomark _)) (pe_one (pe_cmpR op_eq (pe_fld (pv 0) rfl) (pe_ix ix_list (pv 1) pe_int (fun _ _ => rfl)) (nomark _)))))) pss_nil)
    (pss_cons (ps_if (pt_cmpR op_eq (pe_ix ix_list (pv 1) pe_int (fun _ _ => rfl)) pe_str (nomark _)) (pss_one (ps_ret (pe_and (pe_cmpR op_eq (pe_fld (pv 0) rfl) (pe_ix ix_list (pv 1) pe_int (fun _ _ => rfl)) (nomark _)) (pe_and (pe_cmpR (op_eqD hr.units) (pe_fld (pv 0) rfl) (pe_ix ix_list (pv 1) pe_int (fun _ _ => rfl)) (nomark _)) (pe_one (pe_cmpR op_eq (pe_fld (pv 0) rfl) (pe_ix ix_list (pv 1) pe_int (fun _ _ => rfl)) (nomark _))))))) pss_nil)
    (pss_one (ps_ret pe_bl))))))), ?_⟩
    cases r with
    | tell v =>
      obtain ⟨t, hv, ha⟩ := hr'
      obtain ⟨t', dx, hv', ho⟩ := m
      have hL := SqL.of (K := K) ha
      refine ⟨_, rfl, a, _, 0, .str "tell", rfl, rfl, hL, rfl, rfl, _, rfl, tT rfl ?_⟩
      refine ⟨_, rfl, o, _, dx, _, _, rfl, ho, c_Tell T, na_Tell_value T, fl1, _, rfl, a, _, 1, .ref t, rfl, rfl, hL, rfl, .tuple v.ds, .tuple v.ds, va_dp hv', va_dp hv, Val.shp hv.1, Val.shp hv.1, ?_⟩
      rw [eqv_same hv.1]
      exact k
    | set p v =>
      obtain ⟨t, u, hp, hv, ha⟩ := hr'
      obtain ⟨t', u', dx, hp', hv', ho⟩ := m
      have hL := SqL.of (K := K) ha
      refine ⟨_, rfl, a, _, 0, .str "set", rfl, rfl, hL, rfl, rfl, _, rfl, tF (by decide +kernel) ?_⟩
      refine ⟨_, rfl, a, _, 0, .str "set", rfl, rfl, hL, rfl, rfl, _, rfl, tT rfl ?_⟩
      refine ⟨_, rfl, o, _, dx, _, _, rfl, ho, c_Put T, na_Put_place T, (fl2 (by decide +kernel) fl1), _, rfl, a, _, 1, .ref t, rfl, rfl, hL, rfl, .tuple p.ds, .tuple p.ds, va_dp hp', va_dp hp, Val.shp hp.1, Val.shp hp.1, _, rfl, bT (eqv_same hp.1) ?_⟩
      refine ⟨_, rfl, o, _, dx, _, _, rfl, ho, c_Put T, na_Put_value T, fl1, _, rfl, a, _, 2, .ref u, rfl, rfl, hL, rfl, .tuple v.ds, .tuple v.ds, va_dp hv', va_dp hv, Val.shp hv.1, Val.shp hv.1, ?_⟩
      rw [eqv_same hv.1]
      exact k
    | same p v n =>
      obtain ⟨t, u, hp, hv, hn, ha⟩ := hr'
      obtain ⟨t', u', dx, hp', hv', hn', ho⟩ := m
      have hL := SqL.of (K := K) ha
      refine ⟨_, rfl, a, _, 0, .str "same", rfl, rfl, hL, rfl, rfl, _, rfl, tF (by decide +kernel) ?_⟩
      refine ⟨_, rfl, a, _, 0, .str "same", rfl, rfl, hL, rfl, rfl, _, rfl, tF (by decide +kernel) ?_⟩
      refine ⟨_, rfl, a, _, 0, .str "same", rfl, rfl, hL, rfl, rfl, _, rfl, tT rfl ?_⟩
      refine ⟨_, rfl, o, _, dx, _, _, rfl, ho, c_Same T, na_Same_left T, (fl2 (by decide +kernel) (fl2 (by decide +kernel) fl1)), _, rfl, a, _, 1, .ref t, rfl, rfl, hL, rfl, .tuple p.ds, .tuple p.ds, va_dp hp', va_dp hp, Val.shp hp.1, Val.shp hp.1, _, rfl, bT (eqv_same hp.1) ?_⟩
      refine ⟨_, rfl, o, _, dx, _, _, rfl, ho, c_Same T, na_Same_right T, (fl2 (by decide +kernel) fl1), _, rfl, a, _, 2, .ref u, rfl, rfl, hL, rfl, .tuple v.ds, .tuple v.ds, va_dp hv', va_dp hv, Val.shp hv.1, Val.shp hv.1, _, rfl, bT (eqv_same hv.1) ?_⟩
      refine ⟨_, rfl, o, _, dx, _, _, rfl, ho, c_Same T, na_Same_skip T, fl1, _, rfl, a, _, 3, .int n, rfl, rfl, hL, rfl, rfl, ?_⟩
      rw [decide_eq_true rfl]
      exact k
    | there z n =>
      obtain ⟨hz, hn, ha⟩ := hr'
      obtain ⟨dx, hz', hn', ho⟩ := m
      have hL := SqL.of (K := K) ha
      refine ⟨_, rfl, a, _, 0, .str "there", rfl, rfl, hL, rfl, rfl, _, rfl, tF (by decide +kernel) ?_⟩
      refine ⟨_, rfl, a, _, 0, .str "there", rfl, rfl, hL, rfl, rfl, _, rfl, tF (by decide +kernel) ?_⟩
      refine ⟨_, rfl, a, _, 0, .str "there", rfl, rfl, hL, rfl, rfl, _, rfl, tF (by decide +kernel) ?_⟩
      refine ⟨_, rfl, a, _, 0, .str "there", rfl, rfl, hL, rfl, rfl, _, rfl, tT rfl ?_⟩
      refine ⟨_, rfl, o, _, dx, _, _, rfl, ho, c_There T, na_There_name T, (fl2 (by decide +kernel) fl1), _, rfl, a, _, 1, .str z, rfl, rfl, hL, rfl, rfl, _, rfl, tT rfl ?_⟩
      refine ⟨_, rfl, o, _, dx, _, _, rfl, ho, c_There T, na_There_skip T, fl1, _, rfl, a, _, 2, .int n, rfl, rfl, hL, rfl, rfl, ?_⟩
      rw [decide_eq_true rfl]
      exact k
    | call z v n =>
      obtain ⟨u, hz, hv, hn, ha⟩ := hr'
      obtain ⟨u', dx, hz', hv', hn', ho⟩ := m
      have hL := SqL.of (K := K) ha
      refine ⟨_, rfl, a, _, 0, .str "call", rfl, rfl, hL, rfl, rfl, _, rfl, tF (by decide +kernel) ?_⟩
      refine ⟨_, rfl, a, _, 0, .str "call", rfl, rfl, hL, rfl, rfl, _, rfl, tF (by decide +kernel) ?_⟩
      refine ⟨_, rfl, a, _, 0, .str "call", rfl, rfl, hL, rfl, rfl, _, rfl, tF (by decide +kernel) ?_⟩
      refine ⟨_, rfl, a, _, 0, .str "call", rfl, rfl, hL, rfl, rfl, _, rfl, tF (by decide +kernel) ?_⟩
      refine ⟨_, rfl, a, _, 0, .str "call", rfl, rfl, hL, rfl, rfl, _, rfl, tT rfl ?_⟩
      refine ⟨_, rfl, o, _, dx, _, _, rfl, ho, c_Call T, na_Call_name T, (fl2 (by decide +kernel) (fl2 (by decide +kernel) fl1)), _, rfl, a, _, 1, .str z, rfl, rfl, hL, rfl, rfl, _, rfl, tT rfl ?_⟩
      refine ⟨_, rfl, o, _, dx, _, _, rfl, ho, c_Call T, na_Call_value T, (fl2 (by decide +kernel) fl1), _, rfl, a, _, 2, .ref u, rfl, rfl, hL, rfl, .tuple v.ds, .tuple v.ds, va_dp hv', va_dp hv, Val.shp hv.1, Val.shp hv.1, _, rfl, bT (eqv_same hv.1) ?_⟩
      refine ⟨_, rfl, o, _, dx, _, _, rfl, ho, c_Call T, na_Call_tag T, fl1, _, rfl, a, _, 3, .int n, rfl, rfl, hL, rfl, rfl, ?_⟩
      rw [decide_eq_true rfl]
      exact k
    | fin =>
      have ha : H a = some (.lst [.str "end"]) := hr'
      have hL := SqL.of (K := K) ha
      refine ⟨_, rfl, a, _, 0, .str "end", rfl, rfl, hL, rfl, rfl, _, rfl, tF (by decide +kernel) ?_⟩
      refine ⟨_, rfl, a, _, 0, .str "end", rfl, rfl, hL, rfl, rfl, _, rfl, tF (by decide +kernel) ?_⟩
      refine ⟨_, rfl, a, _, 0, .str "end", rfl, rfl, hL, rfl, rfl, _, rfl, tF (by decide +kernel) ?_⟩
      refine ⟨_, rfl, a, _, 0, .str "end", rfl, rfl, hL, rfl, rfl, _, rfl, tF (by decide +kernel) ?_⟩
      refine ⟨_, rfl, a, _, 0, .str "end", rfl, rfl, hL, rfl, rfl, _, rfl, tF (by decide +kernel) ?_⟩
      exact k
end
end K00
namespace K00
open PySem PySem.Spec PyProof.Rows L2 Cm
/-! ### what stays -/
/-- all but lists is kept -/
def Kn (H H' : Hp) : Prop := ∀ b o, H b = some o → (∀ xs, o ≠ .lst xs) → H' b = some o
theorem VA.kn {H H' : Hp} {t : Addr} {v : Val} (k : Kn H H') (h : VA H t v) : VA H' t v := ⟨h.1, k _ _ h.2 (fun _ z => by cases z)⟩
theorem RA.kn {H H' : Hp} {a : Addr} {r : Rw} (k : Kn H H') (e : ∀ xs, H a = some (.lst xs) → H' a = some (.lst xs)) (h : RA H a r) : RA H' a r := by
  cases r with
  | tell v => obtain ⟨t, hv, ha⟩ := h; exact ⟨t, VA.kn k hv, e _ ha⟩
  | set p v => obtain ⟨t, u, hp, hv, ha⟩ := h; exact ⟨t, u, VA.kn k hp, VA.kn k hv, e _ ha⟩
  | same x y n => obtain ⟨t, u, hp, hv, hn, ha⟩ := h; exact ⟨t, u, VA.kn k hp, VA.kn k hv, hn, e _ ha⟩
  | there x n => obtain ⟨hx, hn, ha⟩ := h; exact ⟨hx, hn, e _ ha⟩
  | call x v n => obtain ⟨u, hx, hv, hn, ha⟩ := h; exact ⟨u, hx, VA.kn k hv, hn, e _ ha⟩
  | fin => exact e _ h
theorem RA.lst {H : Hp} {a : Addr} {r : Rw} (h : RA H a r) : ∃ xs, H a = some (.lst xs) := let ⟨hd, rest, e, _⟩ := ra_gen h; ⟨_, e⟩
theorem RA.ok {H : Hp} {a : Addr} {r : Rw} (h : RA H a r) : r.ok := by
  cases r with
  | tell v => obtain ⟨t, hv, ha⟩ := h; exact hv.1
  | set p v => obtain ⟨t, u, hp, hv, ha⟩ := h; exact ⟨hp.1, hv.1⟩
  | same x y n => obtain ⟨t, u, hp, hv, hn, ha⟩ := h; exact ⟨hp.1, hv.1, hn⟩
  | there x n => obtain ⟨hx, hn, ha⟩ := h; exact ⟨hx, hn⟩
  | call x v n => obtain ⟨u, hx, hv, hn, ha⟩ := h; exact ⟨hx, hv.1, hn⟩
  | fin => exact trivial
theorem MA.kn {K : PySem.W.Frag} {H H' : Hp} {o : Addr} {r : Rw} (k : Kn H H') (h : MA K H o r) : MA K H' o r := by
  have i : ∀ {C dx fs}, H o = some (.ins C dx fs) → H' o = some (.ins C dx fs) := fun e => k _ _ e (fun _ z => by cases z)
  cases r with
  | tell v => obtain ⟨t, dx, hv, ho⟩ := h; exact ⟨t, dx, VA.kn k hv, i ho⟩
  | set p v => obtain ⟨t, u, dx, hp, hv, ho⟩ := h; exact ⟨t, u, dx, VA.kn k hp, VA.kn k hv, i ho⟩
  | same x y n => obtain ⟨t, u, dx, hp, hv, hn, ho⟩ := h; exact ⟨t, u, dx, VA.kn k hp, VA.kn k hv, hn, i ho⟩
  | there x n => obtain ⟨dx, hx, hn, ho⟩ := h; exact ⟨dx, hx, hn, i ho⟩
  | call x v n => obtain ⟨u, dx, hx, hv, hn, ho⟩ := h; exact ⟨u, dx, hx, VA.kn k hv, hn, i ho⟩
  | fin => obtain ⟨dx, ho⟩ := h; exact ⟨dx, i ho⟩
theorem Same.kn {H H' : Hp} (s : Same H H') : Kn H H' := fun b o e _ => s b o e
theorem kn_upd {H H' : Hp} {D : Addr} {xs ys : List V} (k : Kn H H') (h : H' D = some (.lst xs)) : Kn H (upd H' D (.lst ys)) := fun b o e n => by
  have e2 := k b o e n
  have nb : b ≠ D := fun z => by rw [z, h] at e2; exact n _ (Option.some.inj e2).symm
  exact (upd_ne nb).trans e2
section
variable {P : Program} {w : World} {K : PySem.W.Frag} {mg : Str → Option Value} {base : Heap} {sa : Addr} {sx : List Int}
theorem kn_kp {H H' : Hp} {p : Addr} (hP : PoolAt K sa sx H p) (k : Kp p H H') : Kn H H' := fun b o e n => by
  obtain ⟨i, c, s, hp, _⟩ := hP
  have nb : b ≠ p := fun z => by rw [z, hp] at e; exact n _ (Option.some.inj e).symm
  exact k b o nb e
theorem pool_upd {H : Hp} {p D : Addr} {o : HO} (hP : PoolAt K sa sx H p) (nD : D ≠ p) (hd : sa ≠ D ∨ ∀ H', SqL K H' sa (sx.map V.int)) : PoolAt K sa sx (upd H D o) p := by
  obtain ⟨i, b, s, hp, na, hS, r⟩ := hP
  refine ⟨i, b, s, (upd_ne nD.symm).trans hp, na, ?_, r⟩
  rcases hd with n | z
  · refine hS.elim (fun q => .inl ?_) .inr
    exact q.elim (fun e => .inl ((upd_ne n).trans e)) fun ⟨o', e⟩ => .inr ⟨o', (upd_ne n).trans e⟩
  · exact z _
theorem sq_new {H : Hp} {a q : Addr} {xs : List V} (h : SqL K H a xs) (hq : H q = none) : a ≠ q ∨ ∀ H', SqL K H' a xs :=
  h.elim (fun r => .inl (r.elim (fun e => ne_of_none e hq) fun ⟨o, e⟩ => ne_of_none e hq)) fun r => .inr fun H' => .inr r
/-! ### the checks, one by one -/
theorem mg_ops (T : Tx K mg sa sx) {H : Hp} {o : Addr} {r : Rw} {Q : VK} (m : MA K H o r) (k : ∀ l xs, H l = none → xs.length ≤ 2 → DpAll K H xs r.opd → Q (.ref l) (upd H l (.lst xs))) :
    ∃ a C dx fs sp, V.ref o = .ref a ∧ H a = some (.ins C dx fs) ∧ fs.lookup ("operands" : Str) = none ∧ MCal P w K mg base 1 C "operands" sp ∧ sp [.ref a] H Q E0 := by
  cases r with
  | tell v => obtain ⟨t, dx, hv, ho⟩ := m; exact ⟨o, _, _, _, _, rfl, ho, fl2 (by decide +kernel) rfl, ok_Tell_operands T, o, _, ⟨v, rfl⟩, rfl, ⟨t, dx, hv, ho⟩, k⟩
  | set p v => obtain ⟨t, u, dx, hp, hv, ho⟩ := m; exact ⟨o, _, _, _, _, rfl, ho, fl2 (by decide +kernel) (fl2 (by decide +kernel) rfl), ok_Put_operands T, o, _, ⟨p, v, rfl⟩, rfl, ⟨t, u, dx, hp, hv, ho⟩, k⟩
  | same x y n => obtain ⟨t, u, dx, hp, hv, hn, ho⟩ := m; exact ⟨o, _, _, _, _, rfl, ho, fl2 (by decide +kernel) (fl2 (by decide +kernel) (fl2 (by decide +kernel) rfl)), ok_Same_operands T, o, _, ⟨x, y, n, rfl⟩, rfl, ⟨t, u, dx, hp, hv, hn, ho⟩, k⟩
  | there x n => obtain ⟨dx, hx, hn, ho⟩ := m; exact ⟨o, _, _, _, _, rfl, ho, fl2 (by decide +kernel) (fl2 (by decide +kernel) rfl), ok_There_operands T, o, _, ⟨x, n, rfl⟩, rfl, ⟨dx, hx, hn, ho⟩, k⟩
  | call x v n => obtain ⟨u, dx, hx, hv, hn, ho⟩ := m; exact ⟨o, _, _, _, _, rfl, ho, fl2 (by decide +kernel) (fl2 (by decide +kernel) (fl2 (by decide +kernel) rfl)), ok_Call_operands T, o, _, ⟨x, v, n, rfl⟩, rfl, ⟨u, dx, hx, hv, hn, ho⟩, k⟩
  | fin => obtain ⟨dx, ho⟩ := m; exact ⟨o, _, _, _, _, rfl, ho, rfl, ok_End_operands T, o, _, rfl, rfl, ⟨dx, ho⟩, k⟩
theorem mg_text (T : Tx K mg sa sx) {H : Hp} {o : Addr} {r : Rw} {Q : VK} (m : MA K H o r) (k : Q (.str r.tx) H) :
    ∃ a C dx fs sp, V.ref o = .ref a ∧ H a = some (.ins C dx fs) ∧ fs.lookup ("text" : Str) = none ∧ MCal P w K mg base 2 C "text" sp ∧ sp [.ref a] H Q E0 := by
  cases r with
  | tell v => obtain ⟨t, dx, hv, ho⟩ := m; exact ⟨o, _, _, _, _, rfl, ho, fl2 (by decide +kernel) rfl, ok_Tell_text T, o, _, ⟨v, rfl⟩, rfl, ⟨t, dx, hv, ho⟩, k⟩
  | set p v => obtain ⟨t, u, dx, hp, hv, ho⟩ := m; exact ⟨o, _, _, _, _, rfl, ho, fl2 (by decide +kernel) (fl2 (by decide +kernel) rfl), ok_Put_text T, o, _, ⟨p, v, rfl⟩, rfl, ⟨t, u, dx, hp, hv, ho⟩, k⟩
  | same x y n => obtain ⟨t, u, dx, hp, hv, hn, ho⟩ := m; exact ⟨o, _, _, _, _, rfl, ho, fl2 (by decide +kernel) (fl2 (by decide +kernel) (fl2 (by decide +kernel) rfl)), ok_Same_text T, o, _, ⟨x, y, n, rfl⟩, rfl, ⟨t, u, dx, hp, hv, hn, ho⟩, k⟩
  | there x n => obtain ⟨dx, hx, hn, ho⟩ := m; exact ⟨o, _, _, _, _, rfl, ho, fl2 (by decide +kernel) (fl2 (by decide +kernel) rfl), (ok_There_text T).mono (by decide), o, _, ⟨x, n, rfl⟩, rfl, ⟨dx, hx, hn, ho⟩, k⟩
  | call x v n => obtain ⟨u, dx, hx, hv, hn, ho⟩ := m; exact ⟨o, _, _, _, _, rfl, ho, fl2 (by decide +kernel) (fl2 (by decide +kernel) (fl2 (by decide +kernel) rfl)), ok_Call_text T, o, _, ⟨x, v, n, rfl⟩, rfl, ⟨u, dx, hx, hv, hn, ho⟩, k⟩
  | fin => obtain ⟨dx, ho⟩ := m; exact ⟨o, _, _, _, _, rfl, ho, rfl, (ok_End_text T).mono (by decide), o, _, rfl, rfl, ⟨dx, ho⟩, k⟩
theorem mg_eq (T : Tx K mg sa sx) {H : Hp} {o : Addr} {r : Rw} (m : MA K H o r) : ∃ dx fs f, H o = some (.ins (He.ga K r.cn) dx fs) ∧ f r ∧ MCal P w K mg base 1 (He.ga K r.cn) "__eq__" (spEq K f) := by
  obtain ⟨dx, fs, e⟩ := ma_ins m
  cases r with
  | tell v => exact ⟨dx, fs, _, e, ⟨v, rfl⟩, ok_Tell_eq T⟩
  | set p v => exact ⟨dx, fs, _, e, ⟨p, v, rfl⟩, ok_Put_eq T⟩
  | same x y n => exact ⟨dx, fs, _, e, ⟨x, y, n, rfl⟩, ok_Same_eq T⟩
  | there x n => exact ⟨dx, fs, _, e, ⟨x, n, rfl⟩, ok_There_eq T⟩
  | call x v n => exact ⟨dx, fs, _, e, ⟨x, v, n, rfl⟩, ok_Call_eq T⟩
  | fin => exact ⟨dx, fs, fun r => r = Rw.fin, e, rfl, ok_End_eq T⟩
theorem nf (T : Tx K mg sa sx) (r r' : Rw) : PySem.W.notFirst K (He.ga K r.cn) (.ref (He.ga K r'.cn)) = true := by
  cases r with
  | tell v =>
    cases r' with
    | tell v => exact x_nf_Tell_Tell T
    | set p v => exact x_nf_Tell_Put T
    | same x y n => exact x_nf_Tell_Same T
    | there x n => exact x_nf_Tell_There T
    | call x v n => exact x_nf_Tell_Call T
    | fin => exact x_nf_Tell_End T
  | set p v =>
    cases r' with
    | tell v => exact x_nf_Put_Tell T
    | set p v => exact x_nf_Put_Put T
    | same x y n => exact x_nf_Put_Same T
    | there x n => exact x_nf_Put_There T
    | call x v n => exact x_nf_Put_Call T
    | fin => exact x_nf_Put_End T
  | same x y n =>
    cases r' with
    | tell v => exact x_nf_Same_Tell T
    | set p v => exact x_nf_Same_Put T
    | same x y n => exact x_nf_Same_Same T
    | there x n => exact x_nf_Same_There T
    | call x v n => exact x_nf_Same_Call T
    | fin => exact x_nf_Same_End T
  | there x n =>
    cases r' with
    | tell v => exact x_nf_There_Tell T
    | set p v => exact x_nf_There_Put T
    | same x y n => exact x_nf_There_Same T
    | there x n => exact x_nf_There_There T
    | call x v n => exact x_nf_There_Call T
    | fin => exact x_nf_There_End T
  | call x v n =>
    cases r' with
    | tell v => exact x_nf_Call_Tell T
    | set p v => exact x_nf_Call_Put T
    | same x y n => exact x_nf_Call_Same T
    | there x n => exact x_nf_Call_There T
    | call x v n => exact x_nf_Call_Call T
    | fin => exact x_nf_Call_End T
  | fin =>
    cases r' with
    | tell v => exact x_nf_End_Tell T
    | set p v => exact x_nf_End_Put T
    | same x y n => exact x_nf_End_Same T
    | there x n => exact x_nf_End_There T
    | call x v n => exact x_nf_End_Call T
    | fin => exact x_nf_End_End T
theorem nfs (T : Tx K mg sa sx) (r : Rw) : PySem.W.notFirst K (He.ga K r.cn) (.type "str") = true := by
  cases r with
  | tell v => exact x_nfs_Tell T
  | set p v => exact x_nfs_Put T
  | same x y n => exact x_nfs_Same T
  | there x n => exact x_nfs_There T
  | call x v n => exact x_nfs_Call T
  | fin => exact x_nfs_End T
theorem own_eq (T : Tx K mg sa sx) {H : Hp} {o o' : Addr} {r r' : Rw} {Q : VK} (m : MA K H o r) (m' : MA K H o' r') (k : Q (.bl (decide (r = r'))) H) : rOwnG P w K mg base 1 "__eq__" (.ref o) (.ref o') H Q := by
  obtain ⟨dx, fs, f, e, hf, c⟩ := mg_eq (P := P) (w := w) (base := base) T m
  obtain ⟨dx', fs', e'⟩ := ma_ins m'
  exact ⟨o, _, dx, fs, _, rfl, e, c, .inl ⟨o', _, dx', fs', rfl, e', nf T r r'⟩, o, r, _, hf, rfl, m, .inl ⟨o', r', rfl, m', k⟩⟩
theorem own_eqs (T : Tx K mg sa sx) {H : Hp} {o : Addr} {r : Rw} {z : Str} {Q : VK} (m : MA K H o r) (k : Q (.bl false) H) : rOwnG P w K mg base 1 "__eq__" (.ref o) (.str z) H Q := by
  obtain ⟨dx, fs, f, e, hf, c⟩ := mg_eq (P := P) (w := w) (base := base) T m
  exact ⟨o, _, dx, fs, _, rfl, e, c, .inr ⟨z, rfl, nfs T r⟩, o, r, _, hf, rfl, m, .inr ⟨z, rfl, k⟩⟩
end
/-! ### data as a whole -/
theorem lay_all : ∀ {vs : List Val}, (∀ v ∈ vs, v.ok) → PyData.canLayAll0 (vs.map fun v => .tuple v.ds) = true ∧ PyData.depthAll (vs.map fun v => .tuple v.ds) ≤ 1
  | [], _ => ⟨rfl, Nat.zero_le _⟩
  | v :: vs, h => by
    obtain ⟨h1, h2⟩ := lay_all (vs := vs) fun u hu => h u (List.mem_cons_of_mem _ hu)
    obtain ⟨h3, h4⟩ := Val.lay (h v List.mem_cons_self)
    refine ⟨?_, ?_⟩
    · show PyData.canLayAll0 (.tuple v.ds :: vs.map fun v => .tuple v.ds) = true
      rw [PyData.canLayAll0, h3, h1]; rfl
    · show PyData.depthAll (.tuple v.ds :: vs.map fun v => .tuple v.ds) ≤ 1
      rw [PyData.depthAll, h4]
      exact Nat.max_le.mpr ⟨Nat.le_refl _, h2⟩
theorem ops_ok {r : Rw} (h : r.ok) : ∀ v ∈ r.ops, v.ok := by
  cases r with
  | tell v => intro u hu; simp only [Rw.ops, List.mem_singleton] at hu; subst hu; exact h
  | set p v => intro u hu; simp only [Rw.ops, List.mem_cons, List.not_mem_nil, or_false] at hu; rcases hu with rfl | rfl; exact h.1; exact h.2
  | same x y n => intro u hu; simp only [Rw.ops, List.mem_cons, List.not_mem_nil, or_false] at hu; rcases hu with rfl | rfl; exact h.1; exact h.2.1
  | there x n => intro u hu; simp [Rw.ops] at hu
  | call x v n => intro u hu; simp only [Rw.ops, List.mem_singleton] at hu; subst hu; exact h.2.1
  | fin => intro u hu; simp [Rw.ops] at hu
theorem opd_shp {r : Rw} (h : r.ok) : SeqAt.shaped (.list r.opd) = true ∧ PyData.eqv (.list r.opd) (.list r.opd) = true := by
  obtain ⟨h1, h2⟩ := lay_all (ops_ok h)
  have h3 : PyData.canLay0 (.list r.opd) = true := by rw [PyData.canLay0]; exact h1
  refine ⟨?_, SeqAt.eqv_refl _ h3⟩
  unfold SeqAt.shaped
  rw [h3, Bool.true_and]
  refine decide_eq_true ?_
  rw [PyData.depth]
  exact Nat.le_trans (Nat.succ_le_succ h2) (by decide)
theorem strl {x : Str} (h : PyData.strOk x = true) : PyData.canLay0 (.str x) = true := by rw [PyData.canLay0]; exact h
theorem row_shp {r : Rw} (h : r.ok) : SeqAt.shaped (.list r.ds) = true := by
  have il : ∀ n : Int, PyData.canLay0 (.int n) = true := fun n => by rw [PyData.canLay0]
  cases r with
  | tell v =>
    obtain ⟨a, b⟩ := Val.lay h
    unfold SeqAt.shaped
    simp only [Rw.ds, PyData.canLay0, PyData.canLayAll0, PyData.depth, PyData.depthAll] at a b ⊢
    rw [a, show PyData.strOk "tell" = true by decide +kernel]
    simp only [Bool.and_true, Bool.true_and, decide_eq_true_eq]; omega
  | set p v =>
    obtain ⟨a, b⟩ := Val.lay h.1
    obtain ⟨c, d⟩ := Val.lay h.2
    unfold SeqAt.shaped
    simp only [Rw.ds, PyData.canLay0, PyData.canLayAll0, PyData.depth, PyData.depthAll] at a b c d ⊢
    rw [a, c, show PyData.strOk "set" = true by decide +kernel]
    simp only [Bool.and_true, Bool.true_and, decide_eq_true_eq]; omega
  | same p v n =>
    obtain ⟨a, b⟩ := Val.lay h.1
    obtain ⟨c, d⟩ := Val.lay h.2.1
    unfold SeqAt.shaped
    simp only [Rw.ds, PyData.canLay0, PyData.canLayAll0, PyData.depth, PyData.depthAll] at a b c d ⊢
    rw [a, c, show PyData.strOk "same" = true by decide +kernel]
    simp only [Bool.and_true, Bool.true_and, decide_eq_true_eq]; omega
  | there x n =>
    unfold SeqAt.shaped
    simp only [Rw.ds, PyData.canLay0, PyData.canLayAll0, PyData.depth, PyData.depthAll]
    rw [strOk_nm h.1, show PyData.strOk "there" = true by decide +kernel]
    simp only [Bool.and_true, Bool.true_and, decide_eq_true_eq]; omega
  | call x v n =>
    obtain ⟨a, b⟩ := Val.lay h.2.1
    unfold SeqAt.shaped
    simp only [Rw.ds, PyData.canLay0, PyData.canLayAll0, PyData.depth, PyData.depthAll] at a b ⊢
    rw [a, strOk_nm h.1, show PyData.strOk "call" = true by decide +kernel]
    simp only [Bool.and_true, Bool.true_and, decide_eq_true_eq]; omega
  | fin =>
    unfold SeqAt.shaped
    simp only [Rw.ds, PyData.canLay0, PyData.canLayAll0, PyData.depth, PyData.depthAll]
    rw [show PyData.strOk "end" = true by decide +kernel]
    rfl
theorem ra_dp {K : PySem.W.Frag} {H : Hp} {a : Addr} {r : Rw} (h : RA H a r) : Dp K H (.ref a) (.list r.ds) := by
  cases r with
  | tell v => obtain ⟨t, hv, ha⟩ := h; exact .lst (SqL.of ha) (.cons (.str _) (.cons (va_dp hv) .nil))
  | set p v => obtain ⟨t, u, hp, hv, ha⟩ := h; exact .lst (SqL.of ha) (.cons (.str _) (.cons (va_dp hp) (.cons (va_dp hv) .nil)))
  | same x y n => obtain ⟨t, u, hp, hv, hn, ha⟩ := h; exact .lst (SqL.of ha) (.cons (.str _) (.cons (va_dp hp) (.cons (va_dp hv) (.cons (.int _) .nil))))
  | there x n => obtain ⟨hx, hn, ha⟩ := h; exact .lst (SqL.of ha) (.cons (.str _) (.cons (.str _) (.cons (.int _) .nil)))
  | call x v n => obtain ⟨u, hx, hv, hn, ha⟩ := h; exact .lst (SqL.of ha) (.cons (.str _) (.cons (.str _) (.cons (va_dp hv) (.cons (.int _) .nil))))
  | fin => exact .lst (SqL.of h) (.cons (.str _) .nil)
end K00
namespace K00
open PySem PySem.Spec PyProof.Rows L2 Cm
/-- the rows at R, what was made of them at M -/
structure Gd (K : PySem.W.Frag) (H : Hp) (R M : Addr) (as : List (Addr × Rw)) (os : List Addr) : Prop where
  r : H R = some (.lst (as.map fun q => V.ref q.1))
  m : H M = some (.lst (os.map V.ref))
  l : os.length = as.length
  sz : as.length ≤ 20
  at_ : ∀ (i : Nat) (q : Addr × Rw) (o : Addr), as[i]? = some q → os[i]? = some o → RA H q.1 q.2 ∧ MA K H o q.2
theorem Gd.keep {K : PySem.W.Frag} {H H' : Hp} {R M : Addr} {as : List (Addr × Rw)} {os : List Addr} (g : Gd K H R M as os) (s : Same H H') : Gd K H' R M as os :=
  ⟨s _ _ g.r, s _ _ g.m, g.l, g.sz, fun i q o h1 h2 => let ⟨a, b⟩ := g.at_ i q o h1 h2; ⟨a.kn (Same.kn s) (fun _ e => s _ _ e), b.kn (Same.kn s)⟩⟩
theorem Gd.get {K : PySem.W.Frag} {H : Hp} {R M : Addr} {as : List (Addr × Rw)} {os : List Addr} (g : Gd K H R M as os) {i : Nat} (h : i < as.length) :
    ∃ (a o : Addr) (r : Rw), atI (as.map fun q => V.ref q.1) (0 + (i : Int)) = some (.ref a) ∧ atI (os.map V.ref) (0 + (i : Int)) = some (.ref o) ∧ RA H a r ∧ MA K H o r := by
  have h2 : i < os.length := by rw [g.l]; exact h
  obtain ⟨x, y⟩ := g.at_ i as[i] os[i] (List.getElem?_eq_getElem h) (List.getElem?_eq_getElem h2)
  exact ⟨_, _, _, at_of (j := i) (by omega) (by rw [List.getElem?_map, List.getElem?_eq_getElem h]; rfl), at_of (j := i) (by omega) (by rw [List.getElem?_map, List.getElem?_eq_getElem h2]; rfl), x, y⟩
section
variable {P : Program} {w : World} {K : PySem.W.Frag} {mg : Str → Option Value} {base : Heap} {sa : Addr} {sx : List Int}
theorem Tx.cast (T : Tx K mg sa sx) (a : Addr) (x : List Int) : Tx K mg a x := by
  cases T
  constructor <;> assumption
def spLaw (K : PySem.W.Frag) : Sp := fun vs H Q _ => ∃ (a : Addr) (ns : List Int), vs = [.ref a] ∧ SqL K H a (ns.map V.int) ∧ ∀ H', Q (.bl true) H'
theorem ok_law (T0 : Tx K mg sa sx) {fd : FuncData} (F : FunD K "law" "law" (defArgs s_law) (defBody s_law) (defScope s_law) [] [] (He.ga K "law") fd) : FnOk P w K mg base CX0 6 (He.ga K "law") fd ["_law_script"] (spLaw K) := by
  refine fnok F sc_law (fun vs H Q E h => ?_) (fun cdv A outer s H vs Q E hr h => ?_)
  · obtain ⟨a, ns, rfl, _⟩ := h; rfl
  · obtain ⟨a, ns, rfl, hS, k⟩ := h
    have T : Tx K mg a ns := T0.cast a ns
    refine ⟨_, (pss_cons (ps_set (i := 1) sc_law.nd rfl (by first | exact Or.inl rfl | exact Or.inr rfl) (pe_lst (pa_cons (pv 0) (pa_cons pe_int (pa_cons pe_int (pa_cons pe_int pa_nil))))))
    (pss_cons (ps_setLc (i := 2) (own := [("_law_k", 3)]) (g := gName 3) rfl sc_law.nd rfl rfl (sw_true rfl rfl rfl (by decide +kernel)) (pi_range1 rfl (n_range T) (pa_cons (pe_op op_add pe_int (pe_cal (ok_l_draw T) hr (by decide) (pa_cons (pv 1) (pa_cons pe_int pa_nil)))) pa_nil)) (blkOk_by (own := [("_law_k", 3)]) (N := ["_law_script", "_law_pool", "_law_rows", "_law_k", "_law_made_here", "_law_row", "_law_told", "_law_value", "_law_j"]) (sc := defScope s_law) (by decide +kernel)) (fun _ _ _ _ _ => pg_name (i := 3) sc_law.nd rfl (Or.inl rfl)) (fun _ _ _ _ _ => pts_nil) (fun _ _ _ _ _ => (pe_cal (ok_l_drawn_row T) hr (by decide) (pa_cons (pv 1) pa_nil))))
    (pss_cons (ps_setLc (i := 4) (own := [("_law_row", 5)]) (g := gName 5) rfl sc_law.nd rfl rfl (sw_true rfl rfl rfl (by decide +kernel)) (pi_list (pv 2)) (blkOk_by (own := [("_law_row", 5)]) (N := ["_law_script", "_law_pool", "_law_rows", "_law_k", "_law_made_here", "_law_row", "_law_told", "_law_value", "_law_j"]) (sc := defScope s_law) (by decide +kernel)) (fun _ _ _ _ _ => pg_name (i := 5) sc_law.nd rfl (Or.inl rfl)) (fun _ _ _ _ _ => pts_nil) (fun _ _ _ _ _ => (pe_cal (ok_l_made T) hr (by decide) (pa_cons (pv 5) pa_nil))))
    (pss_cons (ps_for PassesOwn.never rfl (pi_range1 rfl (n_range T) (pa_cons (pe_callB (id := "len") call_len_seq rfl (n_len T) (by decide +kernel) (pa_cons (pv 2) pa_nil)) pa_nil)) (pg_name (i := 3) sc_law.nd rfl (by first | exact Or.inl rfl | exact Or.inr rfl))
      (pss_cons (ps_set (i := 6) sc_law.nd rfl (by first | exact Or.inl rfl | exact Or.inr rfl) (pe_mG (k := 1) hr (by decide) (pe_ix ix_list (pv 4) (pv 3) (fun _ _ => rfl))))
      (pss_cons (ps_if (PW.pt (pw_or (pt_not (pt_val (pe_callB (id := "isinstance") (r := rIsi K) call_isi rfl (n_isinstance T) (by decide +kernel) (pa_cons (pv 6) (pa_cons (pe_bltn (v := .ty "list") rfl (n_list T) (by decide +kernel) rfl) pa_nil))))) (pw_or1 (pt_cmpR (op_neD hr.units) (pv 6) (pe_cal (ok_l_values T) hr (by decide) (pa_cons (pe_ix ix_list (pv 2) (pv 3) (fun _ _ => rfl)) pa_nil)) (nomark _))))) (pss_one (ps_ret pe_bl)) pss_nil)
      (pss_one (ps_expr (pe_bm PySem.F.plainAttrs_list PySem.F.slot_list_append PySem.F.type_list_append mt_append (pv 6) (pa_cons (pe_tup (pa_cons pe_str (pa_cons (pv 3) pa_nil))) pa_nil)))))))
    (pss_cons (ps_for PassesOwn.never rfl (pi_range1 rfl (n_range T) (pa_cons (pe_callB (id := "len") call_len_seq rfl (n_len T) (by decide +kernel) (pa_cons (pv 2) pa_nil)) pa_nil)) (pg_name (i := 3) sc_law.nd rfl (by first | exact Or.inl rfl | exact Or.inr rfl))
      (pss_cons (ps_if (PW.pt (pw_or (pt_not (pt_val (pe_callB (id := "isinstance") (r := rIsi K) call_isi rfl (n_isinstance T) (by decide +kernel) (pa_cons (pe_mG (k := 2) hr (by decide) (pe_ix ix_list (pv 4) (pv 3) (fun _ _ => rfl))) (pa_cons (pe_bltn (v := .ty "str") rfl (n_str T) (by decide +kernel) rfl) pa_nil))))) (pw_or1 (pt_cmpR op_ne (pe_mG (k := 2) hr (by decide) (pe_ix ix_list (pv 4) (pv 3) (fun _ _ => rfl))) (pe_cal (ok_l_line T) hr (by decide) (pa_cons (pe_ix ix_list (pv 2) (pv 3) (fun _ _ => rfl)) pa_nil)) (nomark _))))) (pss_one (ps_ret pe_bl)) pss_nil)
      (pss_cons (ps_if (PW.pt (pw_or (pt_cmpR (op_neD hr.units) (pe_mG (k := 1) hr (by decide) (pe_ix ix_list (pv 4) (pv 3) (fun _ _ => rfl))) (pe_cal (ok_l_values T) hr (by decide) (pa_cons (pe_ix ix_list (pv 2) (pv 3) (fun _ _ => rfl)) pa_nil)) (nomark _)) (pw_or1 (pt_not (pt_val (pe_cal (ok_l_has_fields T) hr (by decide) (pa_cons (pe_ix ix_list (pv 4) (pv 3) (fun _ _ => rfl)) (pa_cons (pe_ix ix_list (pv 2) (pv 3) (fun _ _ => rfl)) pa_nil)))))))) (pss_one (ps_ret pe_bl)) pss_nil)
      (pss_cons (ps_for PassesOwn.never rfl (pi_list (pe_cal (ok_l_values T) hr (by decide) (pa_cons (pe_ix ix_list (pv 2) (pv 3) (fun _ _ => rfl)) pa_nil))) (pg_name (i := 7) sc_law.nd rfl (by first | exact Or.inl rfl | exact Or.inr rfl))
        (pss_one (ps_if (pt_cmpR op_ne (pe_cal (ok_value_text T) hr (by decide) (pa_cons (pv 7) pa_nil)) (pe_cal (ok_l_value_word T) hr (by decide) (pa_cons (pv 7) pa_nil)) (nomark _)) (pss_one (ps_ret pe_bl)) pss_nil)))
      (pss_cons (ps_for PassesOwn.never rfl (pi_range1 rfl (n_range T) (pa_cons (pe_callB (id := "len") call_len_seq rfl (n_len T) (by decide +kernel) (pa_cons (pv 2) pa_nil)) pa_nil)) (pg_name (i := 8) sc_law.nd rfl (by first | exact Or.inl rfl | exact Or.inr rfl))
        (pss_one (ps_if (pt_cmpR op_ne (pe_cmpR (op_ownG (k := 1) hr (by decide)) (pe_ix ix_list (pv 4) (pv 3) (fun _ _ => rfl)) (pe_ix ix_list (pv 4) (pv 8) (fun _ _ => rfl)) (nomark _)) (pe_cmpR (op_eqD hr.units) (pe_ix ix_list (pv 2) (pv 3) (fun _ _ => rfl)) (pe_ix ix_list (pv 2) (pv 8) (fun _ _ => rfl)) (nomark _)) (nomark _)) (pss_one (ps_ret pe_bl)) pss_nil)))
      (pss_one (ps_if (PW.pt (pw_or (pt_not (pt_cmpR (op_ownG (k := 1) hr (by decide)) (pe_ix ix_list (pv 4) (pv 3) (fun _ _ => rfl)) (pe_cal (ok_l_made T) hr (by decide) (pa_cons (pe_ix ix_list (pv 2) (pv 3) (fun _ _ => rfl)) pa_nil)) (nomark _))) (pw_or1 (pt_cmpR (op_ownG (k := 1) hr (by decide)) (pe_ix ix_list (pv 4) (pv 3) (fun _ _ => rfl)) (pe_cal (ok_l_line T) hr (by decide) (pa_cons (pe_ix ix_list (pv 2) (pv 3) (fun _ _ => rfl)) pa_nil)) (nomark _))))) (pss_one (ps_ret pe_bl)) pss_nil)))))))
    (pss_one (ps_ret pe_bl))))))), ?_⟩
    -- the pool
    refine ⟨_, rfl, sz1 (by simp), fun p hp => ?_⟩
    have P0 : PoolAt K a ns (upd H p (.lst [V.ref a, V.int 0, V.int 0, V.int 7])) p :=
      ⟨0, 0, 7, upd_same, sq_new hS hp, (sq_new hS hp).elim (fun n => Kp.sl (p := p) (Kp.refl.new hp) n hS) (fun z => z _), by decide, by decide, by decide, by decide⟩
    -- the rows
    refine ⟨_, rfl, p, 12, rfl, by decide, io (by decide), P0, fun m H2 m0 m1 k2 p2 => ⟨1, m, rfl, rfl, 1 + m, rfl, by omega, by omega, fun R hR => ?_⟩⟩
    have hRp : R ≠ p := pool_ne p2 hR
    have hRa : a ≠ R ∨ ∀ H', SqL K H' a (ns.map V.int) := by
      obtain ⟨_, _, _, _, _, hq, _⟩ := p2
      exact sq_new hq hR
    refine lc_range (lo := 0) (n := (1 + m).toNat) (fun i H' => ∃ as : List (Addr × Rw), as.length = i ∧ H' R = some (.lst (as.map fun q => V.ref q.1)) ∧ (∀ q ∈ as, RA H' q.1 q.2 ∧ q.1 ≠ p ∧ q.1 ≠ R) ∧ PoolAt K a ns H' p)
      ⟨[], rfl, upd_same, (by simp), pool_upd p2 hRp hRa⟩ ?_ ?_
    · rintro i H' hi ⟨as, la, hR', hq, hP⟩
      refine ⟨rfl, _, rfl, p, rfl, hP, fun b r H4 hra nbp hb0 k4 p4 => ⟨_, k4 _ _ hRp hR', sz2 (by rw [List.length_map, la]; omega), ?_⟩⟩
      have hR4 : H4 R = some (.lst (as.map fun q => V.ref q.1)) := k4 _ _ hRp hR'
      have nbR : b ≠ R := (ne_of_none hR' hb0).symm
      have kn4 : Kn H4 (upd H4 R (.lst ((as.map fun q => V.ref q.1) ++ [V.ref b]))) := kn_upd (fun _ _ e _ => e) hR4
      refine ⟨as ++ [(b, r)], by rw [List.length_append, la]; rfl, by rw [List.map_append]; exact upd_same, fun q hq' => ?_, pool_upd p4 hRp hRa⟩
      rcases List.mem_append.mp hq' with h | h
      · obtain ⟨h1, h2, h3⟩ := hq q h
        obtain ⟨xs, e⟩ := h1.lst
        refine ⟨(h1.kn (kn_kp hP k4) (fun _ e => k4 _ _ h2 e)).kn kn4 (fun _ e => (upd_ne h3).trans e), h2, h3⟩
      · have e : q = (b, r) := by simpa using h
        subst e
        exact ⟨hra.kn kn4 (fun _ e => (upd_ne nbR).trans e), nbp, nbR⟩
    · -- what is made of them
      rintro H3 ⟨as, la, hR3, hq3, hP3⟩
      refine ⟨_, rfl, R, rfl, ⟨_, SqL.of hR3⟩, fun M hM => ?_⟩
      have nRM : R ≠ M := ne_of_none hR3 hM
      refine lc_list (K := K) (a := R) (xs := as.map fun q => V.ref q.1) (fun i H' => ∃ os : List Addr, os.length = i ∧ H' M = some (.lst (os.map V.ref)) ∧ Same H3 H' ∧ ∀ (j : Nat) (q : Addr × Rw) (o : Addr), as[j]? = some q → os[j]? = some o → MA K H' o q.2)
        ⟨[], rfl, upd_same, Same.new hM, fun j q o _ h => by simp at h⟩ (fun i H' _ ⟨os, _, _, sm, _⟩ => SqL.of (sm _ _ hR3)) ?_ ?_
      · rintro i x H' hi ⟨os, lo, hM', sm, hm⟩
        rw [List.getElem?_map] at hi
        obtain ⟨q, hq, rfl⟩ : ∃ q, as[i]? = some q ∧ V.ref q.1 = x := by
          cases e : as[i]? with
          | none => rw [e] at hi; cases hi
          | some q => rw [e] at hi; exact ⟨q, rfl, Option.some.inj hi⟩
        have hil : i < as.length := (List.getElem?_eq_some_iff.mp hq).1
        have hra := (hq3 q (List.mem_of_getElem? hq)).1
        refine ⟨rfl, _, rfl, q.1, q.2, rfl, hra.kn (Same.kn sm) (fun _ e => sm _ _ e), fun o H4 ho s4 => ⟨_, s4 _ _ hM', sz2 (by rw [List.length_map, lo]; omega), ?_⟩⟩
        have kn4 : Kn H4 (upd H4 M (.lst ((os.map V.ref) ++ [V.ref o]))) := kn_upd (fun _ _ e _ => e) (s4 _ _ hM')
        refine ⟨os ++ [o], by rw [List.length_append, lo]; rfl, by rw [List.map_append]; exact upd_same, Same.mut (sm.trans s4) hM, fun j q' o' h1 h2 => ?_⟩
        by_cases hj : j < os.length
        · rw [List.getElem?_append_left hj] at h2
          exact ((hm j q' o' h1 h2).kn (Same.kn s4)).kn kn4
        · rw [List.getElem?_append_right (by omega)] at h2
          have hj2 : j - os.length = 0 := by
            have := (List.getElem?_eq_some_iff.mp h2).1
            simpa using this
          rw [hj2] at h2
          have e1 : o = o' := by simpa using h2
          have e2 : j = i := by omega
          rw [e2, hq] at h1
          cases h1
          subst e1
          exact ho.kn kn4
      · rintro H5 ⟨os, lo, hM5, sm5, hm5⟩
        rw [List.length_map] at lo
        have g5 : Gd K H5 R M as os := ⟨sm5 _ _ hR3, hM5, lo, by omega, fun i q o h1 h2 => ⟨(hq3 q (List.mem_of_getElem? h1)).1.kn (Same.kn sm5) (fun _ e => sm5 _ _ e), hm5 i q o h1 h2⟩⟩
        -- the values told, and told lists that change
        refine ⟨_, rfl, R, _, rfl, .inl (SqL.of g5.r), _, rfl, by rw [List.length_map]; omega, by rw [List.length_map]; have := g5.sz; omega, ?_⟩
        rw [List.length_map, Int.toNat_natCast]
        refine for_range (lo := 0) (n := as.length) (fun i σ H' => ∃ (k3 k6 : Option V), σ = [some (.ref a), some (.ref p), some (.ref R), k3, some (.ref M), none, k6, none, none] ∧ Same H5 H') ⟨none, none, rfl, Same.refl _⟩ ?_ ?_
        · rintro i σ H' hi ⟨k3, k6, rfl, sm⟩
          have g := g5.keep sm
          obtain ⟨b, o, r, e1, e2, hra, hma⟩ := g.get hi
          have rok := hra.ok
          refine ⟨_, rfl, _, rfl, M, _, _, _, rfl, rfl, SqL.of g.m, e2, mg_ops T hma fun l xs hl lx dx => ?_⟩
          have sml : Same H' (upd H' l (.lst xs)) := Same.new hl
          refine ⟨_, rfl, _, .ty "list", _, .type "list", true, rfl, .ty _, .base (.lst upd_same), kit_ty (by decide +kernel), true, rfl, iteF ?_⟩
          have dxl : DpAll K (upd H' l (.lst xs)) xs r.opd := DpAll.same sml dx
          refine ⟨_, rfl, _, rfl, _, rfl, R, _, _, _, rfl, rfl, SqL.of (sml _ _ g.r), e1, b, r, rfl, hra.kn (Same.kn sml) (fun _ e => sml _ _ e), fun l2 ys H6 s6 hl2 hys ly py => ?_⟩
          have hl6 : H6 l = some (.lst xs) := s6 _ _ upd_same
          refine ⟨.list r.opd, .list r.opd, .lst (SqL.of hl6) (DpAll.same s6 dxl), .lst (SqL.of hys) (dp_vs py), (opd_shp rok).1, (opd_shp rok).1, _, rfl, ?_⟩
          rw [(opd_shp rok).2]
          refine iteF ?_
          refine ⟨_, rfl, .inl ⟨rfl, _, SqL.of hl6⟩, _, rfl, sz1 (by simp), fun t ht => ?_⟩
          refine ⟨l, xs, _, rfl, rfl, (upd_ne (ne_of_none hl6 ht)).trans hl6, sz2 (by omega), ?_⟩
          exact ⟨_, _, rfl, Same.mut ((sm.trans (sml.trans s6)).trans (Same.new ht)) (sm.free hl)⟩
        · rintro σ H6 ⟨k3, k6, rfl, sm6⟩
          have g6 := g5.keep sm6
          refine ⟨_, rfl, R, _, rfl, .inl (SqL.of g6.r), _, rfl, by rw [List.length_map]; omega, by rw [List.length_map]; have := g6.sz; omega, ?_⟩
          rw [List.length_map, Int.toNat_natCast]
          refine for_range (lo := 0) (n := as.length) (fun i σ H' => ∃ (k3 k6 k7 k8 : Option V), σ = [some (.ref a), some (.ref p), some (.ref R), k3, some (.ref M), none, k6, k7, k8] ∧ Same H6 H') ⟨k3, k6, none, none, rfl, Same.refl _⟩ ?_ ?_
          · rintro i σ H' hi ⟨k3, k6, k7, k8, rfl, sm⟩
            have g := g6.keep sm
            obtain ⟨b, o, r, e1, e2, hra, hma⟩ := g.get hi
            have rok := hra.ok
            -- text
            refine ⟨_, rfl, _, rfl, M, _, _, _, rfl, rfl, SqL.of g.m, e2, mg_text T hma ⟨_, .ty "str", _, .type "str", true, rfl, .ty _, .base (.str _), kit_ty (by decide +kernel), true, rfl, iteF ?_⟩⟩
            refine ⟨_, rfl, _, rfl, M, _, _, _, rfl, rfl, SqL.of g.m, e2, mg_text T hma ?_⟩
            refine ⟨_, rfl, _, rfl, R, _, _, _, rfl, rfl, SqL.of g.r, e1, b, r, rfl, hra, rfl, _, rfl, uF rfl ?_⟩
            -- operands, fields
            refine ⟨_, rfl, _, rfl, M, _, _, _, rfl, rfl, SqL.of g.m, e2, mg_ops T hma fun l xs hl lx dx => ?_⟩
            have sml : Same H' (upd H' l (.lst xs)) := Same.new hl
            refine ⟨_, rfl, _, rfl, R, _, _, _, rfl, rfl, SqL.of (sml _ _ g.r), e1, b, r, rfl, hra.kn (Same.kn sml) (fun _ e => sml _ _ e), fun l2 ys H7 s7 hl2 hys ly py => ?_⟩
            have s7' : Same H' H7 := sml.trans s7
            have g7 := g.keep s7'
            refine ⟨.list r.opd, .list r.opd, .lst (SqL.of (s7 _ _ upd_same)) (DpAll.same s7' dx), .lst (SqL.of hys) (dp_vs py), (opd_shp rok).1, (opd_shp rok).1, _, rfl, ?_⟩
            rw [(opd_shp rok).2]
            refine iteF ?_
            refine ⟨_, rfl, _, rfl, M, _, _, _, rfl, rfl, SqL.of g7.m, e2, _, rfl, _, rfl, R, _, _, _, rfl, rfl, SqL.of g7.r, e1, o, b, r, rfl, hma.kn (Same.kn s7'), hra.kn (Same.kn s7') (fun _ e => s7' _ _ e), true, rfl, iteF ?_⟩
            -- the values
            refine ⟨_, rfl, _, rfl, R, _, _, _, rfl, rfl, SqL.of g7.r, e1, b, r, rfl, hra.kn (Same.kn s7') (fun _ e => s7' _ _ e), fun l3 zs H8 s8 hl3 hzs lz pz => ?_⟩
            refine ⟨l3, rfl, ⟨_, SqL.of hzs⟩, ?_⟩
            have g8 := g7.keep s8
            have s8' : Same H' H8 := s7'.trans s8
            refine for_list (K := K) (a := l3) (xs := zs) (fun j σ H' => ∃ k7 : Option V, σ = [some (.ref a), some (.ref p), some (.ref R), some (.int (0 + (i : Int))), some (.ref M), none, k6, k7, k8] ∧ H' = H8) ⟨k7, rfl, rfl⟩ (fun j σ H' _ ⟨_, _, e⟩ => by subst e; exact SqL.of hzs) ?_ ?_
            · rintro j x σ H9 hj ⟨k7', rfl, rfl⟩
              obtain ⟨t, v, rfl, hv⟩ := paired_at pz hj
              refine ⟨_, rfl, t, v, rfl, hv.1, hv.2, _, rfl, t, v, rfl, hv.1, hv.2, rfl, _, rfl, uF rfl ?_⟩
              exact ⟨_, rfl, rfl⟩
            · rintro σ H9 ⟨k7', rfl, rfl⟩
              -- == with all others
              refine ⟨_, rfl, R, _, rfl, .inl (SqL.of g8.r), _, rfl, by rw [List.length_map]; omega, by rw [List.length_map]; have := g8.sz; omega, ?_⟩
              rw [List.length_map, Int.toNat_natCast]
              refine for_range (lo := 0) (n := as.length) (fun j σ H' => ∃ k8 : Option V, σ = [some (.ref a), some (.ref p), some (.ref R), some (.int (0 + (i : Int))), some (.ref M), none, k6, k7', k8] ∧ H' = H9) ⟨k8, rfl, rfl⟩ ?_ ?_
              · rintro j σ H10 hj ⟨k8', rfl, rfl⟩
                obtain ⟨b', o', r', e1', e2', hra', hma'⟩ := g8.get hj
                refine ⟨_, rfl, _, rfl, M, _, _, _, rfl, rfl, SqL.of g8.m, e2, _, rfl, _, rfl, M, _, _, _, rfl, rfl, SqL.of g8.m, e2', own_eq T (hma.kn (Same.kn s8')) hma' ?_⟩
                refine ⟨_, rfl, _, rfl, R, _, _, _, rfl, rfl, SqL.of g8.r, e1, _, rfl, _, rfl, R, _, _, _, rfl, rfl, SqL.of g8.r, e1', .list r.ds, .list r'.ds, ra_dp (hra.kn (Same.kn s8') (fun _ e => s8' _ _ e)), ra_dp hra', row_shp rok, row_shp hra'.ok, rfl, _, rfl, ?_⟩
                rw [eqv_row]
                exact uF rfl ⟨_, rfl, rfl⟩
              · rintro σ H10 ⟨k8', rfl, rfl⟩
                -- == with another one of the same row, and with a text
                refine ⟨_, rfl, _, rfl, M, _, _, _, rfl, rfl, SqL.of g8.m, e2, _, rfl, _, rfl, R, _, _, _, rfl, rfl, SqL.of g8.r, e1, b, r, rfl, hra.kn (Same.kn s8') (fun _ e => s8' _ _ e), fun o2 H11 ho2 s11 => ?_⟩
                have g11 := g8.keep s11
                have s11' : Same H' H11 := s8'.trans s11
                refine own_eq T (hma.kn (Same.kn s11')) ho2 ⟨_, rfl, ?_⟩
                rw [decide_eq_true rfl]
                refine iteF ?_
                refine ⟨_, rfl, _, rfl, M, _, _, _, rfl, rfl, SqL.of g11.m, e2, _, rfl, _, rfl, R, _, _, _, rfl, rfl, SqL.of g11.r, e1, b, r, rfl, hra.kn (Same.kn s11') (fun _ e => s11' _ _ e), own_eqs T (hma.kn (Same.kn s11')) ⟨_, rfl, iteF ?_⟩⟩
                exact ⟨_, _, _, _, rfl, sm.trans s11'⟩
          · rintro σ H7 ⟨k3, k6, k7, k8, rfl, sm7⟩
            exact k H7
end
end K00
namespace K00
open PySem PySem.Spec PyProof.Rows L2 Cm
abbrev R : PySem.W.OpenRow := PySem.W.OpenLaw.row PySem.Challenge.rw_quietedition_k00_rows_and_values
def part (n : Nat) (g : Addr → Option Obj) : PySem.W.Frag := He.frG g (He.asD g n)
def seen (n : Nat) (g : Addr → Option Obj) : He.AlD × Bool := (He.obsD fa fn (part n g), (exs (part n g)).all id)
def hkz (n : Nat) : PySem.W.Hook where
  α := He.AlD × Bool
  obs s := seen n s.heap.get?
  val _ := (He.valD fn, true)
  says _ h := ∃ K : PySem.W.Frag, K.In h ∧ He.SaysD fa fn K ∧ (exs K).all id = true
  of _ _ e := ⟨_, He.frG_in, congrArg Prod.fst e, congrArg Prod.snd e⟩
  keeps _ _ _ := fun ⟨K, i, c⟩ k => ⟨K, PySem.W.Frag.In.keeps i k, c⟩
def ob (s : PySem.W.SharedT) : He.AlD × Bool := seen 5 (HandSHeadRun.getT s)
theorem ob_eq (s : PySem.W.SharedT) : ob s = (hkz 5).obs s.abs := by
  have e : HandSHeadRun.getT s = s.abs.heap.get? := funext (HandSHeadRun.getT_eq s)
  show seen 5 _ = seen 5 _
  rw [e]
def loose : List Str := ["_wall", "value_text", "Row", "Tell", "Put", "Same", "There", "Call", "End", "_law_draw", "_law_name", "_law_number", "_law_any_value", "_law_value_word", "_law_drawn_row", "_law_made", "_law_line", "_law_values", "_law_has_fields"]
theorem run (w : World) : HandSHeadRun.RunEq R (PySem.W.view R.prog [21]) (hkz 5) ob 3000 loose w := by
  intro os
  kernel_rfl
end K00
open PySem PySem.W PySem.Calls PyProof.Rows
theorem PySem.Challenge.cw_quietedition_k00_rows_and_values_holds : PySem.Challenge.rw_quietedition_k00_rows_and_values.Holds := by
  w_on; o_law
  refine HandSHeadRun.head_any (r := OpenLaw.row PySem.Challenge.rw_quietedition_k00_rows_and_values) (q := view (OpenLaw.row PySem.Challenge.rw_quietedition_k00_rows_and_values).prog [21]) (H := K00.hkz 5) (ob := K00.ob) (M := 3000) (loose := K00.loose) (d := HandSHeadRun.topDef (OpenLaw.row PySem.Challenge.rw_quietedition_k00_rows_and_values).prog 21) (kwd := []) K00.ob_eq
    (by kernel_rfl) (fun s => by kernel_rfl) K00.run (by kernel_rfl) (by kernel_rfl) (by kernel_rfl) (by rfl) (by first | assumption | decide +kernel) (by decide +kernel) ⟨rfl, rfl, rfl, rfl, rfl, by decide +kernel⟩ ?hw ?hc
  case hw => w_witness2
  case hc =>
    refine L2.walk_ofE (l := PySem.Challenge.rw_quietedition_k00_rows_and_values) (n := 63) (k := 6) (x := "_law_script") (CX := L2.CX0) rfl (by decide) (by kernel_rfl) ⟨rfl, by decide, by decide⟩ ?F (fun _ _ _ _ z => z)
    intro w mg fa h Y G g0
    obtain ⟨K, KX, c, ck⟩ := Y
    have gl : mg ("law" : PySem.Str) = some (.ref fa) := by
      have nm : (HandSHeadRun.topDef (OpenLaw.row PySem.Challenge.rw_quietedition_k00_rows_and_values).prog 21).name = ("law" : PySem.Str) := by kernel_rfl
      rw [← nm]
      exact g0
    have T : K00.Tx K mg (0 : Addr) [] := K00.tx_of KX G c ck
    obtain ⟨fd, F⟩ := K00.f_law T
    cases gl.symm.trans (K00.g_law T)
    have b := L2.FunD.bindsA (ps := ["_law_script"]) F fun _ _ _ _ _ _ us hl => match us, hl with | [_], _ => rfl
    exact ⟨K, fd, K00.spLaw K, KX, fun s v => b s [v] rfl, fun _ a ns _ _ q => ⟨a, ns, rfl, q, fun _ => rfl⟩, fun _ _ _ => K00.ok_law T F⟩
