import PyProof.Rows.All
import Wide.All
import OpenK.AllK
import Wide.FinOn
import KE.KStateDown
import HandS.ForMost
import HandS.FStr
import HandS.IsInst
import HandS.Wide
import HandS.SlotsOwn
import HandS.Defaults
import HandS.Head0
import HandS.Head1
import HandS.Head2
import HandS.HeadEnd
import HandS.HeadHook1
import HandS.HeadHook2
import HandS.SetKeys
import HandS.SortKw
import KE.DataMinMax
import PySem.Challenge.RW_quietedition_k26_patterns_and_renaming
set_option Elab.async false
set_option linter.all false
set_option maxRecDepth 100000
set_option maxHeartbeats 0
namespace Cm
open PySem PySem.Spec PyProof.Rows L2

/-! ### defs, methods, makers of the module, each as one fact -/
/-- the module's name x is a def that keeps sp at level k -/
def Cal (P : Program) (w : World) (K : PySem.W.Frag) (mg : Str → Option Value) (base : Heap) (k : Nat) (x : Str) (sp : Sp) : Prop :=
  ∃ f fd ps, FnOk P w K mg base CX0 k f fd ps sp ∧ Binds K fd ps [] ∧ mg x = some (.ref f) ∧ PySem.W.keepIn K (.ref f) = true
/-- the class at C has the method m, which keeps sp at level k -/
def MCal (P : Program) (w : World) (K : PySem.W.Frag) (mg : Str → Option Value) (base : Heap) (k : Nat) (C : Addr) (m : Str) (sp : Sp) : Prop :=
  Cls K C ∧ ∃ f fd ps, FnOk P w K mg base CX0 k f fd ps sp ∧ Binds K fd ps [] ∧ Meth K C m f
/-- the module's name x is the class at C, whose maker keeps sp; dv fills up -/
def KCal (P : Program) (w : World) (K : PySem.W.Frag) (mg : Str → Option Value) (base : Heap) (k : Nat) (x : Str) (C : Addr) (sp : Sp) (dv : List V) : Prop :=
  mg x = some (.ref C) ∧ ∃ f fd ps ds, Mk K C f ∧ FnOk P w K mg base CX0 k f fd ps sp ∧ Binds K fd ps ds ∧ Vals dv ds
section
variable {X : Cx} {j k : Nat} {x m : Str} {C : Addr} {sp : Sp} {dv : List V} {e o : Expr} {es : List Expr} {p pos apos : Pos} {t : TA} {ta : TE}
theorem pe_cal (c : Cal X.prog X.w X.K X.mg X.base k x sp) (hr : Room j X.A) (hk : k ≤ j) (ha : PA X (e :: es) t) (hg : Gl X x := by rfl) (hd : (x == ("__debug__" : Str)) = false := by decide)
    (h1 : starEach (e :: es) X.env = (false, eval e X.env) :: starEach es X.env := by rfl) (h2 : (backTo pos (starEach es X.env)).any (·.1) = false := by rfl) :
    PE X (.Call (.Name x p) (e :: es) [] pos) (tCall sp [] E0 t) := by
  obtain ⟨f, fd, ps, F, b, g, kp⟩ := c
  exact pe_call F (hr.mono hk) hg g kp b .nil pass0 ha hd h1 h2
theorem pe_kal (c : KCal X.prog X.w X.K X.mg X.base k x C sp dv) (hr : Room j X.A) (hk : k + 1 ≤ j) (ha : PA X (e :: es) t) (hg : Gl X x := by rfl) (hd : (x == ("__debug__" : Str)) = false := by decide)
    (h1 : starEach (e :: es) X.env = (false, eval e X.env) :: starEach es X.env := by rfl) (h2 : (backTo pos (starEach es X.env)).any (·.1) = false := by rfl) :
    PE X (.Call (.Name x p) (e :: es) [] pos) (tMake C sp dv E0 t) := by
  obtain ⟨g, f, fd, ps, ds, M, F, b, v⟩ := c
  exact pe_make M F (hr.mono hk) hg g b v pass0 ha hd h1 h2
theorem pe_mcal0 {pl : Sem Bool} (c : MCal X.prog X.w X.K X.mg X.base k C m sp) (hr : Room j X.A) (hk : k ≤ j) (ho : PE X o ta)
    (ht : eval (.Call (.Attribute o m apos) [] [] pos) X.env = (do
      let ov ← eval o X.env
      standAt apos.atName
      let (f, first) ← holding [ov] (getMethod ov m pl)
      callWith pos f first (backTo pos (starEach [] X.env)) (backToKw pos (keywordEach [] X.env))) := by rfl) : PE X (.Call (.Attribute o m apos) [] [] pos) (tMeth C m sp [] E0 ta tNil) := by
  obtain ⟨cl, f, fd, ps, F, b, M⟩ := c
  exact pe_meth0 ho cl M F (hr.mono hk) b .nil pass0 ht
/-- two readings of one expression -/
theorem PE.or2 {t1 t2 : TE} (h1 : PE X e t1) (h2 : PE X e t2) : PE X e (fun σ H Q => t1 σ H Q ∨ t2 σ H Q) :=
  ⟨fun pins s σ H Q I h => h.elim (h1.run pins s σ H Q I) (h2.run pins s σ H Q I)⟩
end
theorem MCal.mono {P : Program} {w : World} {K : PySem.W.Frag} {mg : Str → Option Value} {base : Heap} {j k : Nat} {C : Addr} {m : Str} {sp : Sp} (h : MCal P w K mg base j C m sp) (l : j ≤ k) : MCal P w K mg base k C m sp :=
  let ⟨c, f, fd, ps, F, r⟩ := h; ⟨c, f, fd, ps, F.mono l, r⟩
/-! ### methods and == of an instance whose class the reading tells -/
def tMG (P : Program) (w : World) (K : PySem.W.Frag) (mg : Str → Option Value) (base : Heap) (k : Nat) (m : Str) (ta : TE) : TE := fun σ H Q =>
  ta σ H fun x H1 => ∃ a C dx fs sp, x = .ref a ∧ H1 a = some (.ins C dx fs) ∧ fs.lookup m = none ∧ MCal P w K mg base k C m sp ∧ sp [.ref a] H1 Q E0
def rOwnG (P : Program) (w : World) (K : PySem.W.Frag) (mg : Str → Option Value) (base : Heap) (k : Nat) (m : Str) : R2 := fun x y H Q =>
  ∃ a C dx fs sp, x = .ref a ∧ H a = some (.ins C dx fs) ∧ MCal P w K mg base k C m sp ∧
    ((∃ b D dy gs, y = .ref b ∧ H b = some (.ins D dy gs) ∧ PySem.W.notFirst K C (.ref D) = true) ∨ (∃ z, y = .str z ∧ PySem.W.notFirst K C (.type "str") = true)) ∧ sp [x, y] H Q E0
section
variable {X : Cx} {j k : Nat} {m : Str} {o : Expr} {pos apos : Pos} {ta : TE}
theorem pe_mG {pl : Sem Bool} (hr : Room j X.A) (hk : k ≤ j) (he : PE X o ta)
    (ht : eval (.Call (.Attribute o m apos) [] [] pos) X.env = (do
      let ov ← eval o X.env
      standAt apos.atName
      let (f, first) ← holding [ov] (getMethod ov m pl)
      callWith pos f first (backTo pos (starEach [] X.env)) (backToKw pos (keywordEach [] X.env))) := by rfl) : PE X (.Call (.Attribute o m apos) [] [] pos) (tMG X.prog X.w X.K X.mg X.base k m ta) := by
  constructor
  intro pins s σ H Q I h
  refine PySem.W.methodCall_KW (pl := pl) (thn (he.run pins s σ H _ I h) ?_) ht
  rintro u s1 ⟨x, H1, I1, rx, a, C, dx, fs, sp, ex, ea, l, ⟨c, f, fd, ps, F, b, M⟩, q⟩
  subst ex
  cases (show u = Value.ref a from rx)
  refine getmeth_ok I1 ea c M l ?_
  exact PySem.W.callWith_K0 (first := [.ref a]) I1.kIn M.kp (run_fn (vs := [.ref a]) F (hr.mono hk) b .nil pass0 I1 (.cons rfl .nil) q)
theorem op_ownG (hr : Room j X.A) (hk : k ≤ j) : OpR X (compareOp .Eq) (rOwnG X.prog X.w X.K X.mg X.base k "__eq__") := by
  intro pins s σ H x y v u Q I rx ry h
  obtain ⟨a, C, dx, fs, sp, ex, ha, ⟨c, f, fd, ps, F, b, M⟩, hy, q⟩ := h
  subst ex
  cases (show v = Value.ref a from rx)
  obtain ⟨mA, O, _⟩ := ins_get I.hok ha
  obtain ⟨od, J, _⟩ := O.look
  obtain ⟨mm, hF⟩ := I.fr
  have go : ∀ tb, PySem.W.Looks (model X.prog X.w) s.heap (typeOf u) tb → PySem.W.notFirst X.K C tb = true → wpAny (model X.prog X.w) X.A (compareOp .Eq (.ref a) u) (EP X pins σ Q) X.xe s := by
    intro tb hb hn
    show wpAny _ X.A (richCompare .Eq (.ref a) u) _ _ s
    refine PySem.W.cmp_K (op := .Eq) hr.units0 hF I.ok.mod.kin J hb hn M.at_ M.fn ?_
    refine wpAny_mono (run_fn (us := [.ref a, u]) (vs := [.ref a, y]) F (hr.mono hk) b .nil pass0 I (.cons rfl (.cons ry .nil)) q) ?_ fun _ _ z => z
    rintro r s' ⟨z, H', I', rz, qz⟩
    exact SlX.cmpback rz ⟨z, H', I', rz, qz⟩
  rcases hy with ⟨b', D, dy, gs, ey, hb, hn⟩ | ⟨z, ey, hn⟩
  · subst ey
    cases (show u = Value.ref b' from ry)
    obtain ⟨mB, O', _⟩ := ins_get I.hok hb
    obtain ⟨od', J', _⟩ := O'.look
    exact go _ J'.type hn
  · subst ey
    obtain ⟨t, e⟩ := (show ∃ t, u = Value.str z t from ry)
    cases e
    exact go (.type "str") .now hn
end
/-! ### an instance of a class without a maker of its own -/
section
variable {X : Cx} {x : Str} {C : Addr} {p pos : Pos}
/-- C() where no __init__ stands but object's -/
def tMk0 (C : Addr) : TE := fun _ H Q => ∀ y dx, H y = none → H dx = none → dx ≠ y → Q (.ref y) (upd (upd H dx (.own y)) y (.ins C dx []))
theorem pe_mk0 (hm : PySem.W.makesIn X.K C = true) (hi : PySem.W.findIn X.K (.ref C) "__init__" = some (some (.builtin "object.__init__"))) (kp : PySem.W.keepIn X.K (.ref C) = true) (g : X.mg x = some (.ref C)) (hg : Gl X x := by rfl)
    (hd : (x == ("__debug__" : Str)) = false := by decide) : PE X (.Call (.Name x p) [] [] pos) (tMk0 C) := by
  constructor
  intro pins s σ H Q I h
  refine wpAny_Call_Name_kw (ld_glob I hg g ?_ hd)
  refine PySem.W.callWith_K0 I.kIn kp ?_
  have I2 := Inv.made (C := C) I
  have q := h (s.heap.objs.size + 1) s.heap.objs.size (I.hok.fresh (Nat.le_succ _)) (I.hok.fresh (Nat.le_refl _)) (Nat.ne_of_lt (Nat.lt_succ_self _))
  have Y := PySem.W.makes_of (M := model X.prog X.w) I.kIn hm
  refine wpAny_call (make_map0 I.kIn hm hi (fun self => PySem.W.Looks.of_pure (PySem.W.oi_bind self)) ?_)
  have e2 : ((s.heap.push PySem.W.emptyDict).push (PySem.W.instObj C s.heap.objs.size)).get? (s.heap.objs.size + 1) = some (PySem.W.instObj C s.heap.objs.size) := by
    have z := Heap.get?_push_size (s.heap.push PySem.W.emptyDict) (o := PySem.W.instObj C s.heap.objs.size) rfl
    rwa [Heap.size_push] at z
  have t1 : PySem.W.Looks (model X.prog X.w) ((s.heap.push PySem.W.emptyDict).push (PySem.W.instObj C s.heap.objs.size)) (typeOf (.ref (s.heap.objs.size + 1))) (.ref C) := (PySem.W.Looks.ld e2).andThen .now
  have t2 : PySem.W.Looks (model X.prog X.w) ((s.heap.push PySem.W.emptyDict).push (PySem.W.instObj C s.heap.objs.size)) (isInstance (.ref (s.heap.objs.size + 1)) (.type "object")) true :=
    t1.andThen (Y.top.keeps fun b o e => Heap.get?_push_of_some _ (Heap.get?_push_of_some _ e))
  refine codeAny_call_builtin PySem.W.oi_plain PySem.W.entry_oi (@PySem.W.check_slot (model X.prog X.w) _ _ _ "object.__init__" "object" "__init__" (.ref (s.heap.objs.size + 1)) [] [] _ PySem.W.oi_kind PySem.W.oi_split t2 (PySem.W.oi_args _) ?_)
  rw [PySem.W.oi_run]
  exact wpAny_pure (And.intro rfl ⟨V.ref _, _, I2, rfl, q⟩)
end
/-! ### a def of the text keeps its promise -/
section
variable {P : Program} {w : World} {K : PySem.W.Frag} {mg : Str → Option Value} {base : Heap} {x qual : Str} {a : Arguments} {b : List Stmt} {sc : Scope} {dv : List V} {f : Addr} {fd : FuncData} {N ps : List Str} {k : Nat} {sp : Sp}
theorem fnok (F : FunD K x qual a b sc dv [] f fd) (S : FnScope N ps sc) (len : ∀ vs H Q E, sp vs H Q E → vs.length = ps.length)
    (body : ∀ (cdv : Value) (A : Around) (outer : List Env) (s : Shared) (H : Hp) (vs : List V) (Q : VK) (E : XK), Room k (A.deeper (envOfC qual sc s.heap.objs.size f cdv)) → sp vs H Q E →
      ∃ t, PSs (cxOf CX0 P w K mg base N qual sc f cdv A outer s H E).nox b t ∧ t { nx := fun _ H' => Q .non H', rt := Q } (start N vs) H) : FnOk P w K mg base CX0 (k + 1) f fd ps sp :=
  F.ok S len fun cdv A outer s H vs Q E hr h => let ⟨t, d, q⟩ := body cdv A outer s H vs Q E hr h; ⟨t, d.nox, q⟩
end
/-! ### heaps: all but p is kept -/
def Kp (p : Addr) (H H' : Hp) : Prop := ∀ a o, a ≠ p → H a = some o → H' a = some o
theorem Kp.refl {p : Addr} {H : Hp} : Kp p H H := fun _ _ _ h => h
theorem Kp.trans {p : Addr} {H H1 H2 : Hp} (a : Kp p H H1) (b : Kp p H1 H2) : Kp p H H2 := fun c o n h => b c o n (a c o n h)
theorem Kp.at {p : Addr} {H H' : Hp} {o : HO} (a : Kp p H H') : Kp p H (upd H' p o) := fun c u n h => by rw [upd_ne n]; exact a c u n h
theorem Kp.new {p q : Addr} {H H' : Hp} {o : HO} (a : Kp p H H') (h : H' q = none) : Kp p H (upd H' q o) := fun c u n e => by
  rw [upd_ne (ne_of_none (a c u n e) h)]; exact a c u n e
theorem Kp.rd {p a : Addr} {H H' : Hp} {u : HO} (k : Kp p H H') (n : a ≠ p) (h : Rd H a u) : Rd H' a u := h.elim (fun h => .inl (k _ _ n h)) fun ⟨o, h⟩ => .inr ⟨o, k _ _ n h⟩
theorem Kp.sl {K : PySem.W.Frag} {p a : Addr} {H H' : Hp} {xs : List V} (k : Kp p H H') (n : a ≠ p) (h : SqL K H a xs) : SqL K H' a xs := h.elim (fun h => .inl (k.rd n h)) .inr
theorem Kp.st {K : PySem.W.Frag} {p a : Addr} {H H' : Hp} {xs : List V} (k : Kp p H H') (n : a ≠ p) (h : SqT K H a xs) : SqT K H' a xs := h.elim (fun h => .inl (k.rd n h)) .inr
theorem sz1 {n : Nat} (h : n ≤ 100000) : n ≤ sizeLine := Nat.le_trans h (by decide)
theorem sz2 {n : Nat} (h : n ≤ 100000) : n < sizeLine := Nat.lt_of_le_of_lt h (by decide)
theorem log_of {i : Int} (h : i.natAbs < 2 ^ 1000) : i.natAbs.log2 < 1920 := Nat.lt_of_lt_of_le (PySem.Flt.log2_lt_of (by decide) h) (by decide)
/-! ### texts -/
theorem app_len (a b : Str) : (a ++ b).length = a.length + b.length := by
  show (a.cps ++ b.cps).size = a.cps.size + b.cps.size
  exact Array.size_append
theorem emp_app (a : Str) : Str.empty ++ a = a := by
  show (⟨#[] ++ a.cps⟩ : Str) = a
  rw [Array.empty_append]
theorem app_assoc (a b c : Str) : a ++ b ++ c = a ++ (b ++ c) := by
  show (⟨a.cps ++ b.cps ++ c.cps⟩ : Str) = ⟨a.cps ++ (b.cps ++ c.cps)⟩
  rw [Array.append_assoc]
/-! ### tests -/
theorem tT {c A B : Prop} [Decidable c] (h : c) (a : A) : if decide c = true then A else B := by
  rw [decide_eq_true h]; exact iteT a
theorem tF {c A B : Prop} [Decidable c] (h : ¬ c) (b : B) : if decide c = true then A else B := by
  rw [decide_eq_false h]; exact iteF b
theorem uT {c A B : Prop} [Decidable c] (h : ¬ c) (a : A) : if (!decide c) = true then A else B := by
  rw [decide_eq_false h]; exact iteT a
theorem uF {c A B : Prop} [Decidable c] (h : c) (b : B) : if (!decide c) = true then A else B := by
  rw [decide_eq_true h]; exact iteF b
theorem bT {b : Bool} {A B : Prop} (h : b = true) (a : A) : if b = true then A else B := by rw [h]; exact iteT a
theorem bF {b : Bool} {A B : Prop} (h : b = false) (a : B) : if b = true then A else B := by rw [h]; exact iteF a
theorem dC {c A B : Prop} [Decidable c] (hT : c → A) (hF : ¬ c → B) : if decide c = true then A else B := by
  by_cases h : c
  · exact tT h (hT h)
  · exact tF h (hF h)
theorem uC {c A B : Prop} [Decidable c] (hT : ¬ c → A) (hF : c → B) : if (!decide c) = true then A else B := by
  by_cases h : c
  · exact uF h (hF h)
  · exact uT h (hT h)
theorem bC {b : Bool} {A B : Prop} (hT : b = true → A) (hF : b = false → B) : if b = true then A else B := by
  cases h : b
  · exact iteF (hF h)
  · exact iteT (hT h)
/-! ### attributes -/
theorem fl1 {f : Str} {v : V} {fs : List (Str × V)} : (putF f v fs).lookup f = some v := by rw [lookup_putF, if_pos rfl]
theorem fl2 {f g : Str} {v : V} {fs : List (Str × V)} {o : Option V} (h : ¬ g = f) (e : fs.lookup g = o) : (putF f v fs).lookup g = o := by rw [lookup_putF, if_neg h, e]
theorem fn0 : ([] : List (Str × V)).length < 1000 := by decide
theorem fnS {f : Str} {v : V} {fs : List (Str × V)} (h : fs.length < 900) : (putF f v fs).length < 1000 := by
  have := length_putF f v fs; omega
theorem fs0 : ([] : List (Str × V)).length < 900 := by decide
theorem fs1 {f : Str} {v : V} {fs : List (Str × V)} (h : fs.length < 800) : (putF f v fs).length < 900 := by
  have := length_putF f v fs; omega
end Cm
namespace Cm
open PySem PySem.Spec PyProof.Rows L2 PySem.W
/-! ### max(ints, default=d) -/
theorem alike_ints (ns : List Int) : AlikeAll (ns.map PyData.int) := by
  constructor
  · intro x hx y hy
    obtain ⟨i, _, rfl⟩ := List.mem_map.mp hx
    obtain ⟨j, _, rfl⟩ := List.mem_map.mp hy
    rfl
  · intro x hx e
    obtain ⟨i, _, rfl⟩ := List.mem_map.mp hx
    cases e
theorem depth_ints : ∀ ns : List Int, PyData.depthAll (ns.map PyData.int) = 0
  | [] => rfl
  | n :: ns => by
    show max (PyData.depth (.int n)) (PyData.depthAll (ns.map PyData.int)) = 0
    rw [depth_ints ns]; rfl
theorem dpAll_ints {K : PySem.W.Frag} {H : Hp} : ∀ ns : List Int, DpAll K H (ns.map V.int) (ns.map PyData.int)
  | [] => .nil
  | n :: ns => .cons (.int n) (dpAll_ints ns)
theorem foldmax (n : Int) : ∀ ns : List Int, ns.foldl max n ∈ n :: ns ∧ ∀ k ∈ n :: ns, k ≤ ns.foldl max n
  | [] => ⟨List.mem_cons_self, fun k hk => by simp at hk; subst hk; exact Int.le_refl _⟩
  | m :: ns => by
    obtain ⟨h1, h2⟩ := foldmax (max n m) ns
    refine ⟨?_, fun k hk => ?_⟩
    · rcases List.mem_cons.mp h1 with e | e
      · rw [List.foldl_cons, e]
        by_cases c : n ≤ m
        · rw [show max n m = m from by omega]; simp
        · rw [show max n m = n from by omega]; simp
      · rw [List.foldl_cons]; exact List.mem_cons_of_mem _ (List.mem_cons_of_mem _ e)
    · rw [List.foldl_cons]
      have h3 := h2 (max n m) List.mem_cons_self
      rcases List.mem_cons.mp hk with e | e
      · omega
      · rcases List.mem_cons.mp e with e | e
        · omega
        · exact h2 k (List.mem_cons_of_mem _ e)
section
variable {X : Cx}
theorem call_maxD (hc : X.calm = true) (hu : X.A.units + 64 < cLine) : CallRK X (.builtin "max") [Str.ofString "default"] (fun vs zs H Q => ∃ (a : Addr) (ns : List Int) (d : V), vs = [V.ref a] ∧ zs = [d] ∧ SqL X.K H a (ns.map V.int) ∧
    (ns = [] → Q d H) ∧ ∀ m, m ∈ ns → (∀ n ∈ ns, n ≤ m) → Q (.int m) H) := by
  intro pins s σ H vs zs us ws Q I r rz h
  obtain ⟨a, ns, d, rfl, rfl, hs, q0, q1⟩ := h
  obtain ⟨u, rfl, e⟩ := vals1 r
  cases (show u = Value.ref a from e)
  obtain ⟨w1, rfl, e1⟩ := vals1 rz
  obtain ⟨its, rv, hl, hz⟩ := I.list hs
  obtain ⟨as, hr⟩ := Dp.readsAll I (ns.map PyData.int) _ its (dpAll_ints ns) rv
  refine max_list_default (vs := its.toArray) (I.ok.hd hc) hl.isList (by simpa using hr) (alike_ints ns) (by rw [depth_ints]; omega) (fun e h' tk k => ?_) (fun y ys i v h' tk bs e hi rd k => ?_)
  · exact ⟨d, H, I.kept k, e1, q0 (by simpa using e)⟩
  · cases ns with
    | nil => cases e
    | cons n ns =>
      obtain ⟨rfl, rfl⟩ : PyData.int n = y ∧ ns.map PyData.int = ys := by simpa using e
      rw [maxD_ints] at rd
      obtain ⟨m1, m2⟩ := foldmax n ns
      cases rd with
      | int _ t => exact ⟨.int (ns.foldl max n), H, I.kept k, ⟨t, rfl⟩, q1 _ m1 m2⟩
end
/-! ### heaps -/
def Same (H H' : Hp) : Prop := ∀ a o, H a = some o → H' a = some o
theorem Same.refl (H : Hp) : Same H H := fun _ _ h => h
theorem Same.trans {H H1 H2 : Hp} (a : Same H H1) (b : Same H1 H2) : Same H H2 := fun c o h => b c o (a c o h)
theorem Same.new {H : Hp} {p : Addr} {o : HO} (h : H p = none) : Same H (upd H p o) := fun c u e => by rw [upd_ne (ne_of_none e h)]; exact e
theorem Same.mut {H H' : Hp} {p : Addr} {o : HO} (s : Same H H') (h : H p = none) : Same H (upd H' p o) := fun c u e => by rw [upd_ne (ne_of_none e h)]; exact s c u e
theorem Same.free {H H' : Hp} {p : Addr} (s : Same H H') (h : H' p = none) : H p = none := by
  cases e : H p with
  | none => rfl
  | some o => rw [s _ _ e] at h; cases h
theorem Same.kp {H H' : Hp} {p : Addr} (s : Same H H') : Kp p H H' := fun a o _ h => s a o h
theorem Same.sl {K : PySem.W.Frag} {a : Addr} {H H' : Hp} {xs : List V} (k : Same H H') (h : SqL K H a xs) : SqL K H' a xs :=
  h.elim (fun h => .inl (h.elim (fun h => .inl (k _ _ h)) fun ⟨o, h⟩ => .inr ⟨o, k _ _ h⟩)) .inr
theorem kmut {H H' : Hp} {p q : Addr} {o : HO} (s : Kp p H H') (h : H q = none) : Kp p H (upd H' q o) := fun c u n e => by rw [upd_ne (ne_of_none e h)]; exact s c u n e
theorem kfree {H H' : Hp} {p q : Addr} (s : Kp p H H') (n : q ≠ p) (h : H' q = none) : H q = none := by
  cases e : H q with
  | none => rfl
  | some o => rw [s _ _ n e] at h; cases h
def IntOk (i : Int) : Prop := i.natAbs ≤ 4000000000
theorem io {m : Int} (h : m.natAbs ≤ 4000000000) : IntOk m := h
/-! ### the pool -/
def PoolAt (K : PySem.W.Frag) (sa : Addr) (sx : List Int) (H : Hp) (p : Addr) : Prop :=
  ∃ (i b s : Int), H p = some (.lst [V.ref sa, V.int i, V.int b, V.int s]) ∧ (sa ≠ p ∨ ∀ H', SqL K H' sa (sx.map V.int)) ∧ SqL K H sa (sx.map V.int) ∧ 0 ≤ i ∧ 0 ≤ b ∧ 0 ≤ s ∧ s < 2147483647
section
variable {K : PySem.W.Frag} {sa : Addr} {sx : List Int}
theorem pool_new {H : Hp} {p q : Addr} {o : HO} (hP : PoolAt K sa sx H p) (hq : H q = none) : PoolAt K sa sx (upd H q o) p := by
  obtain ⟨i, b, s, hp, na, hS, r⟩ := hP
  refine ⟨i, b, s, ?_, na, ?_, r⟩
  · rw [upd_ne (ne_of_none hp hq)]; exact hp
  · exact na.elim (fun n => Kp.sl (p := p) (Kp.refl.new hq) n hS) (fun z => z _)
theorem pool_ne {H : Hp} {p q : Addr} (hP : PoolAt K sa sx H p) (hq : H q = none) : q ≠ p := by
  obtain ⟨i, b, s, hp, _⟩ := hP
  exact (ne_of_none hp hq).symm
theorem sq_new {H : Hp} {a q : Addr} {xs : List V} (h : SqL K H a xs) (hq : H q = none) : a ≠ q ∨ ∀ H', SqL K H' a xs :=
  h.elim (fun r => .inl (r.elim (fun e => ne_of_none e hq) fun ⟨o, e⟩ => ne_of_none e hq)) fun r => .inr fun H' => .inr r
theorem pool_fresh {H : Hp} {p q : Addr} (hP : PoolAt K sa sx H p) (hq : H q = none) : sa ≠ q ∨ ∀ H', SqL K H' sa (sx.map V.int) := by
  obtain ⟨_, _, _, _, _, hS, _⟩ := hP
  exact sq_new hS hq
theorem pool_upd {H : Hp} {p D : Addr} {o : HO} (hP : PoolAt K sa sx H p) (nD : D ≠ p) (hd : sa ≠ D ∨ ∀ H', SqL K H' sa (sx.map V.int)) : PoolAt K sa sx (upd H D o) p := by
  obtain ⟨i, b, s, hp, na, hS, r⟩ := hP
  refine ⟨i, b, s, (upd_ne nD.symm).trans hp, na, ?_, r⟩
  rcases hd with n | z
  · refine hS.elim (fun q => .inl ?_) .inr
    exact q.elim (fun e => .inl ((upd_ne n).trans e)) fun ⟨o', e⟩ => .inr ⟨o', (upd_ne n).trans e⟩
  · exact z _
theorem pool_same {H H' : Hp} {p : Addr} (hP : PoolAt K sa sx H p) (s : Same H H') : PoolAt K sa sx H' p := by
  obtain ⟨i, b, s', hp, na, hS, r⟩ := hP
  exact ⟨i, b, s', s _ _ hp, na, s.sl hS, r⟩
/-- a list of ints is not the pool -/
theorem pool_int {H : Hp} {p a : Addr} {ns : List Int} (hP : PoolAt K sa sx H p) (ha : H a = some (.lst (ns.map V.int))) : a ≠ p := by
  rintro rfl
  obtain ⟨i, b, s, hp, _⟩ := hP
  rw [ha] at hp
  cases ns with
  | nil => cases hp
  | cons n ns => cases hp
theorem pool_tup {H : Hp} {p a : Addr} {xs : List V} (hP : PoolAt K sa sx H p) (ha : H a = some (.tup xs)) : a ≠ p := by
  rintro rfl
  obtain ⟨i, b, s, hp, _⟩ := hP
  rw [ha] at hp
  cases hp
theorem wd {m : Int} (h0 : 0 < m) (h : IntOk m) : CDivW 0 m := wide_div h0 (b := 40) (Nat.lt_of_le_of_lt h (by decide)) (by decide) (by decide)
end
/-! ### ints in lists -/
theorem at_int {ns : List Int} {i : Nat} (h : i < ns.length) : atI (ns.map V.int) ((i : Nat) : Int) = some (.int ns[i]) := atI_nat (by rw [List.getElem?_map, List.getElem?_eq_getElem h]; rfl)
theorem at_int' {ns : List Int} {k : Int} (h0 : 0 ≤ k) (h : k.toNat < ns.length) : atI (ns.map V.int) k = some (.int ns[k.toNat]) := by
  have e : k = ((k.toNat : Nat) : Int) := by omega
  exact (congrArg (atI (ns.map V.int)) e).trans (at_int h)
theorem map_at {ns : List Int} {i : Nat} {x : V} (h : (ns.map V.int)[i]? = some x) : ∃ hi : i < ns.length, x = .int ns[i] := by
  rw [List.getElem?_map] at h
  cases e : ns[i]? with
  | none => rw [e] at h; cases h
  | some n =>
    rw [e] at h
    obtain ⟨hi, e2⟩ := List.getElem?_eq_some_iff.mp e
    exact ⟨hi, by rw [e2]; exact (Option.some.inj h).symm⟩
theorem flat_ints (ns : List Int) : (ns.map V.int).all flatV = true := by
  rw [List.all_eq_true]
  intro x hx
  obtain ⟨i, _, rfl⟩ := List.mem_map.mp hx
  rfl
theorem inV_ints (n : Int) (ns : List Int) : inV (.int n) (ns.map V.int) = decide (n ∈ ns) := by
  unfold inV
  rw [List.any_map]
  apply Bool.eq_iff_iff.mpr
  rw [List.any_eq_true, decide_eq_true_iff]
  exact ⟨fun ⟨x, hx, e⟩ => by have e2 : x = n := by simpa [eqV] using e
                              subst e2; exact hx, fun h => ⟨n, h, by simp [eqV]⟩⟩
theorem tru_ints {K : PySem.W.Frag} {H : Hp} {a : Addr} {ns : List Int} (h : H a = some (.lst (ns.map V.int))) : TruV K (.ref a) H (!ns.isEmpty) :=
  .inl ⟨_, SqL.of h, by cases ns <;> rfl⟩
/-- a test by a list's truth -/
theorem lC {ns : List Int} {A B : Prop} (hT : ns ≠ [] → A) (hF : ns = [] → B) : if (!ns.isEmpty) = true then A else B := by
  cases ns with
  | nil => exact iteF (hF rfl)
  | cons n ns => exact iteT (hT (by simp))
end Cm
namespace Cm
open PySem PySem.Spec PyProof.Rows L2
/-! ### patterns -/
inductive En
  | k (v : Int)
  | n (i : Nat)
  deriving DecidableEq
def En.vs : En → List V
  | .k v => [.str "kept", .int v]
  | .n i => [.str "new", .int (i : Int)]
def En.ds : En → List PyData
  | .k v => [.str "kept", .int v]
  | .n i => [.str "new", .int (i : Int)]
def pat (kept : List Int) : List Int → List Int → List En
  | _, [] => []
  | s, v :: vs => if v ∈ kept then .k v :: pat kept s vs else if v ∈ s then .n (s.idxOf v) :: pat kept s vs else .n s.length :: pat kept (s ++ [v]) vs
theorem pat_k {kept s : List Int} {v : Int} {vs : List Int} (h : v ∈ kept) : pat kept s (v :: vs) = .k v :: pat kept s vs := by rw [pat, if_pos h]
theorem pat_o {kept s : List Int} {v : Int} {vs : List Int} (h : v ∉ kept) (h2 : v ∈ s) : pat kept s (v :: vs) = .n (s.idxOf v) :: pat kept s vs := by rw [pat, if_neg h, if_pos h2]
theorem pat_n {kept s : List Int} {v : Int} {vs : List Int} (h : v ∉ kept) (h2 : v ∉ s) : pat kept s (v :: vs) = .n s.length :: pat kept (s ++ [v]) vs := by rw [pat, if_neg h, if_neg h2]
theorem pat_len (kept : List Int) : ∀ (xs s : List Int), (pat kept s xs).length = xs.length
  | [], _ => rfl
  | v :: vs, s => by
    by_cases h : v ∈ kept
    · rw [pat_k h, List.length_cons, pat_len kept vs s, List.length_cons]
    · by_cases h2 : v ∈ s
      · rw [pat_o h h2, List.length_cons, pat_len kept vs s, List.length_cons]
      · rw [pat_n h h2, List.length_cons, pat_len kept vs _, List.length_cons]
theorem pat_congr {k1 k2 : List Int} (h : ∀ v, v ∈ k1 ↔ v ∈ k2) : ∀ (xs s : List Int), pat k1 s xs = pat k2 s xs
  | [], _ => rfl
  | v :: vs, s => by
    by_cases h1 : v ∈ k1
    · rw [pat_k h1, pat_k ((h v).mp h1), pat_congr h vs s]
    · have h2 : v ∉ k2 := fun z => h1 ((h v).mpr z)
      by_cases h3 : v ∈ s
      · rw [pat_o h1 h3, pat_o h2 h3, pat_congr h vs s]
      · rw [pat_n h1 h3, pat_n h2 h3, pat_congr h vs _]
/-! ### first places -/
theorem idx_lt {v : Int} {s : List Int} (h : v ∈ s) : s.idxOf v < s.length := List.idxOf_lt_length_of_mem h
theorem idx_at {v : Int} {s : List Int} (h : v ∈ s) : s[s.idxOf v]'(idx_lt h) = v := List.getElem_idxOf (idx_lt h)
theorem idx_before {v : Int} : ∀ {s : List Int} {m : Nat} (hm : m < s.length), m < s.idxOf v → s[m] ≠ v
  | [], m, hm, _ => absurd hm (Nat.not_lt_zero _)
  | x :: s, m, hm, h => by
    rw [List.idxOf_cons] at h
    by_cases e : x = v
    · subst e; simp at h
    · have e2 : (x == v) = false := beq_false_of_ne e
      rw [e2] at h
      cases m with
      | zero => exact e
      | succ m =>
        rw [List.getElem_cons_succ]
        exact idx_before (by simpa using hm) (by simpa using h)
theorem idx_append {v : Int} {s : List Int} (h : v ∉ s) : (s ++ [v]).idxOf v = s.length := by
  induction s with
  | nil => simp
  | cons x s ih =>
    have h1 : x ≠ v := fun e => h (e ▸ List.mem_cons_self)
    have h2 : v ∉ s := fun e => h (List.mem_cons_of_mem _ e)
    rw [List.cons_append, List.idxOf_cons, beq_false_of_ne h1]
    simp [ih h2]
theorem idx_nodup {s : List Int} (nd : s.Nodup) {i : Nat} (h : i < s.length) : s.idxOf s[i] = i := by
  have hm := List.getElem_mem h
  have h1 := idx_lt hm
  have h2 := idx_at hm
  by_cases c : s.idxOf s[i] = i
  · exact c
  · exact absurd h2 (by
      have := List.pairwise_iff_getElem.mp nd
      rcases Nat.lt_or_gt_of_ne c with l | l
      · exact this _ _ h1 h l
      · exact (this _ _ h h1 l).symm)
/-! ### when two patterns are equal -/
abbrev g (l : List Int) (k : Nat) : Int := l.getD k 0
theorem g_at {l : List Int} {k : Nat} (h : k < l.length) : g l k = l[k] := by
  show l.getD k 0 = _
  rw [List.getD_eq_getElem?_getD, List.getElem?_eq_getElem h]; rfl
theorem g_mem {l : List Int} {k : Nat} (h : k < l.length) : g l k ∈ l := by rw [g_at h]; exact List.getElem_mem h
def Alk (kept s1 s2 xs ys : List Int) : Prop := ∀ k < xs.length, ((g xs k ∈ kept ∨ g ys k ∈ kept) → g xs k = g ys k) ∧ (∀ i < s1.length, (g xs k = g s1 i ↔ g ys k = g s2 i)) ∧ ∀ j < k, (g xs k = g xs j ↔ g ys k = g ys j)
theorem g_app1 {s : List Int} {x : Int} {i : Nat} (h : i < s.length) : g (s ++ [x]) i = g s i := by
  rw [g_at (by rw [List.length_append]; exact Nat.lt_add_right _ h), g_at h, List.getElem_append_left h]
theorem g_app2 {s : List Int} {x : Int} : g (s ++ [x]) s.length = x := by
  rw [g_at (by simp)]; simp
theorem alk_cons {kept s1 s2 xs ys : List Int} {x y : Int} (hl : s1.length = s2.length) :
    Alk kept s1 s2 (x :: xs) (y :: ys) ↔ (((x ∈ kept ∨ y ∈ kept) → x = y) ∧ ∀ i < s1.length, (x = g s1 i ↔ y = g s2 i)) ∧ Alk kept (s1 ++ [x]) (s2 ++ [y]) xs ys := by
  constructor
  · intro h
    obtain ⟨a, b, _⟩ := h 0 (Nat.zero_lt_succ _)
    refine ⟨⟨a, b⟩, fun k hk => ?_⟩
    obtain ⟨a2, b2, c2⟩ := h (k + 1) (Nat.succ_lt_succ hk)
    refine ⟨a2, fun i hi => ?_, fun j hj => c2 (j + 1) (Nat.succ_lt_succ hj)⟩
    rw [List.length_append] at hi
    by_cases c : i < s1.length
    · rw [g_app1 c, g_app1 (hl ▸ c)]; exact b2 i c
    · have e : i = s1.length := by simp at hi; omega
      subst e
      rw [g_app2, show g (s2 ++ [y]) s1.length = y from by rw [hl]; exact g_app2]
      exact c2 0 (Nat.zero_lt_succ _)
  · rintro ⟨⟨a, b⟩, h⟩ k hk
    cases k with
    | zero => exact ⟨a, b, fun j hj => absurd hj (Nat.not_lt_zero _)⟩
    | succ k =>
      obtain ⟨a2, b2, c2⟩ := h k (Nat.lt_of_succ_lt_succ hk)
      refine ⟨a2, fun i hi => ?_, fun j hj => ?_⟩
      · have z := b2 i (by rw [List.length_append]; exact Nat.lt_add_right _ hi)
        rw [g_app1 hi, g_app1 (hl ▸ hi)] at z; exact z
      · cases j with
        | zero =>
          have z := b2 s1.length (by simp)
          rw [g_app2, show g (s2 ++ [y]) s1.length = y from by rw [hl]; exact g_app2] at z
          exact z
        | succ j => exact c2 j (Nat.lt_of_succ_lt_succ hj)
/-- one more seen value that says nothing new -/
theorem alk_drop {kept s1 s2 xs ys : List Int} {x y : Int} (hl : s1.length = s2.length) (h : ∀ k < xs.length, ((g xs k ∈ kept ∨ g ys k ∈ kept) → g xs k = g ys k) → (∀ i < s1.length, (g xs k = g s1 i ↔ g ys k = g s2 i)) → (g xs k = x ↔ g ys k = y)) :
    Alk kept (s1 ++ [x]) (s2 ++ [y]) xs ys ↔ Alk kept s1 s2 xs ys := by
  constructor
  · intro q k hk
    obtain ⟨a, b, c⟩ := q k hk
    refine ⟨a, fun i hi => ?_, c⟩
    have z := b i (by rw [List.length_append]; exact Nat.lt_add_right _ hi)
    rw [g_app1 hi, g_app1 (hl ▸ hi)] at z; exact z
  · intro q k hk
    obtain ⟨a, b, c⟩ := q k hk
    refine ⟨a, fun i hi => ?_, c⟩
    rw [List.length_append] at hi
    by_cases d : i < s1.length
    · rw [g_app1 d, g_app1 (hl ▸ d)]; exact b i d
    · have e : i = s1.length := by simp at hi; omega
      subst e
      rw [g_app2, show g (s2 ++ [y]) s1.length = y from by rw [hl]; exact g_app2]
      exact h k hk a b
theorem nodup_app {s : List Int} {x : Int} (nd : s.Nodup) (h : x ∉ s) : (s ++ [x]).Nodup := by
  rw [List.nodup_append]
  exact ⟨nd, by simp, fun a ha b hb => by simp at hb; subst hb; exact fun e => h (e ▸ ha)⟩
theorem pat_eq (kept : List Int) : ∀ (xs ys s1 s2 : List Int), xs.length = ys.length → s1.length = s2.length → s1.Nodup → s2.Nodup → (∀ v ∈ s1, v ∉ kept) → (∀ v ∈ s2, v ∉ kept) → (pat kept s1 xs = pat kept s2 ys ↔ Alk kept s1 s2 xs ys)
  | [], [], s1, s2, _, _, _, _, _, _ => ⟨fun _ k hk => absurd hk (Nat.not_lt_zero _), fun _ => rfl⟩
  | [], _ :: _, _, _, h, _, _, _, _, _ => by cases h
  | _ :: _, [], _, _, h, _, _, _, _, _ => by cases h
  | x :: xs, y :: ys, s1, s2, hxy, hl, n1, n2, d1, d2 => by
    have hxy' : xs.length = ys.length := by simpa using hxy
    have ih := pat_eq kept xs ys s1 s2 hxy' hl n1 n2 d1 d2
    rw [alk_cons hl]
    by_cases hx : x ∈ kept
    · by_cases hy : y ∈ kept
      · rw [pat_k hx, pat_k hy]
        constructor
        · intro e
          injection e with e1 e2
          injection e1 with e1
          refine ⟨⟨fun _ => e1, fun i hi => ⟨fun z => ?_, fun z => ?_⟩⟩, (alk_drop hl fun k hk a b => ⟨fun z => ?_, fun z => ?_⟩).mpr (ih.mp e2)⟩
          · exact absurd hx (by rw [z]; exact d1 _ (g_mem hi))
          · exact absurd hy (by rw [z]; exact d2 _ (g_mem (hl ▸ hi)))
          · rw [← a (.inl (by rw [z]; exact hx)), z, e1]
          · rw [a (.inr (by rw [z]; exact hy)), z, e1]
        · rintro ⟨⟨a, b⟩, q⟩
          have e1 := a (.inl hx)
          have q2 := (alk_drop hl fun k hk a b => ⟨fun z => by rw [← a (.inl (by rw [z]; exact hx)), z, e1], fun z => by rw [a (.inr (by rw [z]; exact hy)), z, e1]⟩).mp q
          rw [ih.mpr q2, e1]
      · constructor
        · intro e
          rw [pat_k hx] at e
          by_cases h2 : y ∈ s2
          · rw [pat_o hy h2] at e; injection e with e1; cases e1
          · rw [pat_n hy h2] at e; injection e with e1; cases e1
        · rintro ⟨⟨a, _⟩, _⟩
          exact absurd (a (.inl hx) ▸ hx) hy
    · by_cases hy : y ∈ kept
      · constructor
        · intro e
          rw [pat_k hy] at e
          by_cases h2 : x ∈ s1
          · rw [pat_o hx h2] at e; injection e with e1; cases e1
          · rw [pat_n hx h2] at e; injection e with e1; cases e1
        · rintro ⟨⟨a, _⟩, _⟩
          exact absurd (a (.inr hy) ▸ hy) hx
      · have hk : (x ∈ kept ∨ y ∈ kept) → x = y := fun z => z.elim (fun z => absurd z hx) fun z => absurd z hy
        by_cases h1 : x ∈ s1
        · have l1 := idx_lt h1
          have a1 := idx_at h1
          by_cases h2 : y ∈ s2
          · have l2 := idx_lt h2
            have a2 := idx_at h2
            rw [pat_o hx h1, pat_o hy h2]
            have dr : (∀ i < s1.length, (x = g s1 i ↔ y = g s2 i)) → (Alk kept (s1 ++ [x]) (s2 ++ [y]) xs ys ↔ Alk kept s1 s2 xs ys) := fun b => alk_drop hl fun k hk a c => by
              have z := c _ l1
              have e1 : g s1 (s1.idxOf x) = x := by rw [g_at l1, a1]
              have e2 : g s2 (s1.idxOf x) = y := ((b _ l1).mp e1.symm).symm
              rw [e1, e2] at z; exact z
            constructor
            · intro e
              injection e with e1 e2
              injection e1 with e1
              have b : ∀ i < s1.length, (x = g s1 i ↔ y = g s2 i) := fun i hi => ⟨fun z => by
                have : s1.idxOf x = i := by rw [z, g_at hi]; exact idx_nodup n1 hi
                rw [← this, e1, g_at l2, a2], fun z => by
                have : s2.idxOf y = i := by rw [z, g_at (hl ▸ hi)]; exact idx_nodup n2 (hl ▸ hi)
                rw [← this, ← e1, g_at l1, a1]⟩
              exact ⟨⟨hk, b⟩, (dr b).mpr (ih.mp e2)⟩
            · rintro ⟨⟨_, b⟩, q⟩
              have e1 : s1.idxOf x = s2.idxOf y := by
                have z := (b _ l1).mp (by rw [g_at l1, a1])
                have l3 : s1.idxOf x < s2.length := hl ▸ l1
                rw [z, g_at l3]; exact (idx_nodup n2 l3).symm
              rw [ih.mpr ((dr b).mp q), e1]
          · constructor
            · intro e
              rw [pat_o hx h1, pat_n hy h2] at e
              injection e with e1; injection e1 with e1; omega
            · rintro ⟨⟨_, b⟩, _⟩
              have z := (b _ l1).mp (by rw [g_at l1, a1])
              exact absurd (by rw [z]; exact g_mem (hl ▸ l1)) h2
        · by_cases h2 : y ∈ s2
          · have l2 := idx_lt h2
            have a2 := idx_at h2
            constructor
            · intro e
              rw [pat_n hx h1, pat_o hy h2] at e
              injection e with e1; injection e1 with e1; omega
            · rintro ⟨⟨_, b⟩, _⟩
              have z := (b _ (hl ▸ l2)).mpr (by rw [g_at l2, a2])
              exact absurd (by rw [z]; exact g_mem (hl ▸ l2)) h1
          · rw [pat_n hx h1, pat_n hy h2]
            have ih2 := pat_eq kept xs ys (s1 ++ [x]) (s2 ++ [y]) hxy' (by simp [hl]) (nodup_app n1 h1) (nodup_app n2 h2)
              (fun v hv => by rcases List.mem_append.mp hv with h | h; · exact d1 v h
                              · simp at h; subst h; exact hx)
              (fun v hv => by rcases List.mem_append.mp hv with h | h; · exact d2 v h
                              · simp at h; subst h; exact hy)
            constructor
            · intro e
              injection e with e1 e2
              exact ⟨⟨hk, fun i hi => ⟨fun z => absurd (by rw [z]; exact g_mem hi) h1, fun z => absurd (by rw [z]; exact g_mem (hl ▸ hi)) h2⟩⟩, ih2.mp e2⟩
            · rintro ⟨_, q⟩
              rw [ih2.mpr q, hl]
def Alike (kept xs ys : List Int) : Prop := ∀ k < xs.length, ((g xs k ∈ kept ∨ g ys k ∈ kept) → g xs k = g ys k) ∧ ∀ j < k, (g xs k = g xs j ↔ g ys k = g ys j)
theorem alike_iff {kept xs ys : List Int} (h : xs.length = ys.length) : pat kept [] xs = pat kept [] ys ↔ Alike kept xs ys := by
  rw [pat_eq kept xs ys [] [] h rfl List.nodup_nil List.nodup_nil (fun v hv => absurd hv (by simp)) (fun v hv => absurd hv (by simp))]
  exact ⟨fun q k hk => let ⟨a, _, c⟩ := q k hk; ⟨a, c⟩, fun q k hk => let ⟨a, c⟩ := q k hk; ⟨a, fun i hi => absurd hi (Nat.not_lt_zero _), c⟩⟩
/-! ### what no kept one is -/
def fre (t : List Int) (n : Nat) : List Int := ((List.range n).map fun i : Nat => (i : Int)).filter fun v => decide (v ∉ t)
theorem fre_succ (t : List Int) (n : Nat) : fre t (n + 1) = fre t n ++ (if (n : Int) ∉ t then [(n : Int)] else []) := by
  unfold fre
  rw [List.range_succ, List.map_append, List.filter_append]
  by_cases h : (n : Int) ∈ t <;> simp [h]
theorem fre_at (t : List Int) : ∀ (n i : Nat) (v : Int), (fre t n)[i]? = some v → 0 ≤ v ∧ v < n ∧ v ∉ t ∧ (fre t v.toNat).length = i
  | 0, i, v, h => by simp [fre] at h
  | n + 1, i, v, h => by
    rw [fre_succ] at h
    by_cases c : i < (fre t n).length
    · rw [List.getElem?_append_left c] at h
      obtain ⟨a, b, r⟩ := fre_at t n i v h
      exact ⟨a, by omega, r⟩
    · rw [List.getElem?_append_right (by omega)] at h
      by_cases hn : (n : Int) ∈ t
      · simp [hn] at h
      · rw [if_pos hn] at h
        have h2 : i - (fre t n).length = 0 := by
          have := (List.getElem?_eq_some_iff.mp h).1
          simpa using this
        rw [h2] at h
        have e : (n : Int) = v := by simpa using h
        subst e
        exact ⟨by omega, by omega, hn, by rw [Int.toNat_natCast]; omega⟩
theorem filter_ne {l : List Int} (a : Int) (h : l.Pairwise (· < ·)) : l.length ≤ (l.filter fun v => decide (v ≠ a)).length + 1 := by
  induction l with
  | nil => simp
  | cons x l ih =>
    obtain ⟨h1, h2⟩ := List.pairwise_cons.mp h
    by_cases e : x = a
    · subst e
      have : l.filter (fun v => decide (v ≠ x)) = l := List.filter_eq_self.mpr fun v hv => decide_eq_true (by have := h1 v hv; omega)
      rw [List.filter_cons_of_neg (by simp), this]; simp
    · rw [List.filter_cons_of_pos (by simpa using e), List.length_cons, List.length_cons]
      have := ih h2
      omega
theorem fre_sorted (t : List Int) (n : Nat) : (fre t n).Pairwise (· < ·) := by
  unfold fre
  refine List.Pairwise.filter _ (List.Pairwise.map _ (fun a b h => ?_) List.pairwise_lt_range)
  exact Int.ofNat_lt.mpr h
theorem fre_len (t : List Int) (n : Nat) : n ≤ (fre t n).length + t.length := by
  induction t with
  | nil =>
    have e : fre [] n = (List.range n).map fun i : Nat => (i : Int) := List.filter_eq_self.mpr fun v _ => by simp
    rw [e]; simp
  | cons a t ih =>
    have e : fre (a :: t) n = (fre t n).filter fun v => decide (v ≠ a) := by
      unfold fre
      rw [List.filter_filter]
      congr 1
      funext v
      by_cases h1 : v = a <;> by_cases h2 : v ∈ t <;> simp [h1, h2]
    have := filter_ne a (fre_sorted t n)
    rw [e, List.length_cons]
    omega
def frs (c : Nat) (t : List Int) : List Int := (fre t (c + t.length)).take c
theorem frs_len (c : Nat) (t : List Int) : (frs c t).length = c := by
  have := fre_len t (c + t.length)
  unfold frs
  rw [List.length_take]
  omega
theorem frs_at {c : Nat} {t : List Int} {i : Nat} (h : i < c) : 0 ≤ g (frs c t) i ∧ g (frs c t) i < (c + t.length : Nat) ∧ g (frs c t) i ∉ t ∧ (fre t (g (frs c t) i).toNat).length = i := by
  have h2 : i < (frs c t).length := by rw [frs_len]; exact h
  rw [g_at h2]
  refine fre_at t (c + t.length) i _ ?_
  have e : (frs c t)[i]? = some (frs c t)[i] := List.getElem?_eq_getElem h2
  unfold frs at e
  rw [List.getElem?_take_of_lt h] at e
  exact e
theorem frs_nodup (c : Nat) (t : List Int) : (frs c t).Nodup :=
  ((fre_sorted t (c + t.length)).take (i := c)).imp fun h => Int.ne_of_lt h
/-! ### what realises a pattern -/
def rz (o : List Int) : En → Int
  | .k v => v
  | .n i => g o i
theorem pat_rz {kept o : List Int} (nd : o.Nodup) (dj : ∀ v ∈ o, v ∉ kept) : ∀ (xs s : List Int), (∀ i, En.n i ∈ pat kept s xs → i < o.length) → s.length ≤ o.length → pat kept (o.take s.length) ((pat kept s xs).map (rz o)) = pat kept s xs
  | [], _, _, _ => rfl
  | v :: vs, s, hb, hs => by
    by_cases h : v ∈ kept
    · rw [pat_k h] at hb ⊢
      rw [List.map_cons, show rz o (.k v) = v from rfl, pat_k h, pat_rz nd dj vs s (fun i hi => hb i (List.mem_cons_of_mem _ hi)) hs]
    · by_cases h2 : v ∈ s
      · rw [pat_o h h2] at hb ⊢
        have l := idx_lt h2
        have lo : s.idxOf v < o.length := Nat.lt_of_lt_of_le l hs
        have l2 : s.idxOf v < (o.take s.length).length := by rw [List.length_take]; omega
        have e : rz o (.n (s.idxOf v)) = (o.take s.length)[s.idxOf v] := by
          show g o _ = _
          rw [g_at lo, List.getElem_take]
        rw [List.map_cons, e, pat_o (by rw [List.getElem_take]; exact dj _ (List.getElem_mem _)) (List.getElem_mem _), idx_nodup (nd.take) l2, pat_rz nd dj vs s (fun i hi => hb i (List.mem_cons_of_mem _ hi)) hs]
      · rw [pat_n h h2] at hb ⊢
        have lo : s.length < o.length := hb _ List.mem_cons_self
        have e : rz o (.n s.length) = o[s.length] := g_at lo
        have nm : o[s.length] ∉ o.take s.length := by
          intro z
          obtain ⟨j, hj, ej⟩ := List.getElem_of_mem z
          rw [List.getElem_take] at ej
          rw [List.length_take] at hj
          exact List.pairwise_iff_getElem.mp nd j s.length (by omega) lo (by omega) ej
        rw [List.map_cons, e, pat_n (dj _ (List.getElem_mem _)) nm, List.length_take, Nat.min_eq_left hs]
        have e2 : o.take s.length ++ [o[s.length]] = o.take (s ++ [v]).length := by
          rw [List.length_append, List.length_singleton, List.take_add_one, List.getElem?_eq_getElem lo]; rfl
        rw [e2, pat_rz nd dj vs (s ++ [v]) (fun i hi => hb i (List.mem_cons_of_mem _ hi)) (by rw [List.length_append]; exact lo)]
/-- a class's number is below the count of classes so far -/
theorem pat_bound (kept : List Int) : ∀ (xs s : List Int) (i : Nat), En.n i ∈ pat kept s xs → i < s.length + xs.length
  | [], _, _, h => by simp [pat] at h
  | v :: vs, s, i, h => by
    by_cases h1 : v ∈ kept
    · rw [pat_k h1] at h
      rcases List.mem_cons.mp h with e | e
      · cases e
      · have := pat_bound kept vs s i e; simp; omega
    · by_cases h2 : v ∈ s
      · rw [pat_o h1 h2] at h
        rcases List.mem_cons.mp h with e | e
        · injection e with e; have := idx_lt h2; simp; omega
        · have := pat_bound kept vs s i e; simp; omega
      · rw [pat_n h1 h2] at h
        rcases List.mem_cons.mp h with e | e
        · injection e with e; simp; omega
        · have := pat_bound kept vs (s ++ [v]) i e
          simp at this ⊢; omega
theorem pat_kept (kept : List Int) : ∀ (xs s : List Int) (v : Int), En.k v ∈ pat kept s xs → v ∈ kept
  | [], _, _, h => by simp [pat] at h
  | x :: xs, s, v, h => by
    by_cases h1 : x ∈ kept
    · rw [pat_k h1] at h
      rcases List.mem_cons.mp h with e | e
      · injection e with e; subst e; exact h1
      · exact pat_kept kept xs s v e
    · by_cases h2 : x ∈ s
      · rw [pat_o h1 h2] at h
        rcases List.mem_cons.mp h with e | e
        · cases e
        · exact pat_kept kept xs s v e
      · rw [pat_n h1 h2] at h
        rcases List.mem_cons.mp h with e | e
        · cases e
        · exact pat_kept kept xs _ v e
end Cm
namespace Cm
open PySem PySem.Spec PyProof.Rows L2
theorem cut_take (xs : List V) (c : Nat) : cutV xs none (some (c : Int)) = xs.take c := by
  unfold cutV
  rw [HT.sIx_none, HT.sIx_nat, Nat.sub_zero, List.drop_zero]
  exact (List.take_eq_take_min ..).symm
/-! ### patterns in the heap -/
abbrev AE := Addr × En
def rf (l : List AE) : List V := l.map fun q => V.ref q.1
def PatAt (H : Hp) (a : Addr) (es : List En) : Prop := ∃ l : List AE, H a = some (.tup (rf l)) ∧ l.map (·.2) = es ∧ ∀ q ∈ l, H q.1 = some (.tup q.2.vs)
theorem PatAt.same {H H' : Hp} {a : Addr} {es : List En} (s : Same H H') (h : PatAt H a es) : PatAt H' a es :=
  let ⟨l, h1, h2, h3⟩ := h; ⟨l, s _ _ h1, h2, fun q hq => s _ _ (h3 q hq)⟩
theorem PatAt.kp {K : PySem.W.Frag} {sa : Addr} {sx : List Int} {H H' : Hp} {a p : Addr} {es : List En} (hP : PoolAt K sa sx H p) (s : Kp p H H') (h : PatAt H a es) : PatAt H' a es :=
  let ⟨l, h1, h2, h3⟩ := h; ⟨l, s _ _ (pool_tup hP h1) h1, h2, fun q hq => s _ _ (pool_tup hP (h3 q hq)) (h3 q hq)⟩
/-- the dict of the classes -/
def kvs (s : List Int) : List (Key × V) := s.zipIdx.map fun q => (Sum.inl q.1, V.int (q.2 : Int))
theorem kvs_len (s : List Int) : (kvs s).length = s.length := by unfold kvs; rw [List.length_map, List.length_zipIdx]
theorem val_from (v : Int) : ∀ (s : List Int) (n : Nat), valV ((s.zipIdx n).map fun q => ((Sum.inl q.1 : Key), V.int (q.2 : Int))) (Sum.inl v) = if v ∈ s then some (.int ((n + s.idxOf v : Nat) : Int)) else none
  | [], n => rfl
  | x :: s, n => by
    rw [List.zipIdx_cons, List.map_cons]
    by_cases e : x = v
    · subst e
      have : valV (((Sum.inl x : Key), V.int (n : Int)) :: ((s.zipIdx (n + 1)).map fun q => ((Sum.inl q.1 : Key), V.int (q.2 : Int)))) (Sum.inl x) = some (V.int (n : Int)) := by
        unfold valV
        rw [List.find?_cons_of_pos (by simp)]; rfl
      rw [this, if_pos List.mem_cons_self, List.idxOf_cons_self]; rfl
    · have : valV (((Sum.inl x : Key), V.int (n : Int)) :: ((s.zipIdx (n + 1)).map fun q => ((Sum.inl q.1 : Key), V.int (q.2 : Int)))) (Sum.inl v) = valV ((s.zipIdx (n + 1)).map fun q => ((Sum.inl q.1 : Key), V.int (q.2 : Int))) (Sum.inl v) := by
        unfold valV
        rw [List.find?_cons_of_neg (by simpa using e)]
      rw [this, val_from v s (n + 1), List.idxOf_cons, beq_false_of_ne e]
      by_cases h : v ∈ s
      · rw [if_pos h, if_pos (List.mem_cons_of_mem _ h)]
        show some (V.int ((n + 1 + s.idxOf v : Nat) : Int)) = some (V.int ((n + (s.idxOf v + 1) : Nat) : Int))
        rw [show n + 1 + s.idxOf v = n + (s.idxOf v + 1) from by omega]
      · rw [if_neg h, if_neg (by simp [h]; exact fun z => e z.symm)]
theorem val_kvs (v : Int) (s : List Int) : valV (kvs s) (Sum.inl v) = if v ∈ s then some (.int ((s.idxOf v : Nat) : Int)) else none := by
  have := val_from v s 0
  rw [Nat.zero_add] at this
  exact this
theorem put_kvs {v : Int} {s : List Int} (h : v ∉ s) : putK (kvs s) (Sum.inl v) (V.int ((kvs s).length : Int)) = kvs (s ++ [v]) := by
  have e : ((kvs s).any fun kv => decide (kv.1 = (Sum.inl v : Key))) = false := by
    rw [List.any_eq_false]
    intro kv hk
    unfold kvs at hk
    obtain ⟨q, hq, rfl⟩ := List.mem_map.mp hk
    have hm : q.1 ∈ s := by
      have := List.mem_zipIdx hq
      rw [this.2.2]
      exact List.getElem_mem _
    intro z
    have z2 : q.1 = v := by simpa using z
    exact h (z2 ▸ hm)
  unfold putK
  rw [e, if_neg (by simp), kvs_len]
  unfold kvs
  rw [List.zipIdx_append, List.map_append]
  simp
/-! ### data of patterns -/
theorem kn1 : (("kept" : Str) == "new") = false := by decide +kernel
theorem kn2 : (("new" : Str) == "kept") = false := by decide +kernel
theorem eqv_en (a b : En) : PyData.eqv (.tuple a.ds) (.tuple b.ds) = decide (a = b) := by
  cases a with
  | k v => cases b with
    | k w => simp [En.ds, PyData.eqv, PyData.eqvAll]; apply Bool.eq_iff_iff.mpr; simp
    | n j => simp [En.ds, PyData.eqv, PyData.eqvAll, kn1]
  | n i => cases b with
    | k w => simp [En.ds, PyData.eqv, PyData.eqvAll, kn2]
    | n j => simp [En.ds, PyData.eqv, PyData.eqvAll]; apply Bool.eq_iff_iff.mpr; simp [Int.ofNat_inj]
def pds (es : List En) : List PyData := es.map fun e => .tuple e.ds
theorem eqv_pds : ∀ a b : List En, PyData.eqvAll (pds a) (pds b) = decide (a = b)
  | [], [] => rfl
  | [], b :: bs => by simp [pds, PyData.eqvAll]
  | a :: as, [] => by simp [pds, PyData.eqvAll]
  | a :: as, b :: bs => by
    show (PyData.eqv (.tuple a.ds) (.tuple b.ds) && PyData.eqvAll (pds as) (pds bs)) = _
    rw [eqv_en, eqv_pds as bs]
    apply Bool.eq_iff_iff.mpr
    simp
theorem eqv_pat (a b : List En) : PyData.eqv (.tuple (pds a)) (.tuple (pds b)) = decide (a = b) := by
  rw [PyData.eqv]; exact eqv_pds a b
theorem dp_en {K : PySem.W.Frag} {H : Hp} {a : Addr} {e : En} (h : H a = some (.tup e.vs)) : Dp K H (.ref a) (.tuple e.ds) := by
  cases e with
  | k v => exact .tup (SqT.of h) (.cons (.str _) (.cons (.int _) .nil))
  | n i => exact .tup (SqT.of h) (.cons (.str _) (.cons (.int _) .nil))
theorem dp_ens {K : PySem.W.Frag} {H : Hp} : ∀ (l : List AE), (∀ q ∈ l, H q.1 = some (.tup q.2.vs)) → DpAll K H (rf l) (pds (l.map (·.2)))
  | [], _ => .nil
  | q :: l, h => .cons (dp_en (h q List.mem_cons_self)) (dp_ens l fun r hr => h r (List.mem_cons_of_mem _ hr))
theorem dp_pat {K : PySem.W.Frag} {H : Hp} {a : Addr} {es : List En} (h : PatAt H a es) : Dp K H (.ref a) (.tuple (pds es)) := by
  obtain ⟨l, h1, rfl, h3⟩ := h
  exact .tup (SqT.of h1) (dp_ens l h3)
theorem lay_en (e : En) : PyData.canLay0 (.tuple e.ds) = true ∧ (PyData.tuple e.ds).depth = 1 := by
  have k : ∀ x : Str, PyData.strOk x = true → PyData.canLay0 (.str x) = true := fun x h => by rw [PyData.canLay0]; exact h
  cases e with
  | k v =>
    refine ⟨?_, rfl⟩
    rw [PyData.canLay0]
    show (PyData.canLay0 (.str "kept") && (PyData.canLay0 (.int v) && true)) = true
    rw [k "kept" (by decide +kernel)]; rfl
  | n i =>
    refine ⟨?_, rfl⟩
    rw [PyData.canLay0]
    show (PyData.canLay0 (.str "new") && (PyData.canLay0 (.int i) && true)) = true
    rw [k "new" (by decide +kernel)]; rfl
theorem lay_pds : ∀ es : List En, PyData.canLayAll0 (pds es) = true ∧ PyData.depthAll (pds es) ≤ 1
  | [] => ⟨rfl, Nat.zero_le _⟩
  | e :: es => by
    obtain ⟨h1, h2⟩ := lay_pds es
    obtain ⟨h3, h4⟩ := lay_en e
    constructor
    · show (PyData.canLay0 (.tuple e.ds) && PyData.canLayAll0 (pds es)) = true
      rw [h1, h3]; rfl
    · show max (PyData.tuple e.ds).depth (PyData.depthAll (pds es)) ≤ 1
      omega
theorem shp_pat (es : List En) : SeqAt.shaped (.tuple (pds es)) = true := by
  obtain ⟨h1, h2⟩ := lay_pds es
  unfold SeqAt.shaped
  rw [PyData.canLay0, h1, PyData.depth]
  have : PyData.depthAll (pds es) + 1 ≤ 64 := by omega
  simpa using this
end Cm
namespace Cm
open PySem PySem.Spec PyProof.Rows
open L2 hiding Same
theorem ix_ints1 {v : Int} {s : List Int} (h : v ∈ s) : (s.map V.int)[s.idxOf v]? = some (.int v) := by
  rw [List.getElem?_map, List.getElem?_eq_getElem (idx_lt h), idx_at h]; rfl
theorem ix_ints2 {v : Int} {s : List Int} (m : Nat) (z : V) (hm : m < s.idxOf v) (h : (s.map V.int)[m]? = some z) : eqV z (.int v) = false := by
  obtain ⟨hi, rfl⟩ := map_at h
  have := idx_before hi hm
  simpa [eqV] using this
theorem eqV_int (v : Int) : eqV (.int v) (.int v) = true := by simp [eqV]
theorem rf_len (l : List AE) : (rf l).length = l.length := List.length_map ..
theorem rf_at {l : List AE} {i : Nat} {x : V} (h : (rf l)[i]? = some x) : ∃ q, l[i]? = some q ∧ V.ref q.1 = x := by
  unfold rf at h
  rw [List.getElem?_map] at h
  cases e : l[i]? with
  | none => rw [e] at h; cases h
  | some q => rw [e] at h; exact ⟨q, rfl, Option.some.inj h⟩
def clsF (q : AE) : Option Int := match q.2 with
  | .k _ => none
  | .n i => some (i + 1 : Int)
def cls (l : List AE) : List Int := l.filterMap clsF
theorem cls_take {l : List AE} {i : Nat} {q : AE} (h : l[i]? = some q) : cls (l.take (i + 1)) = cls (l.take i) ++ (clsF q).toList := by
  unfold cls
  rw [List.take_add_one, h, List.filterMap_append]
  have e : List.filterMap clsF (some q).toList = (clsF q).toList := by
    show List.filterMap clsF [q] = _
    cases e : clsF q <;> simp [e]
  rw [e]
theorem cls_len (l : List AE) : (cls l).length ≤ l.length := List.length_filterMap_le ..
/-- how many classes there are -/
def CntOk (c : Nat) (es : List En) : Prop := (∀ i, En.n i ∈ es → i < c) ∧ (c = 0 ∨ En.n (c - 1) ∈ es)
theorem CntOk.le {c n : Nat} {es : List En} (h : CntOk c es) (b : ∀ i, En.n i ∈ es → i < n) : c ≤ n := by
  rcases h.2 with e | e
  · omega
  · have := b _ e; omega
theorem cnt_nil {l : List AE} (h : cls l = []) : CntOk 0 (l.map (·.2)) := by
  refine ⟨fun i hi => ?_, .inl rfl⟩
  obtain ⟨q, hq, e⟩ := List.mem_map.mp hi
  have : (i + 1 : Int) ∈ cls l := List.mem_filterMap.mpr ⟨q, hq, by unfold clsF; rw [e]⟩
  rw [h] at this; cases this
theorem cnt_max {l : List AE} {m : Int} (h : m ∈ cls l) (hm : ∀ n ∈ cls l, n ≤ m) : ∃ c : Nat, m = c ∧ CntOk c (l.map (·.2)) := by
  obtain ⟨q, hq, e⟩ := List.mem_filterMap.mp h
  unfold clsF at e
  cases e2 : q.2 with
  | k v => rw [e2] at e; cases e
  | n i =>
    rw [e2] at e
    have e3 : (i + 1 : Int) = m := Option.some.inj e
    refine ⟨i + 1, by omega, fun j hj => ?_, .inr (List.mem_map.mpr ⟨q, hq, e2⟩)⟩
    obtain ⟨r, hr, e4⟩ := List.mem_map.mp hj
    have := hm (j + 1 : Int) (List.mem_filterMap.mpr ⟨r, hr, by unfold clsF; rw [e4]⟩)
    omega
end Cm
namespace Cm
open PySem PySem.Spec PyProof.Rows
open L2 hiding Same
theorem vi {a b : Int} : V.int a = V.int b ↔ a = b := ⟨fun h => by injection h, fun h => by rw [h]⟩
theorem bl_iff {a b c d : Int} : V.bl (decide (V.int a = V.int b)) = V.bl (decide (V.int c = V.int d)) ↔ (a = b ↔ c = d) := by
  constructor
  · intro h
    injection h with h
    have := decide_eq_decide.mp h
    rwa [vi, vi] at this
  · intro h
    congr 1
    exact decide_eq_decide.mpr (by rwa [vi, vi])
end Cm
namespace Cm
open PySem PySem.Spec PyProof.Rows
open L2 hiding Same
theorem fre_congr {t1 t2 : List Int} (h : ∀ v, v ∈ t1 ↔ v ∈ t2) (n : Nat) : fre t1 n = fre t2 n := by
  unfold fre
  congr 1
  funext v
  exact decide_eq_decide.mpr (not_congr (h v))
theorem frs_congr {t1 t2 : List Int} (h : ∀ v, v ∈ t1 ↔ v ∈ t2) (hl : t1.length = t2.length) (c : Nat) : frs c t1 = frs c t2 := by
  unfold frs
  rw [fre_congr h, hl]
theorem frs_dj {c : Nat} {t : List Int} : ∀ v ∈ frs c t, v ∉ t := fun v hv => by
  obtain ⟨i, hi, rfl⟩ := List.getElem_of_mem hv
  have := (frs_at (t := t) (show i < c by rwa [frs_len] at hi)).2.2.1
  rwa [g_at hi] at this
/-- the pattern of what realises a pattern -/
theorem pat_real {kept xs : List Int} {c : Nat} (h : CntOk c (pat kept [] xs)) : pat kept [] ((pat kept [] xs).map (rz (frs c kept))) = pat kept [] xs := by
  have := pat_rz (kept := kept) (o := frs c kept) (frs_nodup c kept) frs_dj xs [] (fun i hi => by rw [frs_len]; exact h.1 i hi) (Nat.zero_le _)
  simpa using this
theorem pat_lt {kept xs : List Int} {n : Nat} (h : xs.length ≤ n) : ∀ i, En.n i ∈ pat kept [] xs → i < n := fun i hi => by
  have := pat_bound kept xs [] i hi
  simp at this; omega
end Cm
namespace K26
open PySem PySem.Spec PyProof.Rows L2 Cm
def top (i : Nat) : Stmt := PySem.Challenge.pw_quietedition_k26_patterns_and_renaming.main.body.getD i (.Pass ⟨0, 0, 0, 0⟩)
abbrev s_fresh : Stmt := top 1
theorem sc_fresh : FnScope ["count", "taken", "n"] ["count", "taken"] (defScope s_fresh) := ⟨rfl, rfl, rfl, by decide +kernel, rfl, by decide +kernel, by decide +kernel⟩
abbrev s_pattern : Stmt := top 2
theorem sc_pattern : FnScope ["values", "kept", "classes", "entries", "value"] ["values", "kept"] (defScope s_pattern) := ⟨rfl, rfl, rfl, by decide +kernel, rfl, by decide +kernel, by decide +kernel⟩
abbrev s_count_classes : Stmt := top 3
theorem sc_count_classes : FnScope ["entries", "entry"] ["entries"] (defScope s_count_classes) := ⟨rfl, rfl, rfl, by decide +kernel, rfl, by decide +kernel, by decide +kernel⟩
abbrev s_realise : Stmt := top 4
theorem sc_realise : FnScope ["entries", "kept", "others", "entry"] ["entries", "kept"] (defScope s_realise) := ⟨rfl, rfl, rfl, by decide +kernel, rfl, by decide +kernel, by decide +kernel⟩
abbrev s_l_draw : Stmt := top 6
theorem sc_l_draw : FnScope ["_law_pool", "_law_many", "_law_cell", "_law_number_here"] ["_law_pool", "_law_many"] (defScope s_l_draw) := ⟨rfl, rfl, rfl, by decide +kernel, rfl, by decide +kernel, by decide +kernel⟩
abbrev s_l_pick : Stmt := top 7
theorem sc_l_pick : FnScope ["_law_pool", "_law_things"] ["_law_pool", "_law_things"] (defScope s_l_pick) := ⟨rfl, rfl, rfl, by decide +kernel, rfl, by decide +kernel, by decide +kernel⟩
abbrev s_l_number : Stmt := top 8
theorem sc_l_number : FnScope ["_law_pool", "_law_kind"] ["_law_pool"] (defScope s_l_number) := ⟨rfl, rfl, rfl, by decide +kernel, rfl, by decide +kernel, by decide +kernel⟩
abbrev s_l_integer : Stmt := top 9
theorem sc_l_integer : FnScope ["_law_thing"] ["_law_thing"] (defScope s_l_integer) := ⟨rfl, rfl, rfl, by decide +kernel, rfl, by decide +kernel, by decide +kernel⟩
abbrev s_l_kept : Stmt := top 10
theorem sc_l_kept : FnScope ["_law_pool", "_law_kept_here", "_law_k", "_law_number_here"] ["_law_pool"] (defScope s_l_kept) := ⟨rfl, rfl, rfl, by decide +kernel, rfl, by decide +kernel, by decide +kernel⟩
abbrev s_l_values : Stmt := top 11
theorem sc_l_values : FnScope ["_law_pool", "_law_size", "_law_kept_here", "_law_values_here", "_law_k", "_law_kind"] ["_law_pool", "_law_size", "_law_kept_here"] (defScope s_l_values) := ⟨rfl, rfl, rfl, by decide +kernel, rfl, by decide +kernel, by decide +kernel⟩
abbrev s_l_taken : Stmt := top 12
theorem sc_l_taken : FnScope ["_law_pool", "_law_values_here", "_law_kept_here", "_law_taken_here", "_law_k", "_law_number_here", "_law_step"] ["_law_pool", "_law_values_here", "_law_kept_here"] (defScope s_l_taken) := ⟨rfl, rfl, rfl, by decide +kernel, rfl, by decide +kernel, by decide +kernel⟩
abbrev s_l_entries : Stmt := top 13
theorem sc_l_entries : FnScope ["_law_values_here", "_law_kept_here", "_law_seen", "_law_entries_here", "_law_value"] ["_law_values_here", "_law_kept_here"] (defScope s_l_entries) := ⟨rfl, rfl, rfl, by decide +kernel, rfl, by decide +kernel, by decide +kernel⟩
abbrev s_l_alike : Stmt := top 14
theorem sc_l_alike : FnScope ["_law_one", "_law_two", "_law_kept_here", "_law_k", "_law_j"] ["_law_one", "_law_two", "_law_kept_here"] (defScope s_l_alike) := ⟨rfl, rfl, rfl, by decide +kernel, rfl, by decide +kernel, by decide +kernel⟩
abbrev s_l_is_realised : Stmt := top 15
theorem sc_l_is_realised : FnScope ["_law_values_here", "_law_entries_here", "_law_kept_here", "_law_k", "_law_below", "_law_n"] ["_law_values_here", "_law_entries_here", "_law_kept_here"] (defScope s_l_is_realised) := ⟨rfl, rfl, rfl, by decide +kernel, rfl, by decide +kernel, by decide +kernel⟩
abbrev s_law : Stmt := top 16
theorem sc_law : FnScope ["_law_script", "_law_pool", "_law_kept_here", "_law_size", "_law_one", "_law_two", "_law_given", "_law_first", "_law_second", "_law_least", "_law_other"] ["_law_script"] (defScope s_law) := ⟨rfl, rfl, rfl, by decide +kernel, rfl, by decide +kernel, by decide +kernel⟩
def d_fresh : He.DefD := ⟨("fresh", none), "fresh", "fresh", defArgs s_fresh, defBody s_fresh, defScope s_fresh, [], []⟩
def d_pattern : He.DefD := ⟨("pattern", none), "pattern", "pattern", defArgs s_pattern, defBody s_pattern, defScope s_pattern, [], []⟩
def d_count_classes : He.DefD := ⟨("count_classes", none), "count_classes", "count_classes", defArgs s_count_classes, defBody s_count_classes, defScope s_count_classes, [], []⟩
def d_realise : He.DefD := ⟨("realise", none), "realise", "realise", defArgs s_realise, defBody s_realise, defScope s_realise, [], []⟩
def d_l_draw : He.DefD := ⟨("_law_draw", none), "_law_draw", "_law_draw", defArgs s_l_draw, defBody s_l_draw, defScope s_l_draw, [], []⟩
def d_l_pick : He.DefD := ⟨("_law_pick", none), "_law_pick", "_law_pick", defArgs s_l_pick, defBody s_l_pick, defScope s_l_pick, [], []⟩
def d_l_number : He.DefD := ⟨("_law_number", none), "_law_number", "_law_number", defArgs s_l_number, defBody s_l_number, defScope s_l_number, [], []⟩
def d_l_integer : He.DefD := ⟨("_law_integer", none), "_law_integer", "_law_integer", defArgs s_l_integer, defBody s_l_integer, defScope s_l_integer, [], []⟩
def d_l_kept : He.DefD := ⟨("_law_kept", none), "_law_kept", "_law_kept", defArgs s_l_kept, defBody s_l_kept, defScope s_l_kept, [], []⟩
def d_l_values : He.DefD := ⟨("_law_values", none), "_law_values", "_law_values", defArgs s_l_values, defBody s_l_values, defScope s_l_values, [], []⟩
def d_l_taken : He.DefD := ⟨("_law_taken", none), "_law_taken", "_law_taken", defArgs s_l_taken, defBody s_l_taken, defScope s_l_taken, [], []⟩
def d_l_entries : He.DefD := ⟨("_law_entries", none), "_law_entries", "_law_entries", defArgs s_l_entries, defBody s_l_entries, defScope s_l_entries, [], []⟩
def d_l_alike : He.DefD := ⟨("_law_alike", none), "_law_alike", "_law_alike", defArgs s_l_alike, defBody s_l_alike, defScope s_l_alike, [], []⟩
def d_l_is_realised : He.DefD := ⟨("_law_is_realised", none), "_law_is_realised", "_law_is_realised", defArgs s_l_is_realised, defBody s_l_is_realised, defScope s_l_is_realised, [], []⟩
def d_law : He.DefD := ⟨("law", none), "law", "law", defArgs s_law, defBody s_law, defScope s_law, [], []⟩
def fn : List He.DefD := [d_fresh, d_pattern, d_count_classes, d_realise, d_l_draw, d_l_pick, d_l_number, d_l_integer, d_l_kept, d_l_values, d_l_taken, d_l_entries, d_l_alike, d_l_is_realised, d_law]
def fa : List He.Fa := [.glo "fresh",
  .glo "pattern",
  .glo "count_classes",
  .glo "realise",
  .glo "_law_draw",
  .glo "_law_pick",
  .glo "_law_number",
  .glo "_law_integer",
  .glo "_law_kept",
  .glo "_law_values",
  .glo "_law_taken",
  .glo "_law_entries",
  .glo "_law_alike",
  .glo "_law_is_realised",
  .glo "law",
  .free "len",
  .free "range",
  .free "int",
  .free "tuple",
  .free "list",
  .free "isinstance",
  .free "bool",
  .free "max"]
def exs (K : PySem.W.Frag) : List Bool := []
structure Tx (K : PySem.W.Frag) (mg : Str → Option Value) (sa : Addr) (sx : List Int) : Prop where
  c : He.SaysD fa fn K
  k : (exs K).all id = true
  g0 : mg "fresh" = some (.ref (He.ga K "fresh"))
  g1 : mg "pattern" = some (.ref (He.ga K "pattern"))
  g2 : mg "count_classes" = some (.ref (He.ga K "count_classes"))
  g3 : mg "realise" = some (.ref (He.ga K "realise"))
  g4 : mg "_law_draw" = some (.ref (He.ga K "_law_draw"))
  g5 : mg "_law_pick" = some (.ref (He.ga K "_law_pick"))
  g6 : mg "_law_number" = some (.ref (He.ga K "_law_number"))
  g7 : mg "_law_integer" = some (.ref (He.ga K "_law_integer"))
  g8 : mg "_law_kept" = some (.ref (He.ga K "_law_kept"))
  g9 : mg "_law_values" = some (.ref (He.ga K "_law_values"))
  g10 : mg "_law_taken" = some (.ref (He.ga K "_law_taken"))
  g11 : mg "_law_entries" = some (.ref (He.ga K "_law_entries"))
  g12 : mg "_law_alike" = some (.ref (He.ga K "_law_alike"))
  g13 : mg "_law_is_realised" = some (.ref (He.ga K "_law_is_realised"))
  g14 : mg "law" = some (.ref (He.ga K "law"))
  n0 : mg "len" = none
  n1 : mg "range" = none
  n2 : mg "int" = none
  n3 : mg "tuple" = none
  n4 : mg "list" = none
  n5 : mg "isinstance" = none
  n6 : mg "bool" = none
  n7 : mg "max" = none
section
variable {K : PySem.W.Frag} {mg : Str → Option Value} {sa : Addr} {sx : List Int}
theorem tx_of {h : Heap} (X : K.In h) (G : h.Ns mainGlobals mg) (c : He.SaysD fa fn K) (k : (exs K).all id = true) : Tx K mg sa sx :=
  ⟨c, k,
    He.glo_ok X G (c.fact 0 (f := .glo "fresh") rfl),
    He.glo_ok X G (c.fact 1 (f := .glo "pattern") rfl),
    He.glo_ok X G (c.fact 2 (f := .glo "count_classes") rfl),
    He.glo_ok X G (c.fact 3 (f := .glo "realise") rfl),
    He.glo_ok X G (c.fact 4 (f := .glo "_law_draw") rfl),
    He.glo_ok X G (c.fact 5 (f := .glo "_law_pick") rfl),
    He.glo_ok X G (c.fact 6 (f := .glo "_law_number") rfl),
    He.glo_ok X G (c.fact 7 (f := .glo "_law_integer") rfl),
    He.glo_ok X G (c.fact 8 (f := .glo "_law_kept") rfl),
    He.glo_ok X G (c.fact 9 (f := .glo "_law_values") rfl),
    He.glo_ok X G (c.fact 10 (f := .glo "_law_taken") rfl),
    He.glo_ok X G (c.fact 11 (f := .glo "_law_entries") rfl),
    He.glo_ok X G (c.fact 12 (f := .glo "_law_alike") rfl),
    He.glo_ok X G (c.fact 13 (f := .glo "_law_is_realised") rfl),
    He.glo_ok X G (c.fact 14 (f := .glo "law") rfl),
    He.free_ok X G (c.fact 15 (f := .free "len") rfl),
    He.free_ok X G (c.fact 16 (f := .free "range") rfl),
    He.free_ok X G (c.fact 17 (f := .free "int") rfl),
    He.free_ok X G (c.fact 18 (f := .free "tuple") rfl),
    He.free_ok X G (c.fact 19 (f := .free "list") rfl),
    He.free_ok X G (c.fact 20 (f := .free "isinstance") rfl),
    He.free_ok X G (c.fact 21 (f := .free "bool") rfl),
    He.free_ok X G (c.fact 22 (f := .free "max") rfl)⟩
theorem g_fresh (T : Tx K mg sa sx) : mg "fresh" = some (.ref (He.ga K "fresh")) := T.g0
theorem g_pattern (T : Tx K mg sa sx) : mg "pattern" = some (.ref (He.ga K "pattern")) := T.g1
theorem g_count_classes (T : Tx K mg sa sx) : mg "count_classes" = some (.ref (He.ga K "count_classes")) := T.g2
theorem g_realise (T : Tx K mg sa sx) : mg "realise" = some (.ref (He.ga K "realise")) := T.g3
theorem g__law_draw (T : Tx K mg sa sx) : mg "_law_draw" = some (.ref (He.ga K "_law_draw")) := T.g4
theorem g__law_pick (T : Tx K mg sa sx) : mg "_law_pick" = some (.ref (He.ga K "_law_pick")) := T.g5
theorem g__law_number (T : Tx K mg sa sx) : mg "_law_number" = some (.ref (He.ga K "_law_number")) := T.g6
theorem g__law_integer (T : Tx K mg sa sx) : mg "_law_integer" = some (.ref (He.ga K "_law_integer")) := T.g7
theorem g__law_kept (T : Tx K mg sa sx) : mg "_law_kept" = some (.ref (He.ga K "_law_kept")) := T.g8
theorem g__law_values (T : Tx K mg sa sx) : mg "_law_values" = some (.ref (He.ga K "_law_values")) := T.g9
theorem g__law_taken (T : Tx K mg sa sx) : mg "_law_taken" = some (.ref (He.ga K "_law_taken")) := T.g10
theorem g__law_entries (T : Tx K mg sa sx) : mg "_law_entries" = some (.ref (He.ga K "_law_entries")) := T.g11
theorem g__law_alike (T : Tx K mg sa sx) : mg "_law_alike" = some (.ref (He.ga K "_law_alike")) := T.g12
theorem g__law_is_realised (T : Tx K mg sa sx) : mg "_law_is_realised" = some (.ref (He.ga K "_law_is_realised")) := T.g13
theorem g_law (T : Tx K mg sa sx) : mg "law" = some (.ref (He.ga K "law")) := T.g14
theorem n_len (T : Tx K mg sa sx) : mg "len" = none := T.n0
theorem n_range (T : Tx K mg sa sx) : mg "range" = none := T.n1
theorem n_int (T : Tx K mg sa sx) : mg "int" = none := T.n2
theorem n_tuple (T : Tx K mg sa sx) : mg "tuple" = none := T.n3
theorem n_list (T : Tx K mg sa sx) : mg "list" = none := T.n4
theorem n_isinstance (T : Tx K mg sa sx) : mg "isinstance" = none := T.n5
theorem n_bool (T : Tx K mg sa sx) : mg "bool" = none := T.n6
theorem n_max (T : Tx K mg sa sx) : mg "max" = none := T.n7
theorem exs_at (T : Tx K mg sa sx) (i : Nat) {b : Bool} (h : (exs K)[i]? = some b := by rfl) : b = true := List.all_eq_true.mp T.k b (List.mem_of_getElem? h)
theorem f_fresh (T : Tx K mg sa sx) : ∃ fd, FunD K "fresh" "fresh" (defArgs s_fresh) (defBody s_fresh) (defScope s_fresh) [] [] (He.ga K "fresh") fd := T.c.def_ 0 (d := d_fresh) rfl
theorem f_pattern (T : Tx K mg sa sx) : ∃ fd, FunD K "pattern" "pattern" (defArgs s_pattern) (defBody s_pattern) (defScope s_pattern) [] [] (He.ga K "pattern") fd := T.c.def_ 1 (d := d_pattern) rfl
theorem f_count_classes (T : Tx K mg sa sx) : ∃ fd, FunD K "count_classes" "count_classes" (defArgs s_count_classes) (defBody s_count_classes) (defScope s_count_classes) [] [] (He.ga K "count_classes") fd := T.c.def_ 2 (d := d_count_classes) rfl
theorem f_realise (T : Tx K mg sa sx) : ∃ fd, FunD K "realise" "realise" (defArgs s_realise) (defBody s_realise) (defScope s_realise) [] [] (He.ga K "realise") fd := T.c.def_ 3 (d := d_realise) rfl
theorem f_l_draw (T : Tx K mg sa sx) : ∃ fd, FunD K "_law_draw" "_law_draw" (defArgs s_l_draw) (defBody s_l_draw) (defScope s_l_draw) [] [] (He.ga K "_law_draw") fd := T.c.def_ 4 (d := d_l_draw) rfl
theorem f_l_pick (T : Tx K mg sa sx) : ∃ fd, FunD K "_law_pick" "_law_pick" (defArgs s_l_pick) (defBody s_l_pick) (defScope s_l_pick) [] [] (He.ga K "_law_pick") fd := T.c.def_ 5 (d := d_l_pick) rfl
theorem f_l_number (T : Tx K mg sa sx) : ∃ fd, FunD K "_law_number" "_law_number" (defArgs s_l_number) (defBody s_l_number) (defScope s_l_number) [] [] (He.ga K "_law_number") fd := T.c.def_ 6 (d := d_l_number) rfl
theorem f_l_integer (T : Tx K mg sa sx) : ∃ fd, FunD K "_law_integer" "_law_integer" (defArgs s_l_integer) (defBody s_l_integer) (defScope s_l_integer) [] [] (He.ga K "_law_integer") fd := T.c.def_ 7 (d := d_l_integer) rfl
theorem f_l_kept (T : Tx K mg sa sx) : ∃ fd, FunD K "_law_kept" "_law_kept" (defArgs s_l_kept) (defBody s_l_kept) (defScope s_l_kept) [] [] (He.ga K "_law_kept") fd := T.c.def_ 8 (d := d_l_kept) rfl
theorem f_l_values (T : Tx K mg sa sx) : ∃ fd, FunD K "_law_values" "_law_values" (defArgs s_l_values) (defBody s_l_values) (defScope s_l_values) [] [] (He.ga K "_law_values") fd := T.c.def_ 9 (d := d_l_values) rfl
theorem f_l_taken (T : Tx K mg sa sx) : ∃ fd, FunD K "_law_taken" "_law_taken" (defArgs s_l_taken) (defBody s_l_taken) (defScope s_l_taken) [] [] (He.ga K "_law_taken") fd := T.c.def_ 10 (d := d_l_taken) rfl
theorem f_l_entries (T : Tx K mg sa sx) : ∃ fd, FunD K "_law_entries" "_law_entries" (defArgs s_l_entries) (defBody s_l_entries) (defScope s_l_entries) [] [] (He.ga K "_law_entries") fd := T.c.def_ 11 (d := d_l_entries) rfl
theorem f_l_alike (T : Tx K mg sa sx) : ∃ fd, FunD K "_law_alike" "_law_alike" (defArgs s_l_alike) (defBody s_l_alike) (defScope s_l_alike) [] [] (He.ga K "_law_alike") fd := T.c.def_ 12 (d := d_l_alike) rfl
theorem f_l_is_realised (T : Tx K mg sa sx) : ∃ fd, FunD K "_law_is_realised" "_law_is_realised" (defArgs s_l_is_realised) (defBody s_l_is_realised) (defScope s_l_is_realised) [] [] (He.ga K "_law_is_realised") fd := T.c.def_ 13 (d := d_l_is_realised) rfl
theorem f_law (T : Tx K mg sa sx) : ∃ fd, FunD K "law" "law" (defArgs s_law) (defBody s_law) (defScope s_law) [] [] (He.ga K "law") fd := T.c.def_ 14 (d := d_law) rfl
end
end K26
namespace K26
open PySem PySem.Spec PyProof.Rows L2 Cm
abbrev R : PySem.W.OpenRow := PySem.W.OpenLaw.row PySem.Challenge.rw_quietedition_k26_patterns_and_renaming
def part (n : Nat) (g : Addr → Option Obj) : PySem.W.Frag := He.frG g (He.asD g n)
def seen (n : Nat) (g : Addr → Option Obj) : He.AlD × Bool := (He.obsD fa fn (part n g), (exs (part n g)).all id)
def hkz (n : Nat) : PySem.W.Hook where
  α := He.AlD × Bool
  obs s := seen n s.heap.get?
  val _ := (He.valD fn, true)
  says _ h := ∃ K : PySem.W.Frag, K.In h ∧ He.SaysD fa fn K ∧ (exs K).all id = true
  of _ _ e := ⟨_, He.frG_in, congrArg Prod.fst e, congrArg Prod.snd e⟩
  keeps _ _ _ := fun ⟨K, i, c⟩ k => ⟨K, PySem.W.Frag.In.keeps i k, c⟩
def ob (s : PySem.W.SharedT) : He.AlD × Bool := seen 5 (HandSHeadRun.getT s)
theorem ob_eq (s : PySem.W.SharedT) : ob s = (hkz 5).obs s.abs := by
  have e : HandSHeadRun.getT s = s.abs.heap.get? := funext (HandSHeadRun.getT_eq s)
  show seen 5 _ = seen 5 _
  rw [e]
def loose0 : List Str := ["fresh", "pattern", "count_classes", "realise", "_law_draw", "_law_pick", "_law_number", "_law_integer", "_law_kept", "_law_values", "_law_taken", "_law_entries", "_law_alike", "_law_is_realised"]
def loose : List Str := loose0
theorem run (w : World) : HandSHeadRun.RunEq R (PySem.W.view R.prog [16]) (hkz 5) ob 3000 loose w := by
  intro os
  kernel_rfl
end K26
namespace K26
open PySem PySem.Spec PyProof.Rows L2 Cm
/-! ### drawing -/
def spDraw (K : PySem.W.Frag) (sa : Addr) (sx : List Int) : Sp := fun vs H Q _ => ∃ p m, vs = [.ref p, .int m] ∧ 0 < m ∧ IntOk m ∧ PoolAt K sa sx H p ∧ ∀ k H', 0 ≤ k → k < m → Kp p H H' → PoolAt K sa sx H' p → Q (.int k) H'
def spPick (K : PySem.W.Frag) (sa : Addr) (sx : List Int) : Sp := fun vs H Q _ => ∃ p a ns, vs = [.ref p, .ref a] ∧ H a = some (.lst (ns.map V.int)) ∧ ns ≠ [] ∧ ns.length ≤ 100 ∧ PoolAt K sa sx H p ∧ ∀ v H', v ∈ ns → Kp p H H' → PoolAt K sa sx H' p → Q (.int v) H'
def spNum (K : PySem.W.Frag) (sa : Addr) (sx : List Int) : Sp := fun vs H Q _ => ∃ p, vs = [.ref p] ∧ PoolAt K sa sx H p ∧ ∀ n H', n.natAbs ≤ 1000000000 → Kp p H H' → PoolAt K sa sx H' p → Q (.int n) H'
section
variable {P : Program} {w : World} {K : PySem.W.Frag} {mg : Str → Option Value} {base : Heap} {sa : Addr} {sx : List Int}
theorem ok_l_draw (T : Tx K mg sa sx) : Cal P w K mg base 1 "_law_draw" (spDraw K sa sx) := by
  obtain ⟨fd, F⟩ := f_l_draw T
  refine ⟨_, fd, ["_law_pool", "_law_many"], fnok F sc_l_draw (fun vs H Q E h => ?_) (fun cdv A outer s H vs Q E hr h => ?_), F.bindsN fun _ _ _ _ _ _ us hl => match us, hl with | [_, _], _ => rfl, g__law_draw T, F.kp⟩
  · obtain ⟨p, m, rfl, _⟩ := h; rfl
  · obtain ⟨p, m, rfl, m0, mo, ⟨i, b, s, hp, na, hS, i0, b0, s0, s1⟩, k⟩ := h
    refine ⟨_, (pss_cons (ps_if (pt_cmpR op_lt (pe_ix ix_list (pv 0) pe_int (fun _ _ => rfl)) pe_int (nomark _)) (pss_cons (ps_set (i := 2) sc_l_draw.nd rfl (by first | exact Or.inl rfl | exact Or.inr rfl) pe_int)
      (pss_cons (ps_if (pt_cmpR op_lt (pe_ix ix_list (pv 0) pe_int (fun _ _ => rfl)) (pe_callB (id := "len") call_len_seq rfl (n_len T) (by decide +kernel) (pa_cons (pe_ix ix_list (pv 0) pe_int (fun _ _ => rfl)) pa_nil)) (nomark _)) (pss_one (ps_set (i := 2) sc_l_draw.nd rfl (by first | exact Or.inl rfl | exact Or.inr rfl) (pe_ix ix_list (pe_ix ix_list (pv 0) pe_int (fun _ _ => rfl)) (pe_ix ix_list (pv 0) pe_int (fun _ _ => rfl)) (fun _ _ => rfl)))) pss_nil)
      (pss_cons (ps_asg (pe_op op_add (pe_ix ix_list (pv 0) pe_int (fun _ _ => rfl)) pe_int) (pg_sub (pv 0) pe_int set_list))
      (pss_cons (ps_if (pt_cmpR op_lt (pv 2) (pe_op op_pow pe_int pe_int) (nomark _)) (pss_cons (ps_asg (pe_op op_mod (pe_callTy (T := "int") call_int1 rfl (n_int T) (by decide +kernel) (pa_cons (pe_op op_add (pe_op op_add (pe_op op_add (pe_op op_mul (pe_ix ix_list (pv 0) pe_int (fun _ _ => rfl)) pe_int) (pe_op op_mul (pv 2) pe_int)) (pe_op op_mul (pe_ix ix_list (pv 0) pe_int (fun _ _ => rfl)) pe_int)) pe_int) pa_nil)) pe_int) (pg_sub (pv 0) pe_int set_list))
        (pss_one (ps_ret (pe_op op_mod (pe_callTy (T := "int") call_int1 rfl (n_int T) (by decide +kernel) (pa_cons (pe_op op_fdivW (pe_ix ix_list (pv 0) pe_int (fun _ _ => rfl)) pe_int) pa_nil)) (pv 1))))) pss_nil)
      (pss_one (ps_asg (pe_callTy (T := "int") call_int1 rfl (n_int T) (by decide +kernel) (pa_cons (pv 2) pa_nil)) (pg_sub (pv 0) pe_int set_list))))))) pss_nil)
    (pss_cons (ps_set (i := 3) sc_l_draw.nd rfl (by first | exact Or.inl rfl | exact Or.inr rfl) (pe_op op_mod (pe_callTy (T := "int") call_int1 rfl (n_int T) (by decide +kernel) (pa_cons (pe_ix ix_list (pv 0) pe_int (fun _ _ => rfl)) pa_nil)) (pv 1)))
    (pss_cons (ps_asg (pe_op op_fdivW (pe_callTy (T := "int") call_int1 rfl (n_int T) (by decide +kernel) (pa_cons (pe_ix ix_list (pv 0) pe_int (fun _ _ => rfl)) pa_nil)) (pv 1)) (pg_sub (pv 0) pe_int set_list))
    (pss_one (ps_ret (pv 3)))))), ?_⟩
    have ix : ∀ {H' : Hp} {xs : List V}, H' p = some (.lst xs) → SqL K H' p xs := fun h => SqL.of h
    have sl : ∀ {H' : Hp}, Kp p H H' → SqL K H' sa (sx.map V.int) := fun k => na.elim (fun n => k.sl n hS) (fun z => z _)
    refine ⟨_, rfl, p, _, 2, _, rfl, rfl, ix hp, rfl, _, _, rfl, rfl, _, rfl, dC (fun hb => ?_) (fun hb => ?_)⟩
    · -- cell = 0; the script's next number
      refine ⟨_, rfl, p, _, 1, _, rfl, rfl, ix hp, rfl, _, rfl, p, _, 0, _, rfl, rfl, ix hp, rfl, sa, _, rfl, .inl hS, _, _, rfl, rfl, _, rfl, dC (fun hi => ?_) (fun hi => ?_)⟩
      · have hi2 : i.toNat < sx.length := by rw [List.length_map] at hi; omega
        refine ⟨_, rfl, p, _, 0, _, rfl, rfl, ix hp, rfl, _, rfl, p, _, 1, _, rfl, rfl, ix hp, rfl, sa, _, i, V.int sx[i.toNat], rfl, rfl, hS, at_of (j := i.toNat) (by omega) (by simp [hi2]), ?_⟩
        refine ⟨_, rfl, p, _, 1, _, rfl, rfl, ix hp, rfl, _, _, rfl, rfl, _, rfl, p, _, 1, 1, rfl, rfl, hp, rfl, ?_⟩
        refine ⟨_, rfl, _, _, rfl, rfl, ⟨by decide, by decide, by decide⟩, _, _, rfl, rfl, _, rfl, dC (fun hc => ?_) (fun hc => ?_)⟩
        · refine ⟨_, rfl, p, _, 3, _, rfl, rfl, ix upd_same, rfl, _, _, rfl, rfl, .inr ⟨by decide, by decide⟩, _, rfl, _, _, rfl, rfl, .inr ⟨by decide, by decide⟩, _, _, rfl, rfl,
            _, rfl, p, _, 1, _, rfl, rfl, ix upd_same, rfl, _, _, rfl, rfl, .inr ⟨by decide, by decide⟩, _, _, rfl, rfl, _, _, rfl, rfl, .inl ⟨_, rfl, _, _, rfl, rfl, (by show (0 : Int) < 2147483647; decide), _, rfl, p, _, 3, 3, rfl, rfl, upd_same, rfl, ?_⟩⟩
          refine ⟨_, rfl, p, _, 3, _, rfl, rfl, ix upd_same, rfl, _, _, rfl, rfl, ⟨by decide, by decide +kernel⟩, .inl ⟨_, rfl, _, rfl, _, _, rfl, rfl, m0, ?_⟩⟩
          refine k _ _ (Int.emod_nonneg _ (by omega)) (Int.emod_lt_of_pos _ m0) (Kp.refl.at.at) ⟨_, b, _, upd_same, na, sl Kp.refl.at.at, (by omega : (0 : Int) ≤ i + 1), b0, Int.emod_nonneg _ (by decide), Int.emod_lt_of_pos _ (by decide)⟩
        · refine ⟨_, rfl, .inl ⟨_, rfl, _, rfl, p, _, 2, 2, rfl, rfl, upd_same, rfl, ?_⟩⟩
          have hc0 : (0 : Int) ≤ sx[i.toNat] := by
            have : ((10 : Int) ^ (18 : Int).toNat) = 1000000000000000000 := by decide
            omega
          refine ⟨_, rfl, p, _, 2, _, rfl, rfl, ix upd_same, rfl, .inl ⟨_, rfl, _, rfl, _, _, rfl, rfl, m0, ?_⟩⟩
          refine ⟨_, rfl, p, _, 2, _, rfl, rfl, ix upd_same, rfl, .inl ⟨_, rfl, _, rfl, _, _, rfl, rfl, wd m0 mo, _, rfl, p, _, 2, 2, rfl, rfl, upd_same, rfl, ?_⟩⟩
          refine ⟨_, rfl, ?_⟩
          exact k _ _ (Int.emod_nonneg _ (by omega)) (Int.emod_lt_of_pos _ m0) (Kp.refl.at.at.at) ⟨_, _, s, upd_same, na, sl Kp.refl.at.at.at, (by omega : (0 : Int) ≤ i + 1), Int.ediv_nonneg hc0 (by omega), s0, s1⟩
      · refine ⟨_, rfl, p, _, 1, _, rfl, rfl, ix hp, rfl, _, _, rfl, rfl, _, rfl, p, _, 1, 1, rfl, rfl, hp, rfl, ?_⟩
        refine ⟨_, rfl, _, _, rfl, rfl, ⟨by decide, by decide, by decide⟩, _, _, rfl, rfl, _, rfl, dC (fun hc => ?_) (fun hc => ?_)⟩
        · refine ⟨_, rfl, p, _, 3, _, rfl, rfl, ix upd_same, rfl, _, _, rfl, rfl, .inr ⟨by decide, by decide⟩, _, rfl, _, _, rfl, rfl, .inr ⟨by decide, by decide⟩, _, _, rfl, rfl,
            _, rfl, p, _, 1, _, rfl, rfl, ix upd_same, rfl, _, _, rfl, rfl, .inr ⟨by decide, by decide⟩, _, _, rfl, rfl, _, _, rfl, rfl, .inl ⟨_, rfl, _, _, rfl, rfl, (by show (0 : Int) < 2147483647; decide), _, rfl, p, _, 3, 3, rfl, rfl, upd_same, rfl, ?_⟩⟩
          refine ⟨_, rfl, p, _, 3, _, rfl, rfl, ix upd_same, rfl, _, _, rfl, rfl, ⟨by decide, by decide +kernel⟩, .inl ⟨_, rfl, _, rfl, _, _, rfl, rfl, m0, ?_⟩⟩
          exact k _ _ (Int.emod_nonneg _ (by omega)) (Int.emod_lt_of_pos _ m0) (Kp.refl.at.at) ⟨_, b, _, upd_same, na, sl Kp.refl.at.at, (by omega : (0 : Int) ≤ i + 1), b0, Int.emod_nonneg _ (by decide), Int.emod_lt_of_pos _ (by decide)⟩
        · exact absurd (by decide) hc
    · refine ⟨_, rfl, p, _, 2, _, rfl, rfl, ix hp, rfl, .inl ⟨_, rfl, _, rfl, _, _, rfl, rfl, m0, ?_⟩⟩
      refine ⟨_, rfl, p, _, 2, _, rfl, rfl, ix hp, rfl, .inl ⟨_, rfl, _, rfl, _, _, rfl, rfl, wd m0 mo, _, rfl, p, _, 2, 2, rfl, rfl, hp, rfl, ?_⟩⟩
      refine ⟨_, rfl, ?_⟩
      exact k _ _ (Int.emod_nonneg _ (by omega)) (Int.emod_lt_of_pos _ m0) Kp.refl.at ⟨_, _, s, upd_same, na, sl Kp.refl.at, i0, Int.ediv_nonneg b0 (by omega), s0, s1⟩
theorem ok_l_pick (T : Tx K mg sa sx) : Cal P w K mg base 2 "_law_pick" (spPick K sa sx) := by
  obtain ⟨fd, F⟩ := f_l_pick T
  refine ⟨_, fd, ["_law_pool", "_law_things"], fnok F sc_l_pick (fun vs H Q E h => ?_) (fun cdv A outer s H vs Q E hr h => ?_), F.bindsN fun _ _ _ _ _ _ us hl => match us, hl with | [_, _], _ => rfl, g__law_pick T, F.kp⟩
  · obtain ⟨p, a, ns, rfl, _⟩ := h; rfl
  · obtain ⟨p, a, ns, rfl, ha, n0, n1, hP, k⟩ := h
    refine ⟨_, (pss_one (ps_ret (pe_ix ix_list (pv 1) (pe_cal (ok_l_draw T) hr (by decide) (pa_cons (pv 0) (pa_cons (pe_callB (id := "len") call_len_seq rfl (n_len T) (by decide +kernel) (pa_cons (pv 1) pa_nil)) pa_nil))) (fun _ _ => rfl)))), ?_⟩
    have np := pool_int hP ha
    have l0 : 0 < ns.length := List.length_pos_iff.mpr n0
    refine ⟨_, rfl, _, rfl, _, rfl, a, _, rfl, .inl (SqL.of ha), p, ((ns.map V.int).length : Int), rfl, by rw [List.length_map]; omega, io (by rw [List.length_map]; omega), hP, fun r H1 r0 r1 k1 b1 => ?_⟩
    rw [List.length_map] at r1
    have hr2 : r.toNat < ns.length := by omega
    exact ⟨a, _, r, V.int ns[r.toNat], rfl, rfl, SqL.of (k1 _ _ np ha), at_int' r0 hr2, k _ _ (List.getElem_mem hr2) k1 b1⟩
theorem ok_l_number (T : Tx K mg sa sx) : Cal P w K mg base 2 "_law_number" (spNum K sa sx) := by
  obtain ⟨fd, F⟩ := f_l_number T
  refine ⟨_, fd, ["_law_pool"], fnok F sc_l_number (fun vs H Q E h => ?_) (fun cdv A outer s H vs Q E hr h => ?_), F.bindsN fun _ _ _ _ _ _ us hl => match us, hl with | [_], _ => rfl, g__law_number T, F.kp⟩
  · obtain ⟨p, rfl, _⟩ := h; rfl
  · obtain ⟨p, rfl, hP, k⟩ := h
    refine ⟨_, (pss_cons (ps_set (i := 1) sc_l_number.nd rfl (by first | exact Or.inl rfl | exact Or.inr rfl) (pe_cal (ok_l_draw T) hr (by decide) (pa_cons (pv 0) (pa_cons pe_int pa_nil))))
    (pss_cons (ps_if (pt_cmpR op_eq (pv 1) pe_int (nomark _)) (pss_one (ps_ret (pe_op op_sub (pe_cal (ok_l_draw T) hr (by decide) (pa_cons (pv 0) (pa_cons pe_int pa_nil))) pe_int))) pss_nil)
    (pss_cons (ps_if (pt_cmpR op_eq (pv 1) pe_int (nomark _)) (pss_one (ps_ret (pe_op op_sub pe_int (pe_cal (ok_l_draw T) hr (by decide) (pa_cons (pv 0) (pa_cons pe_int pa_nil)))))) pss_nil)
    (pss_cons (ps_if (pt_cmpR op_eq (pv 1) pe_int (nomark _)) (pss_one (ps_ret (pe_op op_sub (pe_cal (ok_l_draw T) hr (by decide) (pa_cons (pv 0) (pa_cons pe_int pa_nil))) pe_int))) pss_nil)
    (pss_one (ps_ret (pe_cal (ok_l_draw T) hr (by decide) (pa_cons (pv 0) (pa_cons pe_int pa_nil))))))))), ?_⟩
    refine ⟨_, rfl, p, 6, rfl, by decide, io (by decide), hP, fun j H1 j0 j6 k1 p1 => ?_⟩
    refine ⟨_, rfl, rfl, _, rfl, dC (fun _ => ?_) (fun _ => ?_)⟩
    · exact ⟨_, rfl, p, 1000, rfl, by decide, io (by decide), p1, fun i H2 i0 i1 k2 p2 => ⟨_, _, rfl, rfl, k _ _ (by omega) (k1.trans k2) p2⟩⟩
    refine ⟨_, rfl, rfl, _, rfl, dC (fun _ => ?_) (fun _ => ?_)⟩
    · exact ⟨_, rfl, p, 1000000000, rfl, by decide, io (by decide), p1, fun i H2 i0 i1 k2 p2 => ⟨_, _, rfl, rfl, k _ _ (by omega) (k1.trans k2) p2⟩⟩
    refine ⟨_, rfl, rfl, _, rfl, dC (fun _ => ?_) (fun _ => ?_)⟩
    · exact ⟨_, rfl, p, 1999999999, rfl, by decide, io (by decide), p1, fun i H2 i0 i1 k2 p2 => ⟨_, _, rfl, rfl, k _ _ (by omega) (k1.trans k2) p2⟩⟩
    · exact ⟨_, rfl, p, 3, rfl, by decide, io (by decide), p1, fun i H2 i0 i1 k2 p2 => k _ _ (by omega) (k1.trans k2) p2⟩
end
end K26
namespace K26
open PySem PySem.Spec PyProof.Rows L2 Cm
def spKept (K : PySem.W.Frag) (sa : Addr) (sx : List Int) : Sp := fun vs H Q _ => ∃ p, vs = [.ref p] ∧ PoolAt K sa sx H p ∧ ∀ (a : Addr) (ns : List Int) (H' : Hp), H a = none → H' a = some (.lst (ns.map V.int)) → ns.length ≤ 4 → ns.Nodup → Kp p H H' → PoolAt K sa sx H' p → Q (.ref a) H'
def spValues (K : PySem.W.Frag) (sa : Addr) (sx : List Int) : Sp := fun vs H Q _ => ∃ (p : Addr) (m : Int) (b : Addr) (ks : List Int), vs = [.ref p, .int m, .ref b] ∧ 0 ≤ m ∧ m ≤ 4 ∧ H b = some (.lst (ks.map V.int)) ∧ ks.length ≤ 4 ∧ PoolAt K sa sx H p ∧
  ∀ (a : Addr) (ns : List Int) (H' : Hp), H a = none → H' a = some (.lst (ns.map V.int)) → ns.length = m.toNat → Kp p H H' → PoolAt K sa sx H' p → Q (.ref a) H'
section
variable {P : Program} {w : World} {K : PySem.W.Frag} {mg : Str → Option Value} {base : Heap} {sa : Addr} {sx : List Int}
theorem ok_l_kept (T : Tx K mg sa sx) : Cal P w K mg base 3 "_law_kept" (spKept K sa sx) := by
  obtain ⟨fd, F⟩ := f_l_kept T
  refine ⟨_, fd, ["_law_pool"], fnok F sc_l_kept (fun vs H Q E h => ?_) (fun cdv A outer s H vs Q E hr h => ?_), F.bindsN fun _ _ _ _ _ _ us hl => match us, hl with | [_], _ => rfl, g__law_kept T, F.kp⟩
  · obtain ⟨p, rfl, _⟩ := h; rfl
  · obtain ⟨p, rfl, hP, k⟩ := h
    refine ⟨_, (pss_cons (ps_set (i := 1) sc_l_kept.nd rfl (by first | exact Or.inl rfl | exact Or.inr rfl) (pe_lst pa_nil))
    (pss_cons (ps_for PassesOwn.never rfl (pi_range1 rfl (n_range T) (pa_cons (pe_cal (ok_l_draw T) hr (by decide) (pa_cons (pv 0) (pa_cons pe_int pa_nil))) pa_nil)) (pg_name (i := 2) sc_l_kept.nd rfl (by first | exact Or.inl rfl | exact Or.inr rfl))
      (pss_cons (ps_set (i := 3) sc_l_kept.nd rfl (by first | exact Or.inl rfl | exact Or.inr rfl) (pe_cal (ok_l_number T) hr (by decide) (pa_cons (pv 0) pa_nil)))
      (pss_one (ps_if (pt_cmpR op_notIn_seq (pv 3) (pv 1) (by rfl)) (pss_one (ps_expr (pe_bm PySem.F.plainAttrs_list PySem.F.slot_list_append PySem.F.type_list_append mt_append (pv 1) (pa_cons (pv 3) pa_nil)))) pss_nil))))
    (pss_one (ps_ret (pv 1))))), ?_⟩
    refine ⟨sz1 (by simp), fun a ha => ?_⟩
    have nap := pool_ne hP ha
    have fr := pool_fresh hP ha
    refine ⟨_, rfl, p, 5, rfl, by decide, io (by decide), pool_new hP ha, fun m H2 m0 m1 k2 p2 => ⟨m, rfl, by omega, by omega, ?_⟩⟩
    refine for_range (lo := 0) (n := m.toNat) (fun t σ H' => ∃ (ns : List Int) (v w : Option V), σ = [some (.ref p), some (.ref a), v, w] ∧ H' a = some (.lst (ns.map V.int)) ∧ ns.length ≤ t ∧ ns.Nodup ∧ Kp p H H' ∧ PoolAt K sa sx H' p)
      ⟨[], none, none, rfl, k2 _ _ nap upd_same, Nat.le_refl _, List.nodup_nil, (Kp.refl.new ha).trans k2, p2⟩ ?_ ?_
    · rintro t σ H' ht ⟨ns, v, w, rfl, hA, lt, nd, kk, pp⟩
      refine ⟨_, rfl, p, rfl, pp, fun n H3 hn k3 p3 => ?_⟩
      have hA3 := k3 _ _ nap hA
      refine ⟨_, rfl, _, rfl, a, _, rfl, .inl (SqL.of hA3), rfl, flat_ints _, _, rfl, ?_⟩
      rw [inV_ints]
      refine uC (fun c => ?_) (fun c => ?_)
      · refine ⟨_, rfl, .inl ⟨rfl, _, SqL.of hA3⟩, _, rfl, a, _, _, rfl, rfl, hA3, sz2 (by rw [List.length_map]; omega), ?_⟩
        exact ⟨ns ++ [n], _, _, rfl, by rw [List.map_append]; exact upd_same, by rw [List.length_append]; exact Nat.succ_le_succ lt, nodup_app nd c, kmut (kk.trans k3) ha, pool_upd p3 nap fr⟩
      · exact ⟨ns, _, _, rfl, hA3, Nat.le_succ_of_le lt, nd, kk.trans k3, p3⟩
    · rintro σ H' ⟨ns, v, w, rfl, hA, lt, nd, kk, pp⟩
      exact ⟨_, rfl, k a ns _ ha hA (by omega) nd kk pp⟩
theorem ok_l_values (T : Tx K mg sa sx) : Cal P w K mg base 3 "_law_values" (spValues K sa sx) := by
  obtain ⟨fd, F⟩ := f_l_values T
  refine ⟨_, fd, ["_law_pool", "_law_size", "_law_kept_here"], fnok F sc_l_values (fun vs H Q E h => ?_) (fun cdv A outer s H vs Q E hr h => ?_), F.bindsN fun _ _ _ _ _ _ us hl => match us, hl with | [_, _, _], _ => rfl, g__law_values T, F.kp⟩
  · obtain ⟨p, m, b, ks, rfl, _⟩ := h; rfl
  · obtain ⟨p, m, b, ks, rfl, m0, m1, hb, lk, hP, k⟩ := h
    refine ⟨_, (pss_cons (ps_set (i := 3) sc_l_values.nd rfl (by first | exact Or.inl rfl | exact Or.inr rfl) (pe_lst pa_nil))
    (pss_cons (ps_for PassesOwn.never rfl (pi_range1 rfl (n_range T) (pa_cons (pv 1) pa_nil)) (pg_name (i := 4) sc_l_values.nd rfl (by first | exact Or.inl rfl | exact Or.inr rfl))
      (pss_cons (ps_set (i := 5) sc_l_values.nd rfl (by first | exact Or.inl rfl | exact Or.inr rfl) (pe_cal (ok_l_draw T) hr (by decide) (pa_cons (pv 0) (pa_cons pe_int pa_nil))))
      (pss_one (ps_if (PW.pt (pw_and (pt_cmpR op_eq (pv 5) pe_int (nomark _)) (pw_and1 (pt_truth (pv 2) (by intro _; rfl))))) (pss_one (ps_expr (pe_bm PySem.F.plainAttrs_list PySem.F.slot_list_append PySem.F.type_list_append mt_append (pv 3) (pa_cons (pe_cal (ok_l_pick T) hr (by decide) (pa_cons (pv 0) (pa_cons (pv 2) pa_nil))) pa_nil)))) (pss_one (ps_if (PW.pt (pw_and (pt_cmpR op_eq (pv 5) pe_int (nomark _)) (pw_and1 (pt_truth (pv 3) (by intro _; rfl))))) (pss_one (ps_expr (pe_bm PySem.F.plainAttrs_list PySem.F.slot_list_append PySem.F.type_list_append mt_append (pv 3) (pa_cons (pe_cal (ok_l_pick T) hr (by decide) (pa_cons (pv 0) (pa_cons (pv 3) pa_nil))) pa_nil)))) (pss_one (ps_expr (pe_bm PySem.F.plainAttrs_list PySem.F.slot_list_append PySem.F.type_list_append mt_append (pv 3) (pa_cons (pe_cal (ok_l_number T) hr (by decide) (pa_cons (pv 0) pa_nil)) pa_nil))))))))))
    (pss_one (ps_ret (pv 3))))), ?_⟩
    refine ⟨sz1 (by simp), fun a ha => ?_⟩
    have nap := pool_ne hP ha
    have fr := pool_fresh hP ha
    have nbp := pool_int hP hb
    have nba : b ≠ a := ne_of_none hb ha
    refine ⟨_, rfl, m, rfl, by omega, by omega, ?_⟩
    refine for_range (lo := 0) (n := m.toNat) (fun t σ H' => ∃ (ns : List Int) (v w : Option V), σ = [some (.ref p), some (.int m), some (.ref b), some (.ref a), v, w] ∧ H' a = some (.lst (ns.map V.int)) ∧ ns.length = t ∧ Kp p H H' ∧ PoolAt K sa sx H' p)
      ⟨[], none, none, rfl, upd_same, rfl, Kp.refl.new ha, pool_new hP ha⟩ ?_ ?_
    · rintro t σ H' ht ⟨ns, v, w, rfl, hA, lt, kk, pp⟩
      refine ⟨_, rfl, p, 4, rfl, by decide, io (by decide), pp, fun n H3 n0 n1 k3 p3 => ?_⟩
      have hA3 := k3 _ _ nap hA
      have fin : ∀ (x : Int) (H4 : Hp), Kp p H3 H4 → PoolAt K sa sx H4 p → ∃ l zs y, V.ref a = .ref l ∧ [V.int x] = [y] ∧ H4 l = some (.lst zs) ∧ zs.length < sizeLine ∧
          ∃ (ns : List Int) (v w : Option V), [some (V.ref p), some (.int m), some (.ref b), some (.ref a), some (.int (0 + (t : Int))), some (.int n)] = [some (.ref p), some (.int m), some (.ref b), some (.ref a), v, w] ∧ (upd H4 l (.lst (zs ++ [y]))) a = some (.lst (ns.map V.int)) ∧ ns.length = t + 1 ∧ Kp p H (upd H4 l (.lst (zs ++ [y]))) ∧ PoolAt K sa sx (upd H4 l (.lst (zs ++ [y]))) p := by
        intro x H4 k4 p4
        have hA4 := k4 _ _ nap hA3
        refine ⟨a, _, _, rfl, rfl, hA4, sz2 (by rw [List.length_map]; omega), ns ++ [x], _, _, rfl, by rw [List.map_append]; exact upd_same, by rw [List.length_append, lt]; rfl, kmut ((kk.trans k3).trans k4) ha, pool_upd p4 nap fr⟩
      have hb3 : H3 b = some (.lst (ks.map V.int)) := (kk.trans k3) _ _ nbp hb
      have tyA : tyV K "list" (.ref a) H3 := .inl ⟨rfl, _, SqL.of hA3⟩
      refine ⟨_, rfl, rfl, _, rfl, dC (fun c0 => ⟨_, rfl, _, tru_ints hb3, lC (fun ne => ?_) (fun em => ?_)⟩) (fun c0 => ?_)⟩
      · refine ⟨_, rfl, tyA, _, rfl, _, rfl, p, b, ks, rfl, hb3, ne, by omega, p3, fun x H4 _ k4 p4 => ?_⟩
        exact fin x H4 k4 p4
      all_goals
        refine ⟨_, rfl, rfl, _, rfl, dC (fun c1 => ⟨_, rfl, _, tru_ints hA3, lC (fun ne => ?_) (fun em => ?_)⟩) (fun c1 => ?_)⟩
        · exact ⟨_, rfl, tyA, _, rfl, _, rfl, p, a, ns, rfl, hA3, ne, by omega, p3, fun x H4 _ k4 p4 => fin x H4 k4 p4⟩
        all_goals exact ⟨_, rfl, tyA, _, rfl, p, rfl, p3, fun x H4 _ k4 p4 => fin x H4 k4 p4⟩
    · rintro σ H' ⟨ns, v, w, rfl, hA, lt, kk, pp⟩
      exact ⟨_, rfl, k a ns _ ha hA lt kk pp⟩
end
end K26
namespace K26
open PySem PySem.Spec PyProof.Rows Cm
open L2 hiding Same
def spFresh (K : PySem.W.Frag) : Sp := fun vs H Q _ => ∃ (c : Nat) (t : Addr) (ts : List Int), vs = [.int (c : Int), .ref t] ∧ c ≤ 100 ∧ H t = some (.lst (ts.map V.int)) ∧ ts.length ≤ 100 ∧
  ∀ (r : Addr) (H' : Hp), H r = none → Same H H' → H' r = some (.lst ((frs c ts).map V.int)) → Q (.ref r) H'
def spPatL (K : PySem.W.Frag) : Sp := fun vs H Q _ => ∃ (a b : Addr) (xs ks : List Int), vs = [.ref a, .ref b] ∧ H a = some (.lst (xs.map V.int)) ∧ xs.length ≤ 100 ∧ H b = some (.lst (ks.map V.int)) ∧
  ∀ (t : Addr) (H' : Hp), H t = none → Same H H' → PatAt H' t (pat ks [] xs) → Q (.ref t) H'
def spPatT (K : PySem.W.Frag) : Sp := fun vs H Q _ => ∃ (a b : Addr) (xs ks : List Int), vs = [.ref a, .ref b] ∧ H a = some (.tup (xs.map V.int)) ∧ xs.length ≤ 100 ∧ H b = some (.lst (ks.map V.int)) ∧
  ∀ (t : Addr) (H' : Hp), H t = none → Same H H' → PatAt H' t (pat ks [] xs) → Q (.ref t) H'
section
variable {P : Program} {w : World} {K : PySem.W.Frag} {mg : Str → Option Value} {base : Heap} {sa : Addr} {sx : List Int}
theorem ok_fresh (T : Tx K mg sa sx) : Cal P w K mg base 1 "fresh" (spFresh K) := by
  obtain ⟨fd, F⟩ := f_fresh T
  refine ⟨_, fd, ["count", "taken"], fnok F sc_fresh (fun vs H Q E h => ?_) (fun cdv A outer s H vs Q E hr h => ?_), F.bindsN fun _ _ _ _ _ _ us hl => match us, hl with | [_, _], _ => rfl, g_fresh T, F.kp⟩
  · obtain ⟨c, t, ts, rfl, _⟩ := h; rfl
  · obtain ⟨c, t, ts, rfl, hc, ht, lt, k⟩ := h
    refine ⟨_, (pss_one (ps_ret (pe_slice sl_list (pe_lc (own := [("n", 2)]) (g := gName 2) rfl sc_fresh.nd (pi_range1 rfl (n_range T) (pa_cons (pe_op op_add (pv 0) (pe_callB (id := "len") call_len_seq rfl (n_len T) (by decide +kernel) (pa_cons (pv 1) pa_nil))) pa_nil)) (blkOk_by (own := [("n", 2)]) (N := ["count", "taken", "n"]) (sc := defScope s_fresh) (by decide +kernel)) (fun _ _ _ _ _ => pg_name (i := 2) sc_fresh.nd rfl (Or.inl rfl)) (fun _ _ _ _ _ => (pts_one (pt_cmpR (show OpR _ _ (rIn K true) from op_notIn_seq) (pv 2) (pv 1) (by rfl)))) (fun _ _ _ _ _ => (pv 2))) po_none (po_some (pv 0))))), ?_⟩
    refine ⟨_, rfl, _, rfl, t, _, rfl, .inl (SqL.of ht), _, _, rfl, rfl, _, rfl, by rw [List.length_map]; omega, by rw [List.length_map]; omega, fun D hD => ?_⟩
    rw [List.length_map]
    refine lc_range (lo := 0) (n := ((c : Int) + (ts.length : Int)).toNat) (fun i H' => H' = upd H D (.lst ((fre ts i).map V.int))) rfl ?_ ?_
    · rintro i H' hi rfl
      refine ⟨rfl, _, rfl, _, rfl, t, _, rfl, .inl (SqL.of ((upd_ne (ne_of_none ht hD)).trans ht)), rfl, flat_ints _, _, rfl, ?_⟩
      rw [inV_ints, Int.zero_add]
      refine uC (fun c => ?_) (fun c => ?_)
      · refine ⟨_, rfl, _, upd_same, sz2 ?_, ?_⟩
        · have : (fre ts i).length ≤ i := by unfold fre; exact Nat.le_trans (List.length_filter_le _ _) (by simp)
          rw [List.length_map]; omega
        · rw [upd_upd, fre_succ, if_pos c, List.map_append]; rfl
      · show upd H D _ = upd H D _
        rw [fre_succ, if_neg (by simpa using c), List.append_nil]
    · rintro H' rfl
      refine ⟨_, rfl, _, rfl, D, _, rfl, SqL.of upd_same, fun p hp => ?_⟩
      have e : cutV ((fre ts ((c : Int) + (ts.length : Int)).toNat).map V.int) none (some (c : Int)) = (frs c ts).map V.int := by
        rw [cut_take, ← List.map_take]
        rw [show ((c : Int) + (ts.length : Int)).toNat = c + ts.length from by omega]; rfl
      have s1 : Same H (upd H D (.lst ((fre ts ((c : Int) + (ts.length : Int)).toNat).map V.int))) := Same.new hD
      exact k p _ (s1.free hp) (s1.mut (s1.free hp)) (by rw [e]; exact upd_same)
theorem ok_patternL (T : Tx K mg sa sx) : Cal P w K mg base 1 "pattern" (spPatL K) := by
  obtain ⟨fd, F⟩ := f_pattern T
  refine ⟨_, fd, ["values", "kept"], fnok F sc_pattern (fun vs H Q E h => ?_) (fun cdv A outer s H vs Q E hr h => ?_), F.bindsN fun _ _ _ _ _ _ us hl => match us, hl with | [_, _], _ => rfl, g_pattern T, F.kp⟩
  · obtain ⟨a, b, xs, ks, rfl, _⟩ := h; rfl
  · obtain ⟨a, b, xs, ks, rfl, ha, lx, hb, k⟩ := h
    refine ⟨_, (pss_cons (ps_set (i := 2) sc_pattern.nd rfl (by first | exact Or.inl rfl | exact Or.inr rfl) pe_dnewK)
    (pss_cons (ps_set (i := 3) sc_pattern.nd rfl (by first | exact Or.inl rfl | exact Or.inr rfl) (pe_lst pa_nil))
    (pss_cons (ps_for PassesOwn.never rfl (pi_list (pv 0)) (pg_name (i := 4) sc_pattern.nd rfl (by first | exact Or.inl rfl | exact Or.inr rfl))
      (pss_one (ps_if (pt_cmpR op_in_seq (pv 4) (pv 1) (by rfl)) (pss_one (ps_expr (pe_bm PySem.F.plainAttrs_list PySem.F.slot_list_append PySem.F.type_list_append mt_append (pv 3) (pa_cons (pe_tup (pa_cons pe_str (pa_cons (pv 4) pa_nil))) pa_nil)))) (pss_one (ps_expr (pe_bm PySem.F.plainAttrs_list PySem.F.slot_list_append PySem.F.type_list_append mt_append (pv 3) (pa_cons (pe_tup (pa_cons pe_str (pa_cons (pe_dsetd (pv 2) (pv 4) (pe_callB (id := "len") call_lenD rfl (n_len T) (by decide +kernel) (pa_cons (pv 2) pa_nil)) ⟨by rfl, by rfl, by rfl, by rfl⟩) pa_nil))) pa_nil)))))))
    (pss_one (ps_ret (pe_callTy (T := "tuple") call_tuple_of rfl (n_tuple T) (by decide +kernel) (pa_cons (pv 3) pa_nil))))))), ?_⟩
    refine fun d hd => ⟨sz1 (by simp), fun e he => ?_⟩
    have s0 : Same H (upd (upd H d (.dK [])) e (.lst [])) := (Same.new hd).trans (Same.new he)
    have nde : d ≠ e := ne_of_none upd_same he
    have he0 : H e = none := (Same.new hd).free he
    refine ⟨_, rfl, a, rfl, ⟨_, SqL.of (s0 _ _ ha)⟩, ?_⟩
    refine for_list (K := K) (a := a) (xs := xs.map V.int) (fun i σ H' => ∃ (l : List AE) (s : List Int) (v : Option V), σ = [some (.ref a), some (.ref b), some (.ref d), some (.ref e), v] ∧ Same H H' ∧ H' d = some (.dK (kvs s)) ∧ H' e = some (.lst (rf l)) ∧ (∀ q ∈ l, H' q.1 = some (.tup q.2.vs)) ∧ l.map (·.2) ++ pat ks s (xs.drop i) = pat ks [] xs ∧ l.length = i ∧ s.length ≤ i)
      ⟨[], [], none, rfl, s0, (upd_ne nde).trans upd_same, upd_same, (by simp), rfl, rfl, Nat.le_refl _⟩ (fun i σ H' _ ⟨_, _, _, _, sm, _⟩ => SqL.of (sm _ _ ha)) ?_ ?_
    · rintro i x σ H' hi ⟨l, s, v, rfl, sm, hD, hE, hq, eq, ll, ls⟩
      obtain ⟨hi2, rfl⟩ := map_at hi
      have dr : xs.drop i = xs[i] :: xs.drop (i + 1) := List.drop_eq_getElem_cons hi2
      have neE : ∀ {q : Addr} {ys : List V}, H' q = some (.tup ys) → q ≠ e := fun h => ne_of h hE (by intro z; cases z)
      have neD : ∀ {q : Addr} {ys : List V}, H' q = some (.tup ys) → q ≠ d := fun h => ne_of h hD (by intro z; cases z)
      refine ⟨_, rfl, _, rfl, b, _, rfl, .inl (SqL.of (sm _ _ hb)), rfl, flat_ints _, _, rfl, ?_⟩
      rw [inV_ints]
      refine dC (fun c => ?_) (fun c => ?_)
      · refine ⟨_, rfl, .inl ⟨rfl, _, SqL.of hE⟩, _, rfl, sz1 (by simp), fun t ht => ?_⟩
        have hE2 := (upd_ne (ne_of_none hE ht) (o := .tup [V.str "kept", V.int xs[i]])).trans hE
        refine ⟨e, _, _, rfl, rfl, hE2, sz2 (by unfold rf; rw [List.length_map]; omega), ?_⟩
        have nte : t ≠ e := (ne_of_none hE ht).symm
        refine ⟨l ++ [(t, .k xs[i])], s, _, rfl, (sm.mut (sm.free ht)).mut he0, (upd_ne nde).trans ((upd_ne (ne_of_none hD ht)).trans hD), by unfold rf; rw [List.map_append]; exact upd_same, fun q hq' => ?_, ?_, by simp [ll], by omega⟩
        · rcases List.mem_append.mp hq' with h | h
          · exact (upd_ne (neE (hq q h))).trans ((upd_ne (ne_of_none (hq q h) ht)).trans (hq q h))
          · simp at h; subst h; exact (upd_ne nte).trans upd_same
        · rw [← eq, dr, pat_k c, List.map_append, List.append_assoc]; rfl
      · refine ⟨_, rfl, .inl ⟨rfl, _, SqL.of hE⟩, _, rfl, d, rfl, .inl ⟨_, .inl hD⟩, _, rfl, _, rfl, d, _, rfl, hD, kvs s, .inl xs[i], hD, rfl, sz2 (by rw [kvs_len]; omega), fun v hv => ?_, fun hv => ?_⟩
        · rw [val_kvs] at hv
          by_cases cs : xs[i] ∈ s
          · rw [if_pos cs] at hv
            obtain rfl := Option.some.inj hv
            refine ⟨sz1 (by simp), fun t ht => ?_⟩
            have hE2 := (upd_ne (ne_of_none hE ht) (o := .tup [V.str "new", V.int ((s.idxOf xs[i] : Nat) : Int)])).trans hE
            refine ⟨e, _, _, rfl, rfl, hE2, sz2 (by unfold rf; rw [List.length_map]; omega), ?_⟩
            have nte : t ≠ e := (ne_of_none hE ht).symm
            refine ⟨l ++ [(t, .n (s.idxOf xs[i]))], s, _, rfl, (sm.mut (sm.free ht)).mut he0, (upd_ne nde).trans ((upd_ne (ne_of_none hD ht)).trans hD), by unfold rf; rw [List.map_append]; exact upd_same, fun q hq' => ?_, ?_, by simp [ll], by omega⟩
            · rcases List.mem_append.mp hq' with h | h
              · exact (upd_ne (neE (hq q h))).trans ((upd_ne (ne_of_none (hq q h) ht)).trans (hq q h))
              · simp at h; subst h; exact (upd_ne nte).trans upd_same
            · rw [← eq, dr, pat_o c cs, List.map_append, List.append_assoc]; rfl
          · rw [if_neg cs] at hv; cases hv
        · rw [val_kvs] at hv
          by_cases cs : xs[i] ∈ s
          · rw [if_pos cs] at hv; cases hv
          · rw [put_kvs cs]
            have hE1 : (upd H' d (.dK (kvs (s ++ [xs[i]])))) e = some (.lst (rf l)) := (upd_ne nde.symm).trans hE
            refine ⟨sz1 (by simp), fun t ht => ?_⟩
            have htH : H' t = none := by
              by_cases z : t = d
              · subst z; rw [upd_same] at ht; cases ht
              · rw [upd_ne z] at ht; exact ht
            have ntd : d ≠ t := fun z => by subst z; rw [hD] at htH; cases htH
            have hE2 := (upd_ne (ne_of_none hE1 ht) (o := .tup [V.str "new", V.int ((kvs s).length : Int)])).trans hE1
            refine ⟨e, _, _, rfl, rfl, hE2, sz2 (by unfold rf; rw [List.length_map]; omega), ?_⟩
            have nte : t ≠ e := (ne_of_none hE1 ht).symm
            have smd : Same H (upd H' d (.dK (kvs (s ++ [xs[i]])))) := sm.mut hd
            refine ⟨l ++ [(t, .n s.length)], s ++ [xs[i]], _, rfl, (smd.mut (smd.free ht)).mut he0, (upd_ne nde).trans ((upd_ne ntd).trans upd_same), by unfold rf; rw [List.map_append]; exact upd_same, fun q hq' => ?_, ?_, by simp [ll], by rw [List.length_append]; exact Nat.succ_le_succ ls⟩
            · rcases List.mem_append.mp hq' with h | h
              · exact (upd_ne (neE (hq q h))).trans ((upd_ne (ne_of_none (hq q h) htH)).trans ((upd_ne (neD (hq q h))).trans (hq q h)))
              · simp at h; subst h; rw [upd_ne nte, upd_same, kvs_len]; rfl
            · rw [← eq, dr, pat_n c cs, List.map_append, List.append_assoc]; rfl
    · rintro σ H' ⟨l, s, v, rfl, sm, hD, hE, hq, eq, ll, ls⟩
      refine ⟨_, rfl, e, _, rfl, .inl ⟨SqL.of hE, fun t ht => ?_⟩⟩
      refine k t _ (sm.free ht) (sm.mut (sm.free ht)) ⟨l, upd_same, ?_, fun q h => (upd_ne (ne_of_none (hq q h) ht)).trans (hq q h)⟩
      rw [List.length_map, List.drop_length] at eq
      simpa [pat] using eq
end
end K26
namespace K26
open PySem PySem.Spec PyProof.Rows Cm
open L2 hiding Same
def spEntries (K : PySem.W.Frag) : Sp := spPatL K
def spCount (K : PySem.W.Frag) : Sp := fun vs H Q _ => ∃ (a : Addr) (es : List En), vs = [.ref a] ∧ PatAt H a es ∧ es.length ≤ 100 ∧ ∀ (c : Nat) (H' : Hp), CntOk c es → Same H H' → Q (.int (c : Int)) H'
def spReal (K : PySem.W.Frag) : Sp := fun vs H Q _ => ∃ (a b : Addr) (es : List En) (ks : List Int), vs = [.ref a, .ref b] ∧ PatAt H a es ∧ es.length ≤ 100 ∧ (∀ i, En.n i ∈ es → i < 100) ∧ H b = some (.lst (ks.map V.int)) ∧ ks.length ≤ 100 ∧
  ∀ (c : Nat) (t : Addr) (H' : Hp), CntOk c es → H t = none → Same H H' → H' t = some (.tup ((es.map (rz (frs c ks))).map V.int)) → Q (.ref t) H'
section
variable {P : Program} {w : World} {K : PySem.W.Frag} {mg : Str → Option Value} {base : Heap} {sa : Addr} {sx : List Int}
theorem ok_patternT (T : Tx K mg sa sx) : Cal P w K mg base 1 "pattern" (spPatT K) := by
  obtain ⟨fd, F⟩ := f_pattern T
  refine ⟨_, fd, ["values", "kept"], fnok F sc_pattern (fun vs H Q E h => ?_) (fun cdv A outer s H vs Q E hr h => ?_), F.bindsN fun _ _ _ _ _ _ us hl => match us, hl with | [_, _], _ => rfl, g_pattern T, F.kp⟩
  · obtain ⟨a, b, xs, ks, rfl, _⟩ := h; rfl
  · obtain ⟨a, b, xs, ks, rfl, ha, lx, hb, k⟩ := h
    refine ⟨_, (pss_cons (ps_set (i := 2) sc_pattern.nd rfl (by first | exact Or.inl rfl | exact Or.inr rfl) pe_dnewK)
    (pss_cons (ps_set (i := 3) sc_pattern.nd rfl (by first | exact Or.inl rfl | exact Or.inr rfl) (pe_lst pa_nil))
    (pss_cons (ps_for PassesOwn.never rfl (pi_tup (pv 0)) (pg_name (i := 4) sc_pattern.nd rfl (by first | exact Or.inl rfl | exact Or.inr rfl))
      (pss_one (ps_if (pt_cmpR op_in_seq (pv 4) (pv 1) (by rfl)) (pss_one (ps_expr (pe_bm PySem.F.plainAttrs_list PySem.F.slot_list_append PySem.F.type_list_append mt_append (pv 3) (pa_cons (pe_tup (pa_cons pe_str (pa_cons (pv 4) pa_nil))) pa_nil)))) (pss_one (ps_expr (pe_bm PySem.F.plainAttrs_list PySem.F.slot_list_append PySem.F.type_list_append mt_append (pv 3) (pa_cons (pe_tup (pa_cons pe_str (pa_cons (pe_dsetd (pv 2) (pv 4) (pe_callB (id := "len") call_lenD rfl (n_len T) (by decide +kernel) (pa_cons (pv 2) pa_nil)) ⟨by rfl, by rfl, by rfl, by rfl⟩) pa_nil))) pa_nil)))))))
    (pss_one (ps_ret (pe_callTy (T := "tuple") call_tuple_of rfl (n_tuple T) (by decide +kernel) (pa_cons (pv 3) pa_nil))))))), ?_⟩
    refine fun d hd => ⟨sz1 (by simp), fun e he => ?_⟩
    have s0 : Same H (upd (upd H d (.dK [])) e (.lst [])) := (Same.new hd).trans (Same.new he)
    have nde : d ≠ e := ne_of_none upd_same he
    have he0 : H e = none := (Same.new hd).free he
    refine ⟨_, rfl, a, rfl, ⟨_, SqT.of (s0 _ _ ha)⟩, ?_⟩
    refine for_tup (K := K) (a := a) (xs := xs.map V.int) (fun i σ H' => ∃ (l : List AE) (s : List Int) (v : Option V), σ = [some (.ref a), some (.ref b), some (.ref d), some (.ref e), v] ∧ Same H H' ∧ H' d = some (.dK (kvs s)) ∧ H' e = some (.lst (rf l)) ∧ (∀ q ∈ l, H' q.1 = some (.tup q.2.vs)) ∧ l.map (·.2) ++ pat ks s (xs.drop i) = pat ks [] xs ∧ l.length = i ∧ s.length ≤ i)
      ⟨[], [], none, rfl, s0, (upd_ne nde).trans upd_same, upd_same, (by simp), rfl, rfl, Nat.le_refl _⟩ (fun i σ H' _ ⟨_, _, _, _, sm, _⟩ => SqT.of (sm _ _ ha)) ?_ ?_
    · rintro i x σ H' hi ⟨l, s, v, rfl, sm, hD, hE, hq, eq, ll, ls⟩
      obtain ⟨hi2, rfl⟩ := map_at hi
      have dr : xs.drop i = xs[i] :: xs.drop (i + 1) := List.drop_eq_getElem_cons hi2
      have neE : ∀ {q : Addr} {ys : List V}, H' q = some (.tup ys) → q ≠ e := fun h => ne_of h hE (by intro z; cases z)
      have neD : ∀ {q : Addr} {ys : List V}, H' q = some (.tup ys) → q ≠ d := fun h => ne_of h hD (by intro z; cases z)
      refine ⟨_, rfl, _, rfl, b, _, rfl, .inl (SqL.of (sm _ _ hb)), rfl, flat_ints _, _, rfl, ?_⟩
      rw [inV_ints]
      refine dC (fun c => ?_) (fun c => ?_)
      · refine ⟨_, rfl, .inl ⟨rfl, _, SqL.of hE⟩, _, rfl, sz1 (by simp), fun t ht => ?_⟩
        have hE2 := (upd_ne (ne_of_none hE ht) (o := .tup [V.str "kept", V.int xs[i]])).trans hE
        refine ⟨e, _, _, rfl, rfl, hE2, sz2 (by unfold rf; rw [List.length_map]; omega), ?_⟩
        have nte : t ≠ e := (ne_of_none hE ht).symm
        refine ⟨l ++ [(t, .k xs[i])], s, _, rfl, (sm.mut (sm.free ht)).mut he0, (upd_ne nde).trans ((upd_ne (ne_of_none hD ht)).trans hD), by unfold rf; rw [List.map_append]; exact upd_same, fun q hq' => ?_, ?_, by simp [ll], by omega⟩
        · rcases List.mem_append.mp hq' with h | h
          · exact (upd_ne (neE (hq q h))).trans ((upd_ne (ne_of_none (hq q h) ht)).trans (hq q h))
          · simp at h; subst h; exact (upd_ne nte).trans upd_same
        · rw [← eq, dr, pat_k c, List.map_append, List.append_assoc]; rfl
      · refine ⟨_, rfl, .inl ⟨rfl, _, SqL.of hE⟩, _, rfl, d, rfl, .inl ⟨_, .inl hD⟩, _, rfl, _, rfl, d, _, rfl, hD, kvs s, .inl xs[i], hD, rfl, sz2 (by rw [kvs_len]; omega), fun v hv => ?_, fun hv => ?_⟩
        · rw [val_kvs] at hv
          by_cases cs : xs[i] ∈ s
          · rw [if_pos cs] at hv
            obtain rfl := Option.some.inj hv
            refine ⟨sz1 (by simp), fun t ht => ?_⟩
            have hE2 := (upd_ne (ne_of_none hE ht) (o := .tup [V.str "new", V.int ((s.idxOf xs[i] : Nat) : Int)])).trans hE
            refine ⟨e, _, _, rfl, rfl, hE2, sz2 (by unfold rf; rw [List.length_map]; omega), ?_⟩
            have nte : t ≠ e := (ne_of_none hE ht).symm
            refine ⟨l ++ [(t, .n (s.idxOf xs[i]))], s, _, rfl, (sm.mut (sm.free ht)).mut he0, (upd_ne nde).trans ((upd_ne (ne_of_none hD ht)).trans hD), by unfold rf; rw [List.map_append]; exact upd_same, fun q hq' => ?_, ?_, by simp [ll], by omega⟩
            · rcases List.mem_append.mp hq' with h | h
              · exact (upd_ne (neE (hq q h))).trans ((upd_ne (ne_of_none (hq q h) ht)).trans (hq q h))
              · simp at h; subst h; exact (upd_ne nte).trans upd_same
            · rw [← eq, dr, pat_o c cs, List.map_append, List.append_assoc]; rfl
          · rw [if_neg cs] at hv; cases hv
        · rw [val_kvs] at hv
          by_cases cs : xs[i] ∈ s
          · rw [if_pos cs] at hv; cases hv
          · rw [put_kvs cs]
            have hE1 : (upd H' d (.dK (kvs (s ++ [xs[i]])))) e = some (.lst (rf l)) := (upd_ne nde.symm).trans hE
            refine ⟨sz1 (by simp), fun t ht => ?_⟩
            have htH : H' t = none := by
              by_cases z : t = d
              · subst z; rw [upd_same] at ht; cases ht
              · rw [upd_ne z] at ht; exact ht
            have ntd : d ≠ t := fun z => by subst z; rw [hD] at htH; cases htH
            have hE2 := (upd_ne (ne_of_none hE1 ht) (o := .tup [V.str "new", V.int ((kvs s).length : Int)])).trans hE1
            refine ⟨e, _, _, rfl, rfl, hE2, sz2 (by unfold rf; rw [List.length_map]; omega), ?_⟩
            have nte : t ≠ e := (ne_of_none hE1 ht).symm
            have smd : Same H (upd H' d (.dK (kvs (s ++ [xs[i]])))) := sm.mut hd
            refine ⟨l ++ [(t, .n s.length)], s ++ [xs[i]], _, rfl, (smd.mut (smd.free ht)).mut he0, (upd_ne nde).trans ((upd_ne ntd).trans upd_same), by unfold rf; rw [List.map_append]; exact upd_same, fun q hq' => ?_, ?_, by simp [ll], by rw [List.length_append]; exact Nat.succ_le_succ ls⟩
            · rcases List.mem_append.mp hq' with h | h
              · exact (upd_ne (neE (hq q h))).trans ((upd_ne (ne_of_none (hq q h) htH)).trans ((upd_ne (neD (hq q h))).trans (hq q h)))
              · simp at h; subst h; rw [upd_ne nte, upd_same, kvs_len]; rfl
            · rw [← eq, dr, pat_n c cs, List.map_append, List.append_assoc]; rfl
    · rintro σ H' ⟨l, s, v, rfl, sm, hD, hE, hq, eq, ll, ls⟩
      refine ⟨_, rfl, e, _, rfl, .inl ⟨SqL.of hE, fun t ht => ?_⟩⟩
      refine k t _ (sm.free ht) (sm.mut (sm.free ht)) ⟨l, upd_same, ?_, fun q h => (upd_ne (ne_of_none (hq q h) ht)).trans (hq q h)⟩
      rw [List.length_map, List.drop_length] at eq
      simpa [pat] using eq
theorem ok_count_classes (T : Tx K mg sa sx) : Cal P w K mg base 1 "count_classes" (spCount K) := by
  obtain ⟨fd, F⟩ := f_count_classes T
  refine ⟨_, fd, ["entries"], fnok F sc_count_classes (fun vs H Q E h => ?_) (fun cdv A outer s H vs Q E hr h => ?_), F.bindsN fun _ _ _ _ _ _ us hl => match us, hl with | [_], _ => rfl, g_count_classes T, F.kp⟩
  · obtain ⟨a, es, rfl, _⟩ := h; rfl
  · obtain ⟨a, es, rfl, ⟨l, ha, rfl, hq⟩, le, k⟩ := h
    rw [List.length_map] at le
    refine ⟨_, (pss_one (ps_ret (pe_callBK (call_maxD rfl hr.units) rfl (n_max T) (by decide +kernel) (pa_cons (pe_lc (own := [("entry", 1)]) (g := gName 1) rfl sc_count_classes.nd (pi_tup (pv 0)) (blkOk_by (own := [("entry", 1)]) (N := ["entries", "entry"]) (sc := defScope s_count_classes) (by decide +kernel)) (fun _ _ _ _ _ => pg_name (i := 1) sc_count_classes.nd rfl (Or.inl rfl)) (fun _ _ _ _ _ => (pts_one (pt_cmpR op_eq (pe_ix (show IxR _ (rIxT K) from ix_tup) (pv 1) pe_int (fun _ _ => rfl)) pe_str (nomark _)))) (fun _ _ _ _ _ => (pe_op op_add (pe_ix (show IxR _ (rIxT K) from ix_tup) (pv 1) pe_int (fun _ _ => rfl)) pe_int))) pa_nil) (pk_cons pe_int pk_nil)))), ?_⟩
    refine ⟨_, rfl, a, rfl, ⟨_, SqT.of ha⟩, fun D hD => ?_⟩
    refine lc_tup (K := K) (a := a) (xs := rf l) (fun i H' => H' = upd H D (.lst ((cls (l.take i)).map V.int))) rfl (fun i H' _ e => by subst e; exact SqT.of ((upd_ne (ne_of_none ha hD)).trans ha)) ?_ ?_
    · rintro i x H' hi rfl
      obtain ⟨q, hl, rfl⟩ := rf_at hi
      have hq1 := hq q (List.mem_of_getElem? hl)
      have hq2 := (upd_ne (ne_of_none hq1 hD) (o := .lst ((cls (l.take i)).map V.int))).trans hq1
      have tk := cls_take hl
      cases e : q.2 with
      | k v =>
        rw [e] at hq2
        refine ⟨rfl, _, rfl, q.1, _, 0, _, rfl, rfl, SqT.of hq2, rfl, rfl, _, rfl, tF (by intro z; have z2 := kn1; injection z with z; rw [z] at z2; simp at z2) ?_⟩
        show upd H D _ = upd H D _
        rw [tk]; unfold clsF; rw [e]; simp
      | n j =>
        rw [e] at hq2
        refine ⟨rfl, _, rfl, q.1, _, 0, _, rfl, rfl, SqT.of hq2, rfl, rfl, _, rfl, tT rfl ?_⟩
        refine ⟨_, rfl, q.1, _, 1, _, rfl, rfl, SqT.of hq2, rfl, _, _, rfl, rfl, _, upd_same, sz2 ?_, ?_⟩
        · rw [List.length_map]; have := cls_len (l.take i); have := List.length_take_le' i l; omega
        · rw [upd_upd, tk]; unfold clsF; rw [e]; simp
    · rintro H' rfl
      rw [rf_len, List.take_length]
      refine ⟨D, _, _, rfl, rfl, SqL.of upd_same, fun e => ?_, fun m hm hx => ?_⟩
      · exact k 0 _ (cnt_nil e) (Same.new hD)
      · obtain ⟨c, rfl, hc⟩ := cnt_max hm hx
        exact k c _ hc (Same.new hD)
theorem ok_realise (T : Tx K mg sa sx) : Cal P w K mg base 2 "realise" (spReal K) := by
  obtain ⟨fd, F⟩ := f_realise T
  refine ⟨_, fd, ["entries", "kept"], fnok F sc_realise (fun vs H Q E h => ?_) (fun cdv A outer s H vs Q E hr h => ?_), F.bindsN fun _ _ _ _ _ _ us hl => match us, hl with | [_, _], _ => rfl, g_realise T, F.kp⟩
  · obtain ⟨a, b, es, ks, rfl, _⟩ := h; rfl
  · obtain ⟨a, b, es, ks, rfl, hP, le, lb, hb, lk, k⟩ := h
    refine ⟨_, (pss_cons (ps_set (i := 2) sc_realise.nd rfl (by first | exact Or.inl rfl | exact Or.inr rfl) (pe_cal (ok_fresh T) hr (by decide) (pa_cons (pe_cal (ok_count_classes T) hr (by decide) (pa_cons (pv 0) pa_nil)) (pa_cons (pv 1) pa_nil))))
    (pss_one (ps_ret (pe_callTy (T := "tuple") call_tuple_of rfl (n_tuple T) (by decide +kernel) (pa_cons (pe_lc (own := [("entry", 3)]) (g := gName 3) rfl sc_realise.nd (pi_tup (pv 0)) (blkOk_by (own := [("entry", 3)]) (N := ["entries", "kept", "others", "entry"]) (sc := defScope s_realise) (by decide +kernel)) (fun _ _ _ _ _ => pg_name (i := 3) sc_realise.nd rfl (Or.inl rfl)) (fun _ _ _ _ _ => pts_nil) (fun _ _ _ _ _ => (pe_ifExp (pt_cmpR op_eq (pe_ix (show IxR _ (rIxT K) from ix_tup) (pv 3) pe_int (fun _ _ => rfl)) pe_str (nomark _)) (pe_ix (show IxR _ (rIxT K) from ix_tup) (pv 3) pe_int (fun _ _ => rfl)) (pe_ix (show IxR _ (rIxL K) from ix_list) (pv 2) (pe_ix (show IxR _ (rIxT K) from ix_tup) (pv 3) pe_int (fun _ _ => rfl)) (fun _ _ => rfl))))) pa_nil))))), ?_⟩
    refine ⟨_, rfl, a, es, rfl, hP, le, fun c H1 hc s1 => ⟨_, rfl, c, b, ks, rfl, hc.le lb, s1 _ _ hb, lk, fun o H2 ho s2 h2 => ?_⟩⟩
    have s12 := s1.trans s2
    obtain ⟨l, ha, rfl, hq⟩ := hP.same s12
    have lo : (frs c ks).length = c := frs_len c ks
    rw [List.length_map] at le
    refine ⟨_, rfl, a, rfl, ⟨_, SqT.of ha⟩, fun D hD => ?_⟩
    refine lc_tup (K := K) (a := a) (xs := rf l) (fun i H' => H' = upd H2 D (.lst ((((l.take i).map (·.2)).map (rz (frs c ks))).map V.int))) rfl (fun i H' _ e => by subst e; exact SqT.of ((upd_ne (ne_of_none ha hD)).trans ha)) ?_ ?_
    · rintro i x H' hi rfl
      obtain ⟨q, hl, rfl⟩ := rf_at hi
      have hq1 := hq q (List.mem_of_getElem? hl)
      have hqe : q.2 ∈ l.map (·.2) := List.mem_map.mpr ⟨q, List.mem_of_getElem? hl, rfl⟩
      have hq2 := (upd_ne (ne_of_none hq1 hD) (o := .lst ((((l.take i).map (·.2)).map (rz (frs c ks))).map V.int))).trans hq1
      have tk : l.take (i + 1) = l.take i ++ [q] := by rw [List.take_add_one, hl]; rfl
      have szz : ((((l.take i).map (·.2)).map (rz (frs c ks))).map V.int).length ≤ 100 := by
        simp only [List.length_map]; have := List.length_take_le' i l; omega
      cases e : q.2 with
      | k v =>
        rw [e] at hq2
        refine ⟨rfl, _, rfl, q.1, _, 0, _, rfl, rfl, SqT.of hq2, rfl, rfl, _, rfl, tT rfl ?_⟩
        refine ⟨_, rfl, q.1, _, 1, _, rfl, rfl, SqT.of hq2, rfl, _, upd_same, sz2 (by omega), ?_⟩
        rw [upd_upd, tk]; simp [e, rz]
      | n j =>
        rw [e] at hq2
        have hj : j < c := hc.1 j (e ▸ hqe)
        refine ⟨rfl, _, rfl, q.1, _, 0, _, rfl, rfl, SqT.of hq2, rfl, rfl, _, rfl, tF (by intro z; have z2 := kn2; injection z with z; rw [z] at z2; simp at z2) ?_⟩
        refine ⟨_, rfl, _, rfl, q.1, _, 1, _, rfl, rfl, SqT.of hq2, rfl, o, _, (j : Int), V.int ((frs c ks)[j]'(by omega)), rfl, rfl, SqL.of ((upd_ne (ne_of_none h2 hD)).trans h2), at_int (by omega), _, upd_same, sz2 (by omega), ?_⟩
        rw [upd_upd, tk]
        simp only [List.map_append, List.map_cons, List.map_nil, e, rz]
        rw [g_at (by omega)]
    · rintro H' rfl
      rw [rf_len, List.take_length]
      refine ⟨D, _, rfl, .inl ⟨SqL.of upd_same, fun t ht => ?_⟩⟩
      have sD : Same H (upd H2 D (.lst (((l.map (·.2)).map (rz (frs c ks))).map V.int))) := s12.trans (Same.new hD)
      exact k c t _ hc (sD.free ht) (sD.trans (Same.new ht)) upd_same
end
end K26
namespace K26
open PySem PySem.Spec PyProof.Rows Cm
open L2 hiding Same
def spTaken (K : PySem.W.Frag) (sa : Addr) (sx : List Int) : Sp := fun vs H Q _ => ∃ (p a b : Addr) (xs ks : List Int), vs = [.ref p, .ref a, .ref b] ∧ H a = some (.lst (xs.map V.int)) ∧ xs.length ≤ 100 ∧ H b = some (.lst (ks.map V.int)) ∧ PoolAt K sa sx H p ∧
  ∀ (r : Addr) (ys : List Int) (H' : Hp), H r = none → H' r = some (.lst (ys.map V.int)) → ys.length = xs.length → Kp p H H' → PoolAt K sa sx H' p → Q (.ref r) H'
def spAlike (K : PySem.W.Frag) : Sp := fun vs H Q _ => ∃ (a b c : Addr) (xs ys ks : List Int), vs = [.ref a, .ref b, .ref c] ∧ H a = some (.lst (xs.map V.int)) ∧ H b = some (.lst (ys.map V.int)) ∧ H c = some (.lst (ks.map V.int)) ∧ xs.length = ys.length ∧ xs.length ≤ 100 ∧
  ∀ r : Bool, (r = true ↔ Alike ks xs ys) → Q (.bl r) H
def spInt : Sp := fun vs H Q _ => ∃ n, vs = [.int n] ∧ Q (.bl true) H
def spIs (K : PySem.W.Frag) : Sp := fun vs H Q _ => ∃ (a e b : Addr) (es : List En) (ks : List Int) (c : Nat), vs = [.ref a, .ref e, .ref b] ∧ H a = some (.tup ((es.map (rz (frs c ks))).map V.int)) ∧ PatAt H e es ∧ es.length ≤ 100 ∧ H b = some (.lst (ks.map V.int)) ∧ CntOk c es ∧ c + ks.length ≤ 8 ∧
  ∀ H', Same H H' → Q (.bl true) H'
section
variable {P : Program} {w : World} {K : PySem.W.Frag} {mg : Str → Option Value} {base : Heap} {sa : Addr} {sx : List Int}
theorem ok_l_entries (T : Tx K mg sa sx) : Cal P w K mg base 1 "_law_entries" (spEntries K) := by
  obtain ⟨fd, F⟩ := f_l_entries T
  refine ⟨_, fd, ["_law_values_here", "_law_kept_here"], fnok F sc_l_entries (fun vs H Q E h => ?_) (fun cdv A outer s H vs Q E hr h => ?_), F.bindsN fun _ _ _ _ _ _ us hl => match us, hl with | [_, _], _ => rfl, g__law_entries T, F.kp⟩
  · obtain ⟨a, b, xs, ks, rfl, _⟩ := h; rfl
  · obtain ⟨a, b, xs, ks, rfl, ha, lx, hb, k⟩ := h
    refine ⟨_, (pss_cons (ps_set (i := 2) sc_l_entries.nd rfl (by first | exact Or.inl rfl | exact Or.inr rfl) (pe_lst pa_nil))
    (pss_cons (ps_set (i := 3) sc_l_entries.nd rfl (by first | exact Or.inl rfl | exact Or.inr rfl) (pe_lst pa_nil))
    (pss_cons (ps_for PassesOwn.never rfl (pi_list (pv 0)) (pg_name (i := 4) sc_l_entries.nd rfl (by first | exact Or.inl rfl | exact Or.inr rfl))
      (pss_one (ps_if (pt_cmpR op_in_seq (pv 4) (pv 1) (by rfl)) (pss_one (ps_expr (pe_bm PySem.F.plainAttrs_list PySem.F.slot_list_append PySem.F.type_list_append mt_append (pv 3) (pa_cons (pe_tup (pa_cons pe_str (pa_cons (pv 4) pa_nil))) pa_nil)))) (pss_cons (ps_if (pt_cmpR op_notIn_seq (pv 4) (pv 2) (by rfl)) (pss_one (ps_expr (pe_bm PySem.F.plainAttrs_list PySem.F.slot_list_append PySem.F.type_list_append mt_append (pv 2) (pa_cons (pv 4) pa_nil)))) pss_nil)
        (pss_one (ps_expr (pe_bm PySem.F.plainAttrs_list PySem.F.slot_list_append PySem.F.type_list_append mt_append (pv 3) (pa_cons (pe_tup (pa_cons pe_str (pa_cons (pe_bm PySem.F.plainAttrs_list PySem.F.slot_list_index PySem.F.type_list_index mt_index (pv 2) (pa_cons (pv 4) pa_nil)) pa_nil))) pa_nil))))))))
    (pss_one (ps_ret (pe_callTy (T := "tuple") call_tuple_of rfl (n_tuple T) (by decide +kernel) (pa_cons (pv 3) pa_nil))))))), ?_⟩
    refine ⟨sz1 (by simp), fun d hd => ⟨sz1 (by simp), fun e he => ?_⟩⟩
    have s0 : Same H (upd (upd H d (.lst [])) e (.lst [])) := (Same.new hd).trans (Same.new he)
    have nde : d ≠ e := ne_of_none upd_same he
    have he0 : H e = none := (Same.new hd).free he
    refine ⟨_, rfl, a, rfl, ⟨_, SqL.of (s0 _ _ ha)⟩, ?_⟩
    refine for_list (K := K) (a := a) (xs := xs.map V.int) (fun i σ H' => ∃ (l : List AE) (s : List Int) (v : Option V), σ = [some (.ref a), some (.ref b), some (.ref d), some (.ref e), v] ∧ Same H H' ∧ H' d = some (.lst (s.map V.int)) ∧ H' e = some (.lst (rf l)) ∧ (∀ q ∈ l, H' q.1 = some (.tup q.2.vs)) ∧ l.map (·.2) ++ pat ks s (xs.drop i) = pat ks [] xs ∧ l.length = i ∧ s.length ≤ i)
      ⟨[], [], none, rfl, s0, (upd_ne nde).trans upd_same, upd_same, (by simp), rfl, rfl, Nat.le_refl _⟩ (fun i σ H' _ ⟨_, _, _, _, sm, _⟩ => SqL.of (sm _ _ ha)) ?_ ?_
    · rintro i x σ H' hi ⟨l, s, v, rfl, sm, hD, hE, hq, eq, ll, ls⟩
      obtain ⟨hi2, rfl⟩ := map_at hi
      have dr : xs.drop i = xs[i] :: xs.drop (i + 1) := List.drop_eq_getElem_cons hi2
      have neE : ∀ {q : Addr} {ys : List V}, H' q = some (.tup ys) → q ≠ e := fun h => ne_of h hE (by intro z; cases z)
      have neD : ∀ {q : Addr} {ys : List V}, H' q = some (.tup ys) → q ≠ d := fun h => ne_of h hD (by intro z; cases z)
      refine ⟨_, rfl, _, rfl, b, _, rfl, .inl (SqL.of (sm _ _ hb)), rfl, flat_ints _, _, rfl, ?_⟩
      rw [inV_ints]
      refine dC (fun c => ?_) (fun c => ?_)
      · refine ⟨_, rfl, .inl ⟨rfl, _, SqL.of hE⟩, _, rfl, sz1 (by simp), fun t ht => ?_⟩
        have hE2 := (upd_ne (ne_of_none hE ht) (o := .tup [V.str "kept", V.int xs[i]])).trans hE
        refine ⟨e, _, _, rfl, rfl, hE2, sz2 (by rw [rf_len]; omega), ?_⟩
        have nte : t ≠ e := (ne_of_none hE ht).symm
        refine ⟨l ++ [(t, .k xs[i])], s, _, rfl, (sm.mut (sm.free ht)).mut he0, (upd_ne nde).trans ((upd_ne (ne_of_none hD ht)).trans hD), by unfold rf; rw [List.map_append]; exact upd_same, fun q hq' => ?_, ?_, by simp [ll], by omega⟩
        · rcases List.mem_append.mp hq' with h | h
          · exact (upd_ne (neE (hq q h))).trans ((upd_ne (ne_of_none (hq q h) ht)).trans (hq q h))
          · simp at h; subst h; exact (upd_ne nte).trans upd_same
        · rw [← eq, dr, pat_k c, List.map_append, List.append_assoc]; rfl
      · -- the class's number: from here on with seen s2 at heap H2
        have go : ∀ (s2 : List Int) (H2 : Hp), Same H H2 → H2 d = some (.lst (s2.map V.int)) → H2 e = some (.lst (rf l)) → (∀ q ∈ l, H2 q.1 = some (.tup q.2.vs)) → (hm : xs[i] ∈ s2) → s2.length ≤ i + 1 → l.map (·.2) ++ (.n (s2.idxOf xs[i]) :: pat ks s2 (xs.drop (i + 1))) = pat ks [] xs →
            rIndex K (V.ref d) [V.int xs[i]] H2 fun y H3 => ([V.str "new", y] : List V).length ≤ sizeLine ∧ ∀ t, H3 t = none → ∃ l' zs y', V.ref e = .ref l' ∧ [V.ref t] = [y'] ∧ (upd H3 t (.tup [V.str "new", y])) l' = some (.lst zs) ∧ zs.length < sizeLine ∧
              ∃ (l : List AE) (s : List Int) (v : Option V), [some (V.ref a), some (.ref b), some (.ref d), some (.ref e), some (.int xs[i])] = [some (.ref a), some (.ref b), some (.ref d), some (.ref e), v] ∧ Same H (upd (upd H3 t (.tup [V.str "new", y])) l' (.lst (zs ++ [y']))) ∧ (upd (upd H3 t (.tup [V.str "new", y])) l' (.lst (zs ++ [y']))) d = some (.lst (s.map V.int)) ∧ (upd (upd H3 t (.tup [V.str "new", y])) l' (.lst (zs ++ [y']))) e = some (.lst (rf l)) ∧ (∀ q ∈ l, (upd (upd H3 t (.tup [V.str "new", y])) l' (.lst (zs ++ [y']))) q.1 = some (.tup q.2.vs)) ∧ l.map (·.2) ++ pat ks s (xs.drop (i + 1)) = pat ks [] xs ∧ l.length = i + 1 ∧ s.length ≤ i + 1 := by
          intro s2 H2 sm hD hE hq hm ls2 eq2
          refine ⟨d, _, _, s2.idxOf xs[i], _, rfl, rfl, SqL.of hD, rfl, flat_ints _, ix_ints1 hm, eqV_int _, ix_ints2, sz1 (by simp), fun t ht => ?_⟩
          have hE2 := (upd_ne (ne_of_none hE ht) (o := .tup [V.str "new", V.int ((s2.idxOf xs[i] : Nat) : Int)])).trans hE
          refine ⟨e, _, _, rfl, rfl, hE2, sz2 (by rw [rf_len]; omega), ?_⟩
          have neE : ∀ {q : Addr} {ys : List V}, H2 q = some (.tup ys) → q ≠ e := fun h => ne_of h hE (by intro z; cases z)
          have nte : t ≠ e := (ne_of_none hE ht).symm
          refine ⟨l ++ [(t, .n (s2.idxOf xs[i]))], s2, _, rfl, (sm.mut (sm.free ht)).mut he0, (upd_ne nde).trans ((upd_ne (ne_of_none hD ht)).trans hD), by unfold rf; rw [List.map_append]; exact upd_same, fun q hq' => ?_, ?_, by simp [ll], ls2⟩
          · rcases List.mem_append.mp hq' with h | h
            · exact (upd_ne (neE (hq q h))).trans ((upd_ne (ne_of_none (hq q h) ht)).trans (hq q h))
            · simp at h; subst h; exact (upd_ne nte).trans upd_same
          · rw [← eq2, List.map_append, List.append_assoc]; rfl
        refine ⟨_, rfl, _, rfl, d, _, rfl, .inl (SqL.of hD), rfl, flat_ints _, _, rfl, ?_⟩
        rw [inV_ints]
        refine uC (fun cs => ?_) (fun cs => ?_)
        · refine ⟨_, rfl, .inl ⟨rfl, _, SqL.of hD⟩, _, rfl, d, _, _, rfl, rfl, hD, sz2 (by rw [List.length_map]; omega), ?_⟩
          have hD3 : (upd H' d (.lst (s.map V.int ++ [V.int xs[i]]))) d = some (.lst ((s ++ [xs[i]]).map V.int)) := by rw [List.map_append]; exact upd_same
          refine ⟨_, rfl, .inl ⟨rfl, _, SqL.of ((upd_ne nde.symm).trans hE)⟩, _, rfl, .inl ⟨rfl, _, SqL.of hD3⟩, _, rfl, ?_⟩
          exact go (s ++ [xs[i]]) _ (sm.mut hd) hD3 ((upd_ne nde.symm).trans hE) (fun q h => (upd_ne (neD (hq q h))).trans (hq q h)) (by simp) (by rw [List.length_append]; exact Nat.succ_le_succ ls) (by rw [idx_append cs, ← eq, dr, pat_n c cs])
        · refine ⟨_, rfl, .inl ⟨rfl, _, SqL.of hE⟩, _, rfl, .inl ⟨rfl, _, SqL.of hD⟩, _, rfl, ?_⟩
          exact go s H' sm hD hE hq cs (by omega) (by rw [← eq, dr, pat_o c cs])
    · rintro σ H' ⟨l, s, v, rfl, sm, hD, hE, hq, eq, ll, ls⟩
      refine ⟨_, rfl, e, _, rfl, .inl ⟨SqL.of hE, fun t ht => ?_⟩⟩
      refine k t _ (sm.free ht) (sm.mut (sm.free ht)) ⟨l, upd_same, ?_, fun q h => (upd_ne (ne_of_none (hq q h) ht)).trans (hq q h)⟩
      rw [List.length_map, List.drop_length] at eq
      simpa [pat] using eq
theorem ok_l_alike (T : Tx K mg sa sx) : Cal P w K mg base 1 "_law_alike" (spAlike K) := by
  obtain ⟨fd, F⟩ := f_l_alike T
  refine ⟨_, fd, ["_law_one", "_law_two", "_law_kept_here"], fnok F sc_l_alike (fun vs H Q E h => ?_) (fun cdv A outer s H vs Q E hr h => ?_), F.bindsN fun _ _ _ _ _ _ us hl => match us, hl with | [_, _, _], _ => rfl, g__law_alike T, F.kp⟩
  · obtain ⟨a, b, c, xs, ys, ks, rfl, _⟩ := h; rfl
  · obtain ⟨a, b, c, xs, ys, ks, rfl, ha, hb, hc, lxy, lx, k⟩ := h
    refine ⟨_, (pss_cons (ps_for PassesOwn.never rfl (pi_range1 rfl (n_range T) (pa_cons (pe_callB (id := "len") call_len_seq rfl (n_len T) (by decide +kernel) (pa_cons (pv 0) pa_nil)) pa_nil)) (pg_name (i := 3) sc_l_alike.nd rfl (by first | exact Or.inl rfl | exact Or.inr rfl))
      (pss_cons (ps_if (PW.pt (pw_and (PW.pt (pw_or (pt_cmpR op_in_seq (pe_ix ix_list (pv 0) (pv 3) (fun _ _ => rfl)) (pv 2) (by rfl)) (pw_or1 (pt_cmpR op_in_seq (pe_ix ix_list (pv 1) (pv 3) (fun _ _ => rfl)) (pv 2) (by rfl))))) (pw_and1 (pt_cmpR op_ne (pe_ix ix_list (pv 0) (pv 3) (fun _ _ => rfl)) (pe_ix ix_list (pv 1) (pv 3) (fun _ _ => rfl)) (nomark _))))) (pss_one (ps_ret pe_bl)) pss_nil)
      (pss_one (ps_for PassesOwn.never rfl (pi_range1 rfl (n_range T) (pa_cons (pv 3) pa_nil)) (pg_name (i := 4) sc_l_alike.nd rfl (by first | exact Or.inl rfl | exact Or.inr rfl))
        (pss_one (ps_if (pt_cmpR op_ne (pe_cmpR op_eq (pe_ix ix_list (pv 0) (pv 3) (fun _ _ => rfl)) (pe_ix ix_list (pv 0) (pv 4) (fun _ _ => rfl)) (nomark _)) (pe_cmpR op_eq (pe_ix ix_list (pv 1) (pv 3) (fun _ _ => rfl)) (pe_ix ix_list (pv 1) (pv 4) (fun _ _ => rfl)) (nomark _)) (nomark _)) (pss_one (ps_ret pe_bl)) pss_nil))))))
    (pss_one (ps_ret pe_bl))), ?_⟩
    refine ⟨_, rfl, a, _, rfl, .inl (SqL.of ha), _, rfl, by rw [List.length_map]; omega, by rw [List.length_map]; omega, ?_⟩
    rw [List.length_map, Int.toNat_natCast]
    refine for_range (lo := 0) (n := xs.length) (fun i σ H' => ∃ (v w : Option V), σ = [some (.ref a), some (.ref b), some (.ref c), v, w] ∧ H' = H ∧ ∀ k < i, ((g xs k ∈ ks ∨ g ys k ∈ ks) → g xs k = g ys k) ∧ ∀ j < k, (g xs k = g xs j ↔ g ys k = g ys j)) ⟨none, none, rfl, rfl, fun k hk => absurd hk (Nat.not_lt_zero _)⟩ ?_ ?_
    · rintro i σ H' hi ⟨v, w, rfl, rfl, hk⟩
      have hi2 : i < ys.length := lxy ▸ hi
      have xa : atI (xs.map V.int) (0 + (i : Int)) = some (.int (g xs i)) := by rw [Int.zero_add, g_at hi]; exact at_int hi
      have ya : atI (ys.map V.int) (0 + (i : Int)) = some (.int (g ys i)) := by rw [Int.zero_add, g_at hi2]; exact at_int hi2
      refine ⟨_, rfl, _, rfl, a, _, _, _, rfl, rfl, SqL.of ha, xa, _, rfl, c, _, rfl, .inl (SqL.of hc), rfl, flat_ints _, _, rfl, ?_⟩
      rw [inV_ints]
      have bad : ∀ {m : Prop}, (g xs i ∈ ks ∨ g ys i ∈ ks) → ¬ V.int (g xs i) = V.int (g ys i) → Q (.bl false) H' := fun m ne =>
        k false ⟨fun z => (by cases z), fun al => absurd ((al i hi).1 m) fun e => ne (by rw [e])⟩
      refine dC (fun m1 => ⟨_, rfl, _, rfl, a, _, _, _, rfl, rfl, SqL.of ha, xa, _, rfl, _, rfl, b, _, _, _, rfl, rfl, SqL.of hb, ya, rfl, _, rfl, uC (fun ne => bad (m := True) (.inl m1) ne) (fun eq => ?_)⟩) (fun m1 => ⟨_, rfl, _, rfl, b, _, _, _, rfl, rfl, SqL.of hb, ya, _, rfl, c, _, rfl, .inl (SqL.of hc), rfl, flat_ints _, _, rfl, ?_⟩)
      rotate_left
      · rw [inV_ints]
        refine dC (fun m2 => ⟨_, rfl, _, rfl, a, _, _, _, rfl, rfl, SqL.of ha, xa, _, rfl, _, rfl, b, _, _, _, rfl, rfl, SqL.of hb, ya, rfl, _, rfl, uC (fun ne => bad (m := True) (.inr m2) ne) (fun eq => ?_)⟩) (fun m2 => ?_)
        rotate_left
        have hk0 : (g xs i ∈ ks ∨ g ys i ∈ ks) → g xs i = g ys i := fun z => z.elim (fun z => absurd z m1) fun z => absurd z m2
        rotate_left
        have hk0 : (g xs i ∈ ks ∨ g ys i ∈ ks) → g xs i = g ys i := fun _ => vi.mp eq
        rotate_left
        all_goals
          refine ⟨_, rfl, _, rfl, by omega, by omega, ?_⟩
          rw [show ((0 : Int) + (i : Int)).toNat = i from by omega]
          refine for_range (lo := 0) (n := i) (fun j σ H2 => ∃ (w : Option V), σ = [some (.ref a), some (.ref b), some (.ref c), some (.int (0 + (i : Int))), w] ∧ H2 = H' ∧ ∀ j' < j, (g xs i = g xs j' ↔ g ys i = g ys j')) ⟨w, rfl, rfl, fun k hk => absurd hk (Nat.not_lt_zero _)⟩ ?_ ?_
          · rintro j σ H2 hj ⟨w, rfl, rfl, hj2⟩
            have xb : atI (xs.map V.int) (0 + (j : Int)) = some (.int (g xs j)) := by rw [Int.zero_add, g_at (Nat.lt_trans hj hi)]; exact at_int (Nat.lt_trans hj hi)
            have yb : atI (ys.map V.int) (0 + (j : Int)) = some (.int (g ys j)) := by rw [Int.zero_add, g_at (Nat.lt_trans hj hi2)]; exact at_int (Nat.lt_trans hj hi2)
            refine ⟨_, rfl, _, rfl, a, _, _, _, rfl, rfl, SqL.of ha, xa, _, rfl, _, rfl, a, _, _, _, rfl, rfl, SqL.of ha, xb, rfl, _, rfl, _, rfl, b, _, _, _, rfl, rfl, SqL.of hb, ya, _, rfl, _, rfl, b, _, _, _, rfl, rfl, SqL.of hb, yb, rfl, rfl, _, rfl, uC (fun ne => ?_) (fun eq => ?_)⟩
            · exact k false ⟨fun z => (by cases z), fun al => absurd ((al i hi).2 j hj) fun e => ne (bl_iff.mpr e)⟩
            · refine ⟨_, rfl, rfl, fun j' h' => ?_⟩
              rcases Nat.lt_succ_iff_lt_or_eq.mp h' with h | h
              · exact hj2 j' h
              · subst h; exact bl_iff.mp eq
          · rintro σ H2 ⟨w, rfl, rfl, hj2⟩
            refine ⟨_, _, rfl, rfl, fun k' h' => ?_⟩
            rcases Nat.lt_succ_iff_lt_or_eq.mp h' with h | h
            · exact hk k' h
            · subst h; exact ⟨hk0, hj2⟩
      · have hk0 : (g xs i ∈ ks ∨ g ys i ∈ ks) → g xs i = g ys i := fun _ => vi.mp eq
        refine ⟨_, rfl, _, rfl, by omega, by omega, ?_⟩
        rw [show ((0 : Int) + (i : Int)).toNat = i from by omega]
        refine for_range (lo := 0) (n := i) (fun j σ H2 => ∃ (w : Option V), σ = [some (.ref a), some (.ref b), some (.ref c), some (.int (0 + (i : Int))), w] ∧ H2 = H' ∧ ∀ j' < j, (g xs i = g xs j' ↔ g ys i = g ys j')) ⟨w, rfl, rfl, fun k hk => absurd hk (Nat.not_lt_zero _)⟩ ?_ ?_
        · rintro j σ H2 hj ⟨w, rfl, rfl, hj2⟩
          have xb : atI (xs.map V.int) (0 + (j : Int)) = some (.int (g xs j)) := by rw [Int.zero_add, g_at (Nat.lt_trans hj hi)]; exact at_int (Nat.lt_trans hj hi)
          have yb : atI (ys.map V.int) (0 + (j : Int)) = some (.int (g ys j)) := by rw [Int.zero_add, g_at (Nat.lt_trans hj hi2)]; exact at_int (Nat.lt_trans hj hi2)
          refine ⟨_, rfl, _, rfl, a, _, _, _, rfl, rfl, SqL.of ha, xa, _, rfl, _, rfl, a, _, _, _, rfl, rfl, SqL.of ha, xb, rfl, _, rfl, _, rfl, b, _, _, _, rfl, rfl, SqL.of hb, ya, _, rfl, _, rfl, b, _, _, _, rfl, rfl, SqL.of hb, yb, rfl, rfl, _, rfl, uC (fun ne => ?_) (fun eq => ?_)⟩
          · exact k false ⟨fun z => (by cases z), fun al => absurd ((al i hi).2 j hj) fun e => ne (bl_iff.mpr e)⟩
          · refine ⟨_, rfl, rfl, fun j' h' => ?_⟩
            rcases Nat.lt_succ_iff_lt_or_eq.mp h' with h | h
            · exact hj2 j' h
            · subst h; exact bl_iff.mp eq
        · rintro σ H2 ⟨w, rfl, rfl, hj2⟩
          refine ⟨_, _, rfl, rfl, fun k' h' => ?_⟩
          rcases Nat.lt_succ_iff_lt_or_eq.mp h' with h | h
          · exact hk k' h
          · subst h; exact ⟨hk0, hj2⟩
    · rintro σ H' ⟨v, w, rfl, rfl, hk⟩
      exact k true ⟨fun _ => hk, fun _ => rfl⟩
end
end K26
namespace K26
open PySem PySem.Spec PyProof.Rows Cm
open L2 hiding Same
section
variable {P : Program} {w : World} {K : PySem.W.Frag} {mg : Str → Option Value} {base : Heap} {sa : Addr} {sx : List Int}
theorem ok_l_integer (T : Tx K mg sa sx) : Cal P w K mg base 1 "_law_integer" spInt := by
  obtain ⟨fd, F⟩ := f_l_integer T
  refine ⟨_, fd, ["_law_thing"], fnok F sc_l_integer (fun vs H Q E h => ?_) (fun cdv A outer s H vs Q E hr h => ?_), F.bindsN fun _ _ _ _ _ _ us hl => match us, hl with | [_], _ => rfl, g__law_integer T, F.kp⟩
  · obtain ⟨n, rfl, _⟩ := h; rfl
  · obtain ⟨n, rfl, k⟩ := h
    refine ⟨_, (pss_one (ps_ret (pe_and (pe_callB (id := "isinstance") (r := rIsi K) call_isi rfl (n_isinstance T) (by decide +kernel) (pa_cons (pv 0) (pa_cons (pe_bltn (v := .ty "int") rfl (n_int T) (by decide +kernel) rfl) pa_nil))) (pe_one (pe_not (pe_callB (id := "isinstance") (r := rIsi K) call_isi rfl (n_isinstance T) (by decide +kernel) (pa_cons (pv 0) (pa_cons (pe_bltn (v := .ty "bool") rfl (n_bool T) (by decide +kernel) rfl) pa_nil)))))))), ?_⟩
    refine ⟨_, rfl, _, .ty "int", _, .type "int", true, rfl, .ty _, .base (.int _), kit_ty (by decide +kernel), true, rfl, iteT ?_⟩
    exact ⟨_, rfl, _, .ty "bool", _, .type "bool", false, rfl, .ty _, .base (.int _), kit_ty (by decide +kernel), false, rfl, k⟩
theorem ok_l_taken (T : Tx K mg sa sx) : Cal P w K mg base 3 "_law_taken" (spTaken K sa sx) := by
  obtain ⟨fd, F⟩ := f_l_taken T
  refine ⟨_, fd, ["_law_pool", "_law_values_here", "_law_kept_here"], fnok F sc_l_taken (fun vs H Q E h => ?_) (fun cdv A outer s H vs Q E hr h => ?_), F.bindsN fun _ _ _ _ _ _ us hl => match us, hl with | [_, _, _], _ => rfl, g__law_taken T, F.kp⟩
  · obtain ⟨p, a, b, xs, ks, rfl, _⟩ := h; rfl
  · obtain ⟨p, a, b, xs, ks, rfl, ha, lx, hb, hP, k⟩ := h
    refine ⟨_, (pss_cons (ps_set (i := 3) sc_l_taken.nd rfl (by first | exact Or.inl rfl | exact Or.inr rfl) (pe_lst pa_nil))
    (pss_cons (ps_for PassesOwn.never rfl (pi_range1 rfl (n_range T) (pa_cons (pe_callB (id := "len") call_len_seq rfl (n_len T) (by decide +kernel) (pa_cons (pv 1) pa_nil)) pa_nil)) (pg_name (i := 4) sc_l_taken.nd rfl (by first | exact Or.inl rfl | exact Or.inr rfl))
      (pss_one (ps_if (pt_cmpR op_in_seq (pe_ix ix_list (pv 1) (pv 4) (fun _ _ => rfl)) (pv 2) (by rfl)) (pss_one (ps_expr (pe_bm PySem.F.plainAttrs_list PySem.F.slot_list_append PySem.F.type_list_append mt_append (pv 3) (pa_cons (pe_ix ix_list (pv 1) (pv 4) (fun _ _ => rfl)) pa_nil)))) (pss_one (ps_if (pt_cmpR op_in_seq (pe_ix ix_list (pv 1) (pv 4) (fun _ _ => rfl)) (pe_slice sl_list (pv 1) po_none (po_some (pv 4))) (by rfl)) (pss_one (ps_expr (pe_bm PySem.F.plainAttrs_list PySem.F.slot_list_append PySem.F.type_list_append mt_append (pv 3) (pa_cons (pe_ix ix_list (pv 3) (pe_bm PySem.F.plainAttrs_list PySem.F.slot_list_index PySem.F.type_list_index mt_index (pv 1) (pa_cons (pe_ix ix_list (pv 1) (pv 4) (fun _ _ => rfl)) pa_nil)) (fun _ _ => rfl)) pa_nil)))) (pss_cons (ps_set (i := 5) sc_l_taken.nd rfl (by first | exact Or.inl rfl | exact Or.inr rfl) (pe_cal (ok_l_number T) hr (by decide) (pa_cons (pv 0) pa_nil)))
          (pss_cons (ps_for PassesOwn.never rfl (pi_range1 rfl (n_range T) (pa_cons pe_int pa_nil)) (pg_name (i := 6) sc_l_taken.nd rfl (by first | exact Or.inl rfl | exact Or.inr rfl))
            (pss_one (ps_if (PW.pt (pw_or (pt_cmpR op_in_seq (pv 5) (pv 2) (by rfl)) (pw_or1 (pt_cmpR op_in_seq (pv 5) (pv 3) (by rfl))))) (pss_one (ps_set (i := 5) sc_l_taken.nd rfl (by first | exact Or.inl rfl | exact Or.inr rfl) (pe_op op_add (pv 5) pe_int))) pss_nil)))
          (pss_one (ps_expr (pe_bm PySem.F.plainAttrs_list PySem.F.slot_list_append PySem.F.type_list_append mt_append (pv 3) (pa_cons (pv 5) pa_nil)))))))))))
    (pss_one (ps_ret (pv 3))))), ?_⟩
    refine ⟨sz1 (by simp), fun r hr0 => ?_⟩
    have nrp := pool_ne hP hr0
    have fr := pool_fresh hP hr0
    have nap := pool_int hP ha
    have nbp := pool_int hP hb
    have s0 : Same H (upd H r (.lst [])) := Same.new hr0
    refine ⟨_, rfl, a, _, rfl, .inl (SqL.of (s0 _ _ ha)), _, rfl, by rw [List.length_map]; omega, by rw [List.length_map]; omega, ?_⟩
    rw [List.length_map, Int.toNat_natCast]
    refine for_range (lo := 0) (n := xs.length) (fun i σ H' => ∃ (ys : List Int) (v4 v5 v6 : Option V), σ = [some (.ref p), some (.ref a), some (.ref b), some (.ref r), v4, v5, v6] ∧ H' r = some (.lst (ys.map V.int)) ∧ ys.length = i ∧ Kp p H H' ∧ PoolAt K sa sx H' p)
      ⟨[], none, none, none, rfl, upd_same, rfl, s0.kp, pool_new hP hr0⟩ ?_ ?_
    · rintro i σ H' hi ⟨ys, v4, v5, v6, rfl, hR, ly, kk, pp⟩
      have ha1 := kk _ _ nap ha
      have hb1 := kk _ _ nbp hb
      have xa : atI (xs.map V.int) (0 + (i : Int)) = some (.int xs[i]) := by rw [Int.zero_add]; exact at_int hi
      have fin : ∀ (x : Int) (v4 v5 v6 : Option V) (H2 : Hp), Kp p H H2 → PoolAt K sa sx H2 p → H2 r = some (.lst (ys.map V.int)) → ∃ l zs y, V.ref r = .ref l ∧ [V.int x] = [y] ∧ H2 l = some (.lst zs) ∧ zs.length < sizeLine ∧
          ∃ (ys : List Int) (w4 w5 w6 : Option V), [some (V.ref p), some (.ref a), some (.ref b), some (.ref r), v4, v5, v6] = [some (.ref p), some (.ref a), some (.ref b), some (.ref r), w4, w5, w6] ∧ (upd H2 l (.lst (zs ++ [y]))) r = some (.lst (ys.map V.int)) ∧ ys.length = i + 1 ∧ Kp p H (upd H2 l (.lst (zs ++ [y]))) ∧ PoolAt K sa sx (upd H2 l (.lst (zs ++ [y]))) p := by
        intro x v4 v5 v6 H2 k2 p2 hR2
        exact ⟨r, _, _, rfl, rfl, hR2, sz2 (by rw [List.length_map]; omega), ys ++ [x], _, _, _, rfl, by rw [List.map_append]; exact upd_same, by rw [List.length_append, ly]; rfl, kmut k2 hr0, pool_upd p2 nrp fr⟩
      refine ⟨_, rfl, _, rfl, a, _, _, _, rfl, rfl, SqL.of ha1, xa, _, rfl, b, _, rfl, .inl (SqL.of hb1), rfl, flat_ints _, _, rfl, ?_⟩
      rw [inV_ints]
      refine dC (fun m1 => ?_) (fun m1 => ?_)
      · exact ⟨_, rfl, .inl ⟨rfl, _, SqL.of hR⟩, _, rfl, _, rfl, a, _, _, _, rfl, rfl, SqL.of ha1, xa, fin _ _ _ _ _ kk pp hR⟩
      · refine ⟨_, rfl, _, rfl, a, _, _, _, rfl, rfl, SqL.of ha1, xa, _, rfl, _, rfl, _, rfl, a, _, rfl, SqL.of ha1, fun q hq => ?_⟩
        rw [Int.zero_add, cut_take, ← List.map_take]
        have s1 : Same H' (upd H' q (.lst ((xs.take i).map V.int))) := Same.new hq
        have p1 := pool_new (o := .lst ((xs.take i).map V.int)) pp hq
        have k1 := kk.trans (Same.kp (p := p) s1)
        have hR1 := s1 _ _ hR
        refine ⟨q, _, rfl, .inl (SqL.of upd_same), rfl, flat_ints _, _, rfl, ?_⟩
        rw [inV_ints]
        refine dC (fun m2 => ?_) (fun m2 => ?_)
        · -- the first place of the same value
          have hm : xs[i] ∈ xs := List.getElem_mem hi
          have lt : xs.idxOf xs[i] < i := by
            obtain ⟨j, hj, ej⟩ := List.getElem_of_mem m2
            rw [List.length_take] at hj
            rw [List.getElem_take] at ej
            by_cases c : xs.idxOf xs[i] < i
            · exact c
            · exact absurd ej (idx_before (by omega) (by omega))
          refine ⟨_, rfl, .inl ⟨rfl, _, SqL.of hR1⟩, _, rfl, _, rfl, .inl ⟨rfl, _, SqL.of (s1 _ _ ha1)⟩, _, rfl, _, rfl, a, _, _, _, rfl, rfl, SqL.of (s1 _ _ ha1), (by rw [← Int.zero_add (i : Int)]; exact xa), a, _, _, xs.idxOf xs[i], _, rfl, rfl, SqL.of (s1 _ _ ha1), rfl, flat_ints _, ix_ints1 hm, eqV_int _, ix_ints2, ?_⟩
          exact ⟨r, _, _, _, rfl, rfl, SqL.of hR1, at_int (by omega), fin _ _ _ _ _ k1 p1 hR1⟩
        · refine ⟨_, rfl, p, rfl, p1, fun n H3 hn k3 p3 => ⟨20, rfl, by decide, by decide, ?_⟩⟩
          have hR3 := k3 _ _ nrp hR1
          have hb3 := k3 _ _ nbp (s1 _ _ hb1)
          refine for_range (lo := 0) (n := 20) (fun j σ H2 => ∃ (n : Int) (w6 : Option V), σ = [some (.ref p), some (.ref a), some (.ref b), some (.ref r), some (.int (i : Int)), some (.int n), w6] ∧ H2 = H3) ⟨n, _, rfl, rfl⟩ ?_ ?_
          · rintro j σ H2 hj ⟨n, w6, rfl, rfl⟩
            refine ⟨_, rfl, _, rfl, b, _, rfl, .inl (SqL.of hb3), rfl, flat_ints _, _, rfl, ?_⟩
            rw [inV_ints]
            refine dC (fun m3 => ⟨_, rfl, _, _, rfl, rfl, ⟨_, _, rfl, rfl⟩⟩) (fun m3 => ?_)
            refine ⟨_, rfl, _, rfl, r, _, rfl, .inl (SqL.of hR3), rfl, flat_ints _, _, rfl, ?_⟩
            rw [inV_ints]
            exact dC (fun m4 => ⟨_, rfl, _, _, rfl, rfl, ⟨_, _, rfl, rfl⟩⟩) (fun m4 => ⟨_, _, rfl, rfl⟩)
          · rintro σ H2 ⟨n, w6, rfl, rfl⟩
            exact ⟨_, rfl, .inl ⟨rfl, _, SqL.of hR3⟩, _, rfl, fin _ _ _ _ _ (k1.trans k3) p3 hR3⟩
    · rintro σ H' ⟨ys, v4, v5, v6, rfl, hR, ly, kk, pp⟩
      exact ⟨_, rfl, k r ys _ hr0 hR ly kk pp⟩
theorem ok_l_is_realised (T : Tx K mg sa sx) : Cal P w K mg base 2 "_law_is_realised" (spIs K) := by
  obtain ⟨fd, F⟩ := f_l_is_realised T
  refine ⟨_, fd, ["_law_values_here", "_law_entries_here", "_law_kept_here"], fnok F sc_l_is_realised (fun vs H Q E h => ?_) (fun cdv A outer s H vs Q E hr h => ?_), F.bindsN fun _ _ _ _ _ _ us hl => match us, hl with | [_, _, _], _ => rfl, g__law_is_realised T, F.kp⟩
  · obtain ⟨a, e, b, es, ks, c, rfl, _⟩ := h; rfl
  · obtain ⟨a, e, b, es, ks, c, rfl, ha, ⟨l, he, rfl, hq⟩, le, hb, hc, cb, k⟩ := h
    refine ⟨_, (pss_cons (ps_if (PW.pt (pw_or (pt_not (pt_val (pe_callB (id := "isinstance") (r := rIsi K) call_isi rfl (n_isinstance T) (by decide +kernel) (pa_cons (pv 0) (pa_cons (pe_bltn (v := .ty "tuple") rfl (n_tuple T) (by decide +kernel) rfl) pa_nil))))) (pw_or1 (pt_cmpR op_ne (pe_callB (id := "len") call_len_seq rfl (n_len T) (by decide +kernel) (pa_cons (pv 0) pa_nil)) (pe_callB (id := "len") call_len_seq rfl (n_len T) (by decide +kernel) (pa_cons (pv 1) pa_nil)) (nomark _))))) (pss_one (ps_ret pe_bl)) pss_nil)
    (pss_cons (ps_for PassesOwn.never rfl (pi_range1 rfl (n_range T) (pa_cons (pe_callB (id := "len") call_len_seq rfl (n_len T) (by decide +kernel) (pa_cons (pv 0) pa_nil)) pa_nil)) (pg_name (i := 3) sc_l_is_realised.nd rfl (by first | exact Or.inl rfl | exact Or.inr rfl))
      (pss_cons (ps_if (pt_not (pt_val (pe_cal (ok_l_integer T) hr (by decide) (pa_cons (pe_ix ix_tup (pv 0) (pv 3) (fun _ _ => rfl)) pa_nil)))) (pss_one (ps_ret pe_bl)) pss_nil)
      (pss_cons (ps_if (PW.pt (pw_and (pt_cmpR op_eq (pe_ix ix_tup (pe_ix ix_tup (pv 1) (pv 3) (fun _ _ => rfl)) pe_int (fun _ _ => rfl)) pe_str (nomark _)) (pw_and1 (pt_cmpR op_ne (pe_ix ix_tup (pv 0) (pv 3) (fun _ _ => rfl)) (pe_ix ix_tup (pe_ix ix_tup (pv 1) (pv 3) (fun _ _ => rfl)) pe_int (fun _ _ => rfl)) (nomark _))))) (pss_one (ps_ret pe_bl)) pss_nil)
      (pss_one (ps_if (pt_cmpR op_eq (pe_ix ix_tup (pe_ix ix_tup (pv 1) (pv 3) (fun _ _ => rfl)) pe_int (fun _ _ => rfl)) pe_str (nomark _)) (pss_cons (ps_if (PW.pt (pw_or (pt_cmpR op_lt (pe_ix ix_tup (pv 0) (pv 3) (fun _ _ => rfl)) pe_int (nomark _)) (pw_or (pt_cmpR op_gt (pe_ix ix_tup (pv 0) (pv 3) (fun _ _ => rfl)) pe_int (nomark _)) (pw_or1 (pt_cmpR op_in_seq (pe_ix ix_tup (pv 0) (pv 3) (fun _ _ => rfl)) (pv 2) (by rfl)))))) (pss_one (ps_ret pe_bl)) pss_nil)
        (pss_cons (ps_setLc (i := 4) (own := [("_law_n", 5)]) (g := gName 5) rfl sc_l_is_realised.nd rfl rfl (sw_true rfl rfl rfl (by decide +kernel)) (pi_range1 rfl (n_range T) (pa_cons (pe_ix ix_tup (pv 0) (pv 3) (fun _ _ => rfl)) pa_nil)) (blkOk_by (own := [("_law_n", 5)]) (N := ["_law_values_here", "_law_entries_here", "_law_kept_here", "_law_k", "_law_below", "_law_n"]) (sc := defScope s_l_is_realised) (by decide +kernel)) (fun _ _ _ _ _ => pg_name (i := 5) sc_l_is_realised.nd rfl (Or.inl rfl)) (fun _ _ _ _ _ => (pts_one (pt_cmpR (show OpR _ _ (rIn K true) from op_notIn_seq) (pv 5) (pv 2) (by rfl)))) (fun _ _ _ _ _ => (pv 5)))
        (pss_one (ps_if (pt_cmpR op_ne (pe_callB (id := "len") call_len_seq rfl (n_len T) (by decide +kernel) (pa_cons (pv 4) pa_nil)) (pe_ix ix_tup (pe_ix ix_tup (pv 1) (pv 3) (fun _ _ => rfl)) pe_int (fun _ _ => rfl)) (nomark _)) (pss_one (ps_ret pe_bl)) pss_nil)))) pss_nil)))))
    (pss_one (ps_ret pe_bl)))), ?_⟩
    rw [List.length_map] at le
    refine ⟨_, rfl, _, .ty "tuple", _, .type "tuple", true, rfl, .ty _, .base (.tup ha), kit_ty (by decide +kernel), true, rfl, iteF ?_⟩
    refine ⟨_, rfl, a, _, rfl, .inr (SqT.of ha), _, rfl, e, _, rfl, .inr (SqT.of he), rfl, _, rfl, uF (by simp [rf_len]) ?_⟩
    refine ⟨_, rfl, a, _, rfl, .inr (SqT.of ha), _, rfl, by simp only [List.length_map]; omega, by simp only [List.length_map]; omega, ?_⟩
    rw [List.length_map, List.length_map, List.length_map, Int.toNat_natCast]
    have lo : (frs c ks).length = c := frs_len c ks
    refine for_range (lo := 0) (n := l.length) (fun i σ H' => ∃ (v3 v4 : Option V), σ = [some (.ref a), some (.ref e), some (.ref b), v3, v4, none] ∧ Same H H') ⟨none, none, rfl, Cm.Same.refl _⟩ ?_ ?_
    · rintro i σ H' hi ⟨v3, v4, rfl, sm⟩
      have hq1 := sm _ _ (hq l[i] (List.getElem_mem hi))
      have ha1 := sm _ _ ha
      have he1 := sm _ _ he
      have hb1 := sm _ _ hb
      have hqe : l[i].2 ∈ l.map (·.2) := List.mem_map.mpr ⟨l[i], List.getElem_mem hi, rfl⟩
      have wa : atI ((((l.map (·.2)).map (rz (frs c ks))).map V.int)) (0 + (i : Int)) = some (.int (rz (frs c ks) l[i].2)) := by
        rw [Int.zero_add]; exact atI_nat (by simp [hi])
      have ea : atI (rf l) (0 + (i : Int)) = some (.ref l[i].1) := by
        rw [Int.zero_add]; exact atI_nat (by unfold rf; simp [hi])
      refine ⟨_, rfl, _, rfl, a, _, _, _, rfl, rfl, SqT.of ha1, wa, _, rfl, true, rfl, iteF ?_⟩
      cases e2 : l[i].2 with
      | k v =>
        rw [e2] at hq1 wa
        refine ⟨_, rfl, _, rfl, e, _, _, _, rfl, rfl, SqT.of he1, ea, _, _, 0, _, rfl, rfl, SqT.of hq1, rfl, rfl, _, rfl, tT rfl ?_⟩
        refine ⟨_, rfl, _, rfl, a, _, _, _, rfl, rfl, SqT.of ha1, wa, _, rfl, _, rfl, e, _, _, _, rfl, rfl, SqT.of he1, ea, _, _, 1, _, rfl, rfl, SqT.of hq1, rfl, rfl, _, rfl, uF rfl ?_⟩
        refine ⟨_, rfl, _, rfl, e, _, _, _, rfl, rfl, SqT.of he1, ea, _, _, 0, _, rfl, rfl, SqT.of hq1, rfl, rfl, _, rfl, tF (by intro z; have z2 := kn1; injection z with z; rw [z] at z2; simp at z2) ?_⟩
        exact ⟨_, _, rfl, sm⟩
      | n j =>
        rw [e2] at hq1 wa
        have hj : j < c := hc.1 j (e2 ▸ hqe)
        obtain ⟨f1, f2, f3, f4⟩ := frs_at (t := ks) hj
        have wv : rz (frs c ks) (.n j) = g (frs c ks) j := rfl
        rw [wv] at wa
        refine ⟨_, rfl, _, rfl, e, _, _, _, rfl, rfl, SqT.of he1, ea, _, _, 0, _, rfl, rfl, SqT.of hq1, rfl, rfl, _, rfl, tF (by intro z; have z2 := kn2; injection z with z; rw [z] at z2; simp at z2) ?_⟩
        refine ⟨_, rfl, _, rfl, e, _, _, _, rfl, rfl, SqT.of he1, ea, _, _, 0, _, rfl, rfl, SqT.of hq1, rfl, rfl, _, rfl, tT rfl ?_⟩
        refine ⟨_, rfl, _, rfl, a, _, _, _, rfl, rfl, SqT.of ha1, wa, _, _, rfl, rfl, _, rfl, tF (by omega) ?_⟩
        refine ⟨_, rfl, _, rfl, a, _, _, _, rfl, rfl, SqT.of ha1, wa, _, _, rfl, rfl, _, rfl, tF (by omega) ?_⟩
        refine ⟨_, rfl, _, rfl, a, _, _, _, rfl, rfl, SqT.of ha1, wa, _, rfl, b, _, rfl, .inl (SqL.of hb1), rfl, flat_ints _, _, rfl, ?_⟩
        rw [inV_ints]
        refine tF f3 ?_
        refine ⟨_, rfl, _, rfl, a, _, _, _, rfl, rfl, SqT.of ha1, wa, _, rfl, by omega, by omega, fun D hD => ?_⟩
        refine lc_range (lo := 0) (n := (g (frs c ks) j).toNat) (fun i H2 => H2 = upd H' D (.lst ((fre ks i).map V.int))) rfl ?_ ?_
        · rintro i2 H2 hi2 rfl
          refine ⟨rfl, _, rfl, _, rfl, b, _, rfl, .inl (SqL.of ((upd_ne (ne_of_none hb1 hD)).trans hb1)), rfl, flat_ints _, _, rfl, ?_⟩
          rw [inV_ints]
          refine uC (fun c => ?_) (fun c => ?_) <;> rw [Int.zero_add] at c
          · refine ⟨_, rfl, _, upd_same, sz2 ?_, ?_⟩
            · have : (fre ks i2).length ≤ i2 := by unfold fre; exact Nat.le_trans (List.length_filter_le _ _) (by simp)
              rw [List.length_map]; omega
            · rw [upd_upd, fre_succ, if_pos c, List.map_append, Int.zero_add]; rfl
          · show upd H' D _ = upd H' D _
            rw [fre_succ, if_neg (by simpa using c), List.append_nil]
        · rintro H2 rfl
          have s2 : Same H' (upd H' D (.lst ((fre ks (g (frs c ks) j).toNat).map V.int))) := Same.new hD
          refine ⟨_, rfl, D, _, rfl, .inl (SqL.of upd_same), _, rfl, _, rfl, e, _, _, _, rfl, rfl, SqT.of (s2 _ _ he1), ea, _, _, 1, _, rfl, rfl, SqT.of (s2 _ _ hq1), rfl, rfl, _, rfl, uF (by rw [List.length_map, f4]) ?_⟩
          exact ⟨_, _, rfl, sm.trans s2⟩
    · rintro σ H' ⟨v3, v4, rfl, sm⟩
      exact k _ sm
end
end K26
namespace K26
open PySem PySem.Spec PyProof.Rows Cm
open L2 hiding Same
section
variable {P : Program} {w : World} {K : PySem.W.Frag} {mg : Str → Option Value} {base : Heap} {sa : Addr} {sx : List Int}
theorem Tx.cast (T : Tx K mg sa sx) (a : Addr) (x : List Int) : Tx K mg a x := by
  cases T
  constructor <;> assumption
def spLaw (K : PySem.W.Frag) : Sp := fun vs H Q _ => ∃ (a : Addr) (ns : List Int), vs = [.ref a] ∧ SqL K H a (ns.map V.int) ∧ ∀ H', Q (.bl true) H'
theorem ok_law (T0 : Tx K mg sa sx) {fd : FuncData} (F : FunD K "law" "law" (defArgs s_law) (defBody s_law) (defScope s_law) [] [] (He.ga K "law") fd) : FnOk P w K mg base CX0 4 (He.ga K "law") fd ["_law_script"] (spLaw K) := by
  refine fnok F sc_law (fun vs H Q E h => ?_) (fun cdv A outer s H vs Q E hr h => ?_)
  · obtain ⟨a, ns, rfl, _⟩ := h; rfl
  · obtain ⟨a, ns, rfl, hS, k⟩ := h
    have T : Tx K mg a ns := T0.cast a ns
    refine ⟨_, (pss_cons (ps_set (i := 1) sc_law.nd rfl (by first | exact Or.inl rfl | exact Or.inr rfl) (pe_lst (pa_cons (pv 0) (pa_cons pe_int (pa_cons pe_int (pa_cons pe_int pa_nil))))))
    (pss_cons (ps_set (i := 2) sc_law.nd rfl (by first | exact Or.inl rfl | exact Or.inr rfl) (pe_cal (ok_l_kept T) hr (by decide) (pa_cons (pv 1) pa_nil)))
    (pss_cons (ps_set (i := 3) sc_law.nd rfl (by first | exact Or.inl rfl | exact Or.inr rfl) (pe_cal (ok_l_draw T) hr (by decide) (pa_cons (pv 1) (pa_cons pe_int pa_nil))))
    (pss_cons (ps_set (i := 4) sc_law.nd rfl (by first | exact Or.inl rfl | exact Or.inr rfl) (pe_cal (ok_l_values T) hr (by decide) (pa_cons (pv 1) (pa_cons (pv 3) (pa_cons (pv 2) pa_nil)))))
    (pss_cons (ps_set (i := 5) sc_law.nd rfl (by first | exact Or.inl rfl | exact Or.inr rfl) (pe_cal (ok_l_values T) hr (by decide) (pa_cons (pv 1) (pa_cons (pv 3) (pa_cons (pv 2) pa_nil)))))
    (pss_cons (ps_if (pt_cmpR op_eq (pe_cal (ok_l_draw T) hr (by decide) (pa_cons (pv 1) (pa_cons pe_int pa_nil))) pe_int (nomark _)) (pss_one (ps_set (i := 5) sc_law.nd rfl (by first | exact Or.inl rfl | exact Or.inr rfl) (pe_cal (ok_l_taken T) hr (by decide) (pa_cons (pv 1) (pa_cons (pv 4) (pa_cons (pv 2) pa_nil)))))) pss_nil)
    (pss_cons (ps_set (i := 6) sc_law.nd rfl (by first | exact Or.inl rfl | exact Or.inr rfl) (pe_callTy (T := "list") call_list_of rfl (n_list T) (by decide +kernel) (pa_cons (pv 2) pa_nil)))
    (pss_cons (ps_if (pt_cmpR op_eq (pe_cal (ok_l_draw T) hr (by decide) (pa_cons (pv 1) (pa_cons pe_int pa_nil))) pe_int (nomark _)) (pss_one (ps_expr (pe_bm0 PySem.F.plainAttrs_list PySem.F.slot_list_reverse PySem.F.type_list_reverse mt_reverse (pv 6)))) pss_nil)
    (pss_cons (ps_set (i := 7) sc_law.nd rfl (by first | exact Or.inl rfl | exact Or.inr rfl) (pe_cal (ok_patternL T) hr (by decide) (pa_cons (pe_callTy (T := "list") call_list_of rfl (n_list T) (by decide +kernel) (pa_cons (pv 4) pa_nil)) (pa_cons (pv 6) pa_nil))))
    (pss_cons (ps_set (i := 8) sc_law.nd rfl (by first | exact Or.inl rfl | exact Or.inr rfl) (pe_cal (ok_patternT T) hr (by decide) (pa_cons (pe_callTy (T := "tuple") call_tuple_of rfl (n_tuple T) (by decide +kernel) (pa_cons (pv 5) pa_nil)) (pa_cons (pv 2) pa_nil))))
    (pss_cons (ps_if (PW.pt (pw_or (pt_cmpR (op_neD hr.units) (pv 7) (pe_cal (ok_l_entries T) hr (by decide) (pa_cons (pv 4) (pa_cons (pv 2) pa_nil))) (nomark _)) (pw_or1 (pt_cmpR (op_neD hr.units) (pv 8) (pe_cal (ok_l_entries T) hr (by decide) (pa_cons (pv 5) (pa_cons (pv 2) pa_nil))) (nomark _))))) (pss_one (ps_ret pe_bl)) pss_nil)
    (pss_cons (ps_if (PW.pt (pw_or (pt_not (pt_val (pe_callB (id := "isinstance") (r := rIsi K) call_isi rfl (n_isinstance T) (by decide +kernel) (pa_cons (pv 7) (pa_cons (pe_bltn (v := .ty "tuple") rfl (n_tuple T) (by decide +kernel) rfl) pa_nil))))) (pw_or1 (pt_cmpR op_ne (pe_cmpR (op_eqD hr.units) (pv 7) (pv 8) (nomark _)) (pe_cal (ok_l_alike T) hr (by decide) (pa_cons (pv 4) (pa_cons (pv 5) (pa_cons (pv 2) pa_nil)))) (nomark _))))) (pss_one (ps_ret pe_bl)) pss_nil)
    (pss_cons (ps_set (i := 9) sc_law.nd rfl (by first | exact Or.inl rfl | exact Or.inr rfl) (pe_cal (ok_realise T) hr (by decide) (pa_cons (pv 7) (pa_cons (pv 2) pa_nil))))
    (pss_cons (ps_set (i := 10) sc_law.nd rfl (by first | exact Or.inl rfl | exact Or.inr rfl) (pe_cal (ok_realise T) hr (by decide) (pa_cons (pv 8) (pa_cons (pv 6) pa_nil))))
    (pss_cons (ps_if (PW.pt (pw_or (pt_not (pt_val (pe_cal (ok_l_is_realised T) hr (by decide) (pa_cons (pv 9) (pa_cons (pv 7) (pa_cons (pv 2) pa_nil)))))) (pw_or1 (pt_not (pt_val (pe_cal (ok_l_is_realised T) hr (by decide) (pa_cons (pv 10) (pa_cons (pv 8) (pa_cons (pv 2) pa_nil))))))))) (pss_one (ps_ret pe_bl)) pss_nil)
    (pss_one (ps_ret (pe_and (pe_cmpR (op_eqD hr.units) (pe_cal (ok_patternT T) hr (by decide) (pa_cons (pv 9) (pa_cons (pv 2) pa_nil))) (pv 7) (nomark _)) (pe_and (pe_cmpR (op_eqD hr.units) (pe_cal (ok_patternT T) hr (by decide) (pa_cons (pv 10) (pa_cons (pv 2) pa_nil))) (pv 8) (nomark _)) (pe_one (pe_cmpR op_eq (pe_callB (id := "len") call_len_seq rfl (n_len T) (by decide +kernel) (pa_cons (pv 6) pa_nil)) (pe_callB (id := "len") call_len_seq rfl (n_len T) (by decide +kernel) (pa_cons (pv 2) pa_nil)) (nomark _)))))))))))))))))))))), ?_⟩
    -- the pool
    refine ⟨_, rfl, sz1 (by simp), fun p hp => ?_⟩
    have P0 : PoolAt K a ns (upd H p (.lst [V.ref a, V.int 0, V.int 0, V.int 29])) p :=
      ⟨0, 0, 29, upd_same, sq_new hS hp, (sq_new hS hp).elim (fun n => Kp.sl (p := p) (Kp.refl.new hp) n hS) (fun z => z _), by decide, by decide, by decide, by decide⟩
    -- kept, one, two
    refine ⟨_, rfl, p, rfl, P0, fun kA ks H1 hk0 hk lk ndk k1 p1 => ?_⟩
    refine ⟨_, rfl, p, 5, rfl, by decide, io (by decide), p1, fun m H2 m0 m1 k2 p2 => ?_⟩
    have hk := k2 _ _ (pool_int p1 hk) hk
    refine ⟨_, rfl, _, rfl, _, rfl, p, m, kA, ks, rfl, m0, by omega, hk, lk, p2, fun A1 xs H3 h10 h1 lx k3 p3 => ?_⟩
    have hk := k3 _ _ (pool_int p2 hk) hk
    refine ⟨_, rfl, _, rfl, _, rfl, p, m, kA, ks, rfl, m0, by omega, hk, lk, p3, fun A2 ys H4 h20 h2 ly k4 p4 => ?_⟩
    have hk := k4 _ _ (pool_int p3 hk) hk
    have h1 := k4 _ _ (pool_int p3 h1) h1
    have lxy : xs.length = ys.length := lx.trans ly.symm
    have lx4 : xs.length ≤ 4 := by omega
    refine ⟨_, rfl, p, 2, rfl, by decide, io (by decide), p4, fun b1 H5 _ _ k5 p5 => ⟨rfl, _, rfl, dC (fun _ => ?_) (fun _ => ?_)⟩⟩
    focus
      have hk := k5 _ _ (pool_int p4 hk) hk
      have h1 := k5 _ _ (pool_int p4 h1) h1
      refine ⟨_, rfl, _, rfl, _, rfl, p, A1, kA, xs, ks, rfl, h1, by omega, hk, p5, fun A2 ys H5 h20 h2 ly k6 p6 => ?_⟩
      have hk := k6 _ _ (pool_int p5 hk) hk
      have h1 := k6 _ _ (pool_int p5 h1) h1
      have lxy : xs.length = ys.length := ly.symm
      have p5 := p6
    rotate_left
    focus
      have hk := k5 _ _ (pool_int p4 hk) hk
      have h1 := k5 _ _ (pool_int p4 h1) h1
      have h2 := k5 _ _ (pool_int p4 h2) h2
    all_goals
      -- given
      refine ⟨_, rfl, kA, _, rfl, .inl (SqL.of hk), fun gA hg0 => ?_⟩
      have s5 : Same H5 (upd H5 gA (.lst (ks.map V.int))) := Same.new hg0
      have p5' : PoolAt K a ns (upd H5 gA (.lst (ks.map V.int))) p := pool_new p5 hg0
      have hg : (upd H5 gA (.lst (ks.map V.int))) gA = some (.lst (ks.map V.int)) := upd_same
      have nkg : kA ≠ gA := ne_of_none hk hg0
      have n1g : A1 ≠ gA := ne_of_none h1 hg0
      have n2g : A2 ≠ gA := ne_of_none h2 hg0
      refine ⟨_, rfl, p, 2, rfl, by decide, io (by decide), p5', fun b2 H6 _ _ k6 p6 => ?_⟩
      have hk := k6 _ _ (pool_int p5' (s5 _ _ hk)) (s5 _ _ hk)
      have h1 := k6 _ _ (pool_int p5' (s5 _ _ h1)) (s5 _ _ h1)
      have h2 := k6 _ _ (pool_int p5' (s5 _ _ h2)) (s5 _ _ h2)
      have hg := k6 _ _ (pool_int p5' hg) hg
      refine ⟨rfl, _, rfl, dC (fun _ => ?_) (fun _ => ?_)⟩
      focus
        refine ⟨_, rfl, .inl ⟨rfl, _, SqL.of hg⟩, gA, _, rfl, rfl, hg, ?_⟩
        have hk := (upd_ne nkg (o := .lst (ks.map V.int).reverse)).trans hk
        have h1 := (upd_ne n1g (o := .lst (ks.map V.int).reverse)).trans h1
        have h2 := (upd_ne n2g (o := .lst (ks.map V.int).reverse)).trans h2
        have hg : (upd H6 gA (.lst (ks.map V.int).reverse)) gA = some (.lst (ks.reverse.map V.int)) := by rw [List.map_reverse]; exact upd_same
        obtain ⟨gs, eg, gm, gl⟩ : ∃ gs : List Int, gs = ks.reverse ∧ (∀ v, v ∈ gs ↔ v ∈ ks) ∧ gs.length = ks.length := ⟨_, rfl, fun v => List.mem_reverse, List.length_reverse⟩
        rw [← eg] at hg
        generalize upd H6 gA (.lst (ks.map V.int).reverse) = H6 at hk h1 h2 hg ⊢
      rotate_left
      focus
        obtain ⟨gs, eg, gm, gl⟩ : ∃ gs : List Int, gs = ks ∧ (∀ v, v ∈ gs ↔ v ∈ ks) ∧ gs.length = ks.length := ⟨_, rfl, fun v => Iff.rfl, rfl⟩
        rw [← eg] at hg
      all_goals
        -- the patterns
        refine ⟨_, rfl, A1, _, rfl, .inl (SqL.of h1), fun L1 hL1 => ⟨_, rfl, L1, gA, xs, gs, rfl, upd_same, by omega, (Same.new hL1) _ _ hg, fun F H8 hF s8 pF => ?_⟩⟩
        have s8 := (Same.new hL1 (o := .lst (xs.map V.int))).trans s8
        have hk := s8 _ _ hk
        have h1 := s8 _ _ h1
        have h2 := s8 _ _ h2
        have hg := s8 _ _ hg
        refine ⟨_, rfl, A2, _, rfl, .inl ⟨SqL.of h2, fun L2 hL2 => ⟨_, rfl, L2, kA, ys, ks, rfl, upd_same, by omega, (Same.new hL2) _ _ hk, fun S H9 hS s9 pS => ?_⟩⟩⟩
        have s9 := (Same.new hL2 (o := .tup (ys.map V.int))).trans s9
        have hk := s9 _ _ hk
        have h1 := s9 _ _ h1
        have h2 := s9 _ _ h2
        have hg := s9 _ _ hg
        have pF := pF.same s9
        rw [pat_congr gm] at pF
        -- the law's own entries
        refine ⟨_, rfl, _, rfl, _, rfl, A1, kA, xs, ks, rfl, h1, by omega, hk, fun E1 H10 _ s10 pE => ⟨_, _, dp_pat (pF.same s10), dp_pat pE, shp_pat _, shp_pat _, _, rfl, ?_⟩⟩
        rw [eqv_pat]
        refine uF rfl ?_
        have hk := s10 _ _ hk
        have h1 := s10 _ _ h1
        have h2 := s10 _ _ h2
        have hg := s10 _ _ hg
        have pF := pF.same s10
        have pS := pS.same s10
        refine ⟨_, rfl, _, rfl, _, rfl, A2, kA, ys, ks, rfl, h2, by omega, hk, fun E2 H11 _ s11 pE => ⟨_, _, dp_pat (pS.same s11), dp_pat pE, shp_pat _, shp_pat _, _, rfl, ?_⟩⟩
        rw [eqv_pat]
        refine uF rfl ?_
        have hk := s11 _ _ hk
        have h1 := s11 _ _ h1
        have h2 := s11 _ _ h2
        have hg := s11 _ _ hg
        have pF := pF.same s11
        have pS := pS.same s11
        -- equal exactly if alike
        obtain ⟨lF, hFt, eF, qF⟩ := pF
        refine ⟨_, rfl, _, .ty "tuple", _, .type "tuple", true, rfl, .ty _, .base (.tup hFt), kit_ty (by decide +kernel), true, rfl, iteF ?_⟩
        have pF : PatAt H11 F (pat ks [] xs) := ⟨lF, hFt, eF, qF⟩
        refine ⟨_, rfl, _, rfl, _, _, dp_pat pF, dp_pat pS, shp_pat _, shp_pat _, _, rfl, _, rfl, _, rfl, A1, A2, kA, xs, ys, ks, rfl, h1, h2, hk, lxy, by omega, fun r hr => ⟨rfl, _, rfl, uF ?_ ?_⟩⟩
        · congr 1
          rw [eqv_pat]
          apply Bool.eq_iff_iff.mpr
          rw [decide_eq_true_iff, hr]
          exact alike_iff lxy
        -- realised
        have lF : (pat ks [] xs).length ≤ 100 := by rw [pat_len]; omega
        have lS : (pat ks [] ys).length ≤ 100 := by rw [pat_len]; omega
        refine ⟨_, rfl, _, rfl, F, kA, _, ks, rfl, pF, lF, pat_lt (by omega), hk, by omega, fun c1 W1 H12 hc1 hW10 s12 hW1 => ?_⟩
        have hk := s12 _ _ hk
        have hg := s12 _ _ hg
        have pF := pF.same s12
        have pS := pS.same s12
        refine ⟨_, rfl, _, rfl, S, gA, _, gs, rfl, pS, lS, pat_lt (by omega), hg, by omega, fun c2 W2 H13 hc2 hW20 s13 hW2 => ?_⟩
        rw [frs_congr gm gl] at hW2
        have hk := s13 _ _ hk
        have hg := s13 _ _ hg
        have pF := pF.same s13
        have pS := pS.same s13
        have hW1 := s13 _ _ hW1
        have b1 : c1 ≤ 4 := hc1.le (pat_lt (by omega))
        have b2 : c2 ≤ 4 := hc2.le (pat_lt (by omega))
        refine ⟨_, rfl, _, rfl, _, rfl, W1, F, kA, _, ks, c1, rfl, hW1, pF, lF, hk, hc1, by omega, fun H14 s14 => ⟨true, rfl, iteF ?_⟩⟩
        have hk := s14 _ _ hk
        have hg := s14 _ _ hg
        have pF := pF.same s14
        have pS := pS.same s14
        have hW1 := s14 _ _ hW1
        have hW2 := s14 _ _ hW2
        refine ⟨_, rfl, _, rfl, _, rfl, W2, S, kA, _, ks, c2, rfl, hW2, pS, lS, hk, hc2, by omega, fun H15 s15 => ⟨true, rfl, iteF ?_⟩⟩
        have hk := s15 _ _ hk
        have hg := s15 _ _ hg
        have pF := pF.same s15
        have pS := pS.same s15
        have hW1 := s15 _ _ hW1
        have hW2 := s15 _ _ hW2
        -- their patterns
        refine ⟨_, rfl, _, rfl, W1, kA, _, ks, rfl, hW1, by rw [List.length_map]; omega, hk, fun R1 H16 _ s16 pR => ?_⟩
        rw [pat_real hc1] at pR
        refine ⟨_, rfl, _, _, dp_pat pR, dp_pat (pF.same s16), shp_pat _, shp_pat _, _, rfl, ?_⟩
        rw [eqv_pat]
        refine tT rfl ?_
        have hk := s16 _ _ hk
        have hg := s16 _ _ hg
        have pS := pS.same s16
        have hW2 := s16 _ _ hW2
        refine ⟨_, rfl, _, rfl, W2, kA, _, ks, rfl, hW2, by rw [List.length_map]; omega, hk, fun R2 H17 _ s17 pR => ?_⟩
        rw [pat_real hc2] at pR
        refine ⟨_, rfl, _, _, dp_pat pR, dp_pat (pS.same s17), shp_pat _, shp_pat _, _, rfl, ?_⟩
        rw [eqv_pat]
        refine tT rfl ?_
        have hk := s17 _ _ hk
        have hg := s17 _ _ hg
        refine ⟨_, rfl, gA, _, rfl, .inl (SqL.of hg), _, rfl, kA, _, rfl, .inl (SqL.of hk), rfl, ?_⟩
        rw [List.length_map, List.length_map, gl, decide_eq_true rfl]
        exact k _
end
end K26
open PySem PySem.W PySem.Calls PyProof.Rows
theorem PySem.Challenge.cw_quietedition_k26_patterns_and_renaming_holds : PySem.Challenge.rw_quietedition_k26_patterns_and_renaming.Holds := by
  w_on; o_law
  refine HandSHeadRun.head_any (r := OpenLaw.row PySem.Challenge.rw_quietedition_k26_patterns_and_renaming) (q := view (OpenLaw.row PySem.Challenge.rw_quietedition_k26_patterns_and_renaming).prog [16]) (H := K26.hkz 5) (ob := K26.ob) (M := 3000) (loose := K26.loose) (d := HandSHeadRun.topDef (OpenLaw.row PySem.Challenge.rw_quietedition_k26_patterns_and_renaming).prog 16) (kwd := []) K26.ob_eq
    (by kernel_rfl) (fun s => by kernel_rfl) K26.run (by kernel_rfl) (by kernel_rfl) (by kernel_rfl) (by rfl) (by first | assumption | decide +kernel) (by decide +kernel) ⟨rfl, rfl, rfl, rfl, rfl, by decide +kernel⟩ ?hw ?hc
  case hw => w_witness2
  case hc =>
    refine L2.walk_ofE (l := PySem.Challenge.rw_quietedition_k26_patterns_and_renaming) (n := 63) (k := 4) (x := "_law_script") (CX := L2.CX0) rfl (by decide) (by kernel_rfl) ⟨rfl, by decide, by decide⟩ ?F (fun _ _ _ _ z => z)
    intro w mg fa h Y G g0
    obtain ⟨K, KX, c, ck⟩ := Y
    have gl : mg ("law" : PySem.Str) = some (.ref fa) := by
      have nm : (HandSHeadRun.topDef (OpenLaw.row PySem.Challenge.rw_quietedition_k26_patterns_and_renaming).prog 16).name = ("law" : PySem.Str) := by kernel_rfl
      rw [← nm]
      exact g0
    have T : K26.Tx K mg (0 : Addr) [] := K26.tx_of KX G c ck
    obtain ⟨fd, F⟩ := K26.f_law T
    cases gl.symm.trans (K26.g_law T)
    have b := L2.FunD.bindsA (ps := ["_law_script"]) F fun _ _ _ _ _ _ us hl => match us, hl with | [_], _ => rfl
    exact ⟨K, fd, K26.spLaw K, KX, fun s v => b s [v] rfl, fun _ a ns _ _ q => ⟨a, ns, rfl, q, fun _ => rfl⟩, fun _ _ _ => K26.ok_law T F⟩
