import PyProof.Rows.All
import Wide.All
import OpenK.AllK
import Wide.FinOn
import KE.KStateDown
import HandS.ForMost
import HandS.FStr
import HandS.IsInst
import HandS.Wide
import HandS.SlotsOwn
import HandS.Defaults
import HandS.Head0
import HandS.Head1
import HandS.Head2
import HandS.HeadEnd
import HandS.HeadHook1
import HandS.HeadHook2
import HandS.SetKeys
import HandS.SortKw
import KE.DataMinMax
import HandS.Comp
import HandS.ListItems
import HandS.DictTup
import KE.KDictItemsList
import KE.KDictCopyH
import KE.KDictKeyed
import HandS.Style
import HandS.Walk
import PySem.Challenge.RW_quietedition_k47_chains_of_quiet_steps
import HandS.DictComp
import HandS.Conv
import HandS.ExcInit
import HandS.ExcField
import HandS.ExcIs
import HandS.Nested
import KE.KExcSuper
import KE.KSuper
import HandS.FStrTup
import PyProof.ReprHeads
import HandS.ClsMeth
import HandS.Star
import HandS.Deep
import HandS.TupAny
set_option Elab.async false
set_option linter.all false
set_option maxRecDepth 100000
set_option maxHeartbeats 0
namespace Cm
open PySem PySem.Spec PyProof.Rows L2

/-! ### defs, methods, makers of the module, each as one fact -/
/-- the module's name x is a def that keeps sp at level k -/
def Cal (P : Program) (w : World) (K : PySem.W.Frag) (mg : Str → Option Value) (base : Heap) (k : Nat) (x : Str) (sp : Sp) : Prop :=
  ∃ f fd ps, FnOk P w K mg base CX0 k f fd ps sp ∧ Binds K fd ps [] ∧ mg x = some (.ref f) ∧ PySem.W.keepIn K (.ref f) = true
/-- the class at C has the method m, which keeps sp at level k -/
def MCal (P : Program) (w : World) (K : PySem.W.Frag) (mg : Str → Option Value) (base : Heap) (k : Nat) (C : Addr) (m : Str) (sp : Sp) : Prop :=
  Cls K C ∧ ∃ f fd ps, FnOk P w K mg base CX0 k f fd ps sp ∧ Binds K fd ps [] ∧ Meth K C m f
/-- the module's name x is the class at C, whose maker keeps sp; dv fills up -/
def KCal (P : Program) (w : World) (K : PySem.W.Frag) (mg : Str → Option Value) (base : Heap) (k : Nat) (x : Str) (C : Addr) (sp : Sp) (dv : List V) : Prop :=
  mg x = some (.ref C) ∧ ∃ f fd ps ds, Mk K C f ∧ FnOk P w K mg base CX0 k f fd ps sp ∧ Binds K fd ps ds ∧ Vals dv ds
section
variable {X : Cx} {j k : Nat} {x m : Str} {C : Addr} {sp : Sp} {dv : List V} {e o : Expr} {es : List Expr} {p pos apos : Pos} {t : TA} {ta : TE}
theorem pe_cal (c : Cal X.prog X.w X.K X.mg X.base k x sp) (hr : Room j X.A) (hk : k ≤ j) (ha : PA X (e :: es) t) (hg : Gl X x := by rfl) (hd : (x == ("__debug__" : Str)) = false := by decide)
    (h1 : starEach (e :: es) X.env = (false, eval e X.env) :: starEach es X.env := by rfl) (h2 : (backTo pos (starEach es X.env)).any (·.1) = false := by rfl) :
    PE X (.Call (.Name x p) (e :: es) [] pos) (tCall sp [] E0 t) := by
  obtain ⟨f, fd, ps, F, b, g, kp⟩ := c
  exact pe_call F (hr.mono hk) hg g kp b .nil pass0 ha hd h1 h2
theorem pe_kal (c : KCal X.prog X.w X.K X.mg X.base k x C sp dv) (hr : Room j X.A) (hk : k + 1 ≤ j) (ha : PA X (e :: es) t) (hg : Gl X x := by rfl) (hd : (x == ("__debug__" : Str)) = false := by decide)
    (h1 : starEach (e :: es) X.env = (false, eval e X.env) :: starEach es X.env := by rfl) (h2 : (backTo pos (starEach es X.env)).any (·.1) = false := by rfl) :
    PE X (.Call (.Name x p) (e :: es) [] pos) (tMake C sp dv E0 t) := by
  obtain ⟨g, f, fd, ps, ds, M, F, b, v⟩ := c
  exact pe_make M F (hr.mono hk) hg g b v pass0 ha hd h1 h2
theorem pe_mcal0 {pl : Sem Bool} (c : MCal X.prog X.w X.K X.mg X.base k C m sp) (hr : Room j X.A) (hk : k ≤ j) (ho : PE X o ta)
    (ht : eval (.Call (.Attribute o m apos) [] [] pos) X.env = (do
      let ov ← eval o X.env
      standAt apos.atName
      let (f, first) ← holding [ov] (getMethod ov m pl)
      callWith pos f first (backTo pos (starEach [] X.env)) (backToKw pos (keywordEach [] X.env))) := by rfl) : PE X (.Call (.Attribute o m apos) [] [] pos) (tMeth C m sp [] E0 ta tNil) := by
  obtain ⟨cl, f, fd, ps, F, b, M⟩ := c
  exact pe_meth0 ho cl M F (hr.mono hk) b .nil pass0 ht
/-- two readings of one expression -/
theorem PE.or2 {t1 t2 : TE} (h1 : PE X e t1) (h2 : PE X e t2) : PE X e (fun σ H Q => t1 σ H Q ∨ t2 σ H Q) :=
  ⟨fun pins s σ H Q I h => h.elim (h1.run pins s σ H Q I) (h2.run pins s σ H Q I)⟩
end
theorem MCal.mono {P : Program} {w : World} {K : PySem.W.Frag} {mg : Str → Option Value} {base : Heap} {j k : Nat} {C : Addr} {m : Str} {sp : Sp} (h : MCal P w K mg base j C m sp) (l : j ≤ k) : MCal P w K mg base k C m sp :=
  let ⟨c, f, fd, ps, F, r⟩ := h; ⟨c, f, fd, ps, F.mono l, r⟩
/-! ### methods and == of an instance whose class the reading tells -/
def tMG (P : Program) (w : World) (K : PySem.W.Frag) (mg : Str → Option Value) (base : Heap) (k : Nat) (m : Str) (ta : TE) : TE := fun σ H Q =>
  ta σ H fun x H1 => ∃ a C dx fs sp, x = .ref a ∧ H1 a = some (.ins C dx fs) ∧ fs.lookup m = none ∧ MCal P w K mg base k C m sp ∧ sp [.ref a] H1 Q E0
def rOwnG (P : Program) (w : World) (K : PySem.W.Frag) (mg : Str → Option Value) (base : Heap) (k : Nat) (m : Str) : R2 := fun x y H Q =>
  ∃ a C dx fs sp, x = .ref a ∧ H a = some (.ins C dx fs) ∧ MCal P w K mg base k C m sp ∧
    ((∃ b D dy gs, y = .ref b ∧ H b = some (.ins D dy gs) ∧ PySem.W.notFirst K C (.ref D) = true) ∨ (∃ z, y = .str z ∧ PySem.W.notFirst K C (.type "str") = true)) ∧ sp [x, y] H Q E0
section
variable {X : Cx} {j k : Nat} {m : Str} {o : Expr} {pos apos : Pos} {ta : TE}
theorem pe_mG {pl : Sem Bool} (hr : Room j X.A) (hk : k ≤ j) (he : PE X o ta)
    (ht : eval (.Call (.Attribute o m apos) [] [] pos) X.env = (do
      let ov ← eval o X.env
      standAt apos.atName
      let (f, first) ← holding [ov] (getMethod ov m pl)
      callWith pos f first (backTo pos (starEach [] X.env)) (backToKw pos (keywordEach [] X.env))) := by rfl) : PE X (.Call (.Attribute o m apos) [] [] pos) (tMG X.prog X.w X.K X.mg X.base k m ta) := by
  constructor
  intro pins s σ H Q I h
  refine PySem.W.methodCall_KW (pl := pl) (thn (he.run pins s σ H _ I h) ?_) ht
  rintro u s1 ⟨x, H1, I1, rx, a, C, dx, fs, sp, ex, ea, l, ⟨c, f, fd, ps, F, b, M⟩, q⟩
  subst ex
  cases (show u = Value.ref a from rx)
  refine getmeth_ok I1 ea c M l ?_
  exact PySem.W.callWith_K0 (first := [.ref a]) I1.kIn M.kp (run_fn (vs := [.ref a]) F (hr.mono hk) b .nil pass0 I1 (.cons rfl .nil) q)
theorem op_ownG (hr : Room j X.A) (hk : k ≤ j) : OpR X (compareOp .Eq) (rOwnG X.prog X.w X.K X.mg X.base k "__eq__") := by
  intro pins s σ H x y v u Q I rx ry h
  obtain ⟨a, C, dx, fs, sp, ex, ha, ⟨c, f, fd, ps, F, b, M⟩, hy, q⟩ := h
  subst ex
  cases (show v = Value.ref a from rx)
  obtain ⟨mA, O, _⟩ := ins_get I.hok ha
  obtain ⟨od, J, _⟩ := O.look
  obtain ⟨mm, hF⟩ := I.fr
  have go : ∀ tb, PySem.W.Looks (model X.prog X.w) s.heap (typeOf u) tb → PySem.W.notFirst X.K C tb = true → wpAny (model X.prog X.w) X.A (compareOp .Eq (.ref a) u) (EP X pins σ Q) X.xe s := by
    intro tb hb hn
    show wpAny _ X.A (richCompare .Eq (.ref a) u) _ _ s
    refine PySem.W.cmp_K (op := .Eq) hr.units0 hF I.ok.mod.kin J hb hn M.at_ M.fn ?_
    refine wpAny_mono (run_fn (us := [.ref a, u]) (vs := [.ref a, y]) F (hr.mono hk) b .nil pass0 I (.cons rfl (.cons ry .nil)) q) ?_ fun _ _ z => z
    rintro r s' ⟨z, H', I', rz, qz⟩
    exact SlX.cmpback rz ⟨z, H', I', rz, qz⟩
  rcases hy with ⟨b', D, dy, gs, ey, hb, hn⟩ | ⟨z, ey, hn⟩
  · subst ey
    cases (show u = Value.ref b' from ry)
    obtain ⟨mB, O', _⟩ := ins_get I.hok hb
    obtain ⟨od', J', _⟩ := O'.look
    exact go _ J'.type hn
  · subst ey
    obtain ⟨t, e⟩ := (show ∃ t, u = Value.str z t from ry)
    cases e
    exact go (.type "str") .now hn
end
/-! ### an instance of a class without a maker of its own -/
section
variable {X : Cx} {x : Str} {C : Addr} {p pos : Pos}
/-- C() where no __init__ stands but object's -/
def tMk0 (C : Addr) : TE := fun _ H Q => ∀ y dx, H y = none → H dx = none → dx ≠ y → Q (.ref y) (upd (upd H dx (.own y)) y (.ins C dx []))
theorem pe_mk0 (hm : PySem.W.makesIn X.K C = true) (hi : PySem.W.findIn X.K (.ref C) "__init__" = some (some (.builtin "object.__init__"))) (kp : PySem.W.keepIn X.K (.ref C) = true) (g : X.mg x = some (.ref C)) (hg : Gl X x := by rfl)
    (hd : (x == ("__debug__" : Str)) = false := by decide) : PE X (.Call (.Name x p) [] [] pos) (tMk0 C) := by
  constructor
  intro pins s σ H Q I h
  refine wpAny_Call_Name_kw (ld_glob I hg g ?_ hd)
  refine PySem.W.callWith_K0 I.kIn kp ?_
  have I2 := Inv.made (C := C) I
  have q := h (s.heap.objs.size + 1) s.heap.objs.size (I.hok.fresh (Nat.le_succ _)) (I.hok.fresh (Nat.le_refl _)) (Nat.ne_of_lt (Nat.lt_succ_self _))
  have Y := PySem.W.makes_of (M := model X.prog X.w) I.kIn hm
  refine wpAny_call (make_map0 I.kIn hm hi (fun self => PySem.W.Looks.of_pure (PySem.W.oi_bind self)) ?_)
  have e2 : ((s.heap.push PySem.W.emptyDict).push (PySem.W.instObj C s.heap.objs.size)).get? (s.heap.objs.size + 1) = some (PySem.W.instObj C s.heap.objs.size) := by
    have z := Heap.get?_push_size (s.heap.push PySem.W.emptyDict) (o := PySem.W.instObj C s.heap.objs.size) rfl
    rwa [Heap.size_push] at z
  have t1 : PySem.W.Looks (model X.prog X.w) ((s.heap.push PySem.W.emptyDict).push (PySem.W.instObj C s.heap.objs.size)) (typeOf (.ref (s.heap.objs.size + 1))) (.ref C) := (PySem.W.Looks.ld e2).andThen .now
  have t2 : PySem.W.Looks (model X.prog X.w) ((s.heap.push PySem.W.emptyDict).push (PySem.W.instObj C s.heap.objs.size)) (isInstance (.ref (s.heap.objs.size + 1)) (.type "object")) true :=
    t1.andThen (Y.top.keeps fun b o e => Heap.get?_push_of_some _ (Heap.get?_push_of_some _ e))
  refine codeAny_call_builtin PySem.W.oi_plain PySem.W.entry_oi (@PySem.W.check_slot (model X.prog X.w) _ _ _ "object.__init__" "object" "__init__" (.ref (s.heap.objs.size + 1)) [] [] _ PySem.W.oi_kind PySem.W.oi_split t2 (PySem.W.oi_args _) ?_)
  rw [PySem.W.oi_run]
  exact wpAny_pure (And.intro rfl ⟨V.ref _, _, I2, rfl, q⟩)
end
/-! ### a def of the text keeps its promise -/
section
variable {P : Program} {w : World} {K : PySem.W.Frag} {mg : Str → Option Value} {base : Heap} {x qual : Str} {a : Arguments} {b : List Stmt} {sc : Scope} {dv : List V} {f : Addr} {fd : FuncData} {N ps : List Str} {k : Nat} {sp : Sp}
theorem fnok (F : FunD K x qual a b sc dv [] f fd) (S : FnScope N ps sc) (len : ∀ vs H Q E, sp vs H Q E → vs.length = ps.length)
    (body : ∀ (cdv : Value) (A : Around) (outer : List Env) (s : Shared) (H : Hp) (vs : List V) (Q : VK) (E : XK), Room k (A.deeper (envOfC qual sc s.heap.objs.size f cdv)) → sp vs H Q E →
      ∃ t, PSs (cxOf CX0 P w K mg base N qual sc f cdv A outer s H E).nox b t ∧ t { nx := fun _ H' => Q .non H', rt := Q } (start N vs) H) : FnOk P w K mg base CX0 (k + 1) f fd ps sp :=
  F.ok S len fun cdv A outer s H vs Q E hr h => let ⟨t, d, q⟩ := body cdv A outer s H vs Q E hr h; ⟨t, d.nox, q⟩
end
/-! ### heaps: all but p is kept -/
def Kp (p : Addr) (H H' : Hp) : Prop := ∀ a o, a ≠ p → H a = some o → H' a = some o
theorem Kp.refl {p : Addr} {H : Hp} : Kp p H H := fun _ _ _ h => h
theorem Kp.trans {p : Addr} {H H1 H2 : Hp} (a : Kp p H H1) (b : Kp p H1 H2) : Kp p H H2 := fun c o n h => b c o n (a c o n h)
theorem Kp.at {p : Addr} {H H' : Hp} {o : HO} (a : Kp p H H') : Kp p H (upd H' p o) := fun c u n h => by rw [upd_ne n]; exact a c u n h
theorem Kp.new {p q : Addr} {H H' : Hp} {o : HO} (a : Kp p H H') (h : H' q = none) : Kp p H (upd H' q o) := fun c u n e => by
  rw [upd_ne (ne_of_none (a c u n e) h)]; exact a c u n e
theorem Kp.rd {p a : Addr} {H H' : Hp} {u : HO} (k : Kp p H H') (n : a ≠ p) (h : Rd H a u) : Rd H' a u := h.elim (fun h => .inl (k _ _ n h)) fun ⟨o, h⟩ => .inr ⟨o, k _ _ n h⟩
theorem Kp.sl {K : PySem.W.Frag} {p a : Addr} {H H' : Hp} {xs : List V} (k : Kp p H H') (n : a ≠ p) (h : SqL K H a xs) : SqL K H' a xs := h.elim (fun h => .inl (k.rd n h)) .inr
theorem Kp.st {K : PySem.W.Frag} {p a : Addr} {H H' : Hp} {xs : List V} (k : Kp p H H') (n : a ≠ p) (h : SqT K H a xs) : SqT K H' a xs := h.elim (fun h => .inl (k.rd n h)) .inr
theorem sz1 {n : Nat} (h : n ≤ 100000) : n ≤ sizeLine := Nat.le_trans h (by decide)
theorem sz2 {n : Nat} (h : n ≤ 100000) : n < sizeLine := Nat.lt_of_le_of_lt h (by decide)
theorem log_of {i : Int} (h : i.natAbs < 2 ^ 1000) : i.natAbs.log2 < 1920 := Nat.lt_of_lt_of_le (PySem.Flt.log2_lt_of (by decide) h) (by decide)
/-! ### texts -/
theorem app_len (a b : Str) : (a ++ b).length = a.length + b.length := by
  show (a.cps ++ b.cps).size = a.cps.size + b.cps.size
  exact Array.size_append
theorem emp_app (a : Str) : Str.empty ++ a = a := by
  show (⟨#[] ++ a.cps⟩ : Str) = a
  rw [Array.empty_append]
theorem app_assoc (a b c : Str) : a ++ b ++ c = a ++ (b ++ c) := by
  show (⟨a.cps ++ b.cps ++ c.cps⟩ : Str) = ⟨a.cps ++ (b.cps ++ c.cps)⟩
  rw [Array.append_assoc]
/-! ### tests -/
theorem tT {c A B : Prop} [Decidable c] (h : c) (a : A) : if decide c = true then A else B := by
  rw [decide_eq_true h]; exact iteT a
theorem tF {c A B : Prop} [Decidable c] (h : ¬ c) (b : B) : if decide c = true then A else B := by
  rw [decide_eq_false h]; exact iteF b
theorem uT {c A B : Prop} [Decidable c] (h : ¬ c) (a : A) : if (!decide c) = true then A else B := by
  rw [decide_eq_false h]; exact iteT a
theorem uF {c A B : Prop} [Decidable c] (h : c) (b : B) : if (!decide c) = true then A else B := by
  rw [decide_eq_true h]; exact iteF b
theorem bT {b : Bool} {A B : Prop} (h : b = true) (a : A) : if b = true then A else B := by rw [h]; exact iteT a
theorem bF {b : Bool} {A B : Prop} (h : b = false) (a : B) : if b = true then A else B := by rw [h]; exact iteF a
theorem dC {c A B : Prop} [Decidable c] (hT : c → A) (hF : ¬ c → B) : if decide c = true then A else B := by
  by_cases h : c
  · exact tT h (hT h)
  · exact tF h (hF h)
theorem uC {c A B : Prop} [Decidable c] (hT : ¬ c → A) (hF : c → B) : if (!decide c) = true then A else B := by
  by_cases h : c
  · exact uF h (hF h)
  · exact uT h (hT h)
theorem bC {b : Bool} {A B : Prop} (hT : b = true → A) (hF : b = false → B) : if b = true then A else B := by
  cases h : b
  · exact iteF (hF h)
  · exact iteT (hT h)
/-! ### attributes -/
theorem fl1 {f : Str} {v : V} {fs : List (Str × V)} : (putF f v fs).lookup f = some v := by rw [lookup_putF, if_pos rfl]
theorem fl2 {f g : Str} {v : V} {fs : List (Str × V)} {o : Option V} (h : ¬ g = f) (e : fs.lookup g = o) : (putF f v fs).lookup g = o := by rw [lookup_putF, if_neg h, e]
theorem fn0 : ([] : List (Str × V)).length < 1000 := by decide
theorem fnS {f : Str} {v : V} {fs : List (Str × V)} (h : fs.length < 900) : (putF f v fs).length < 1000 := by
  have := length_putF f v fs; omega
theorem fs0 : ([] : List (Str × V)).length < 900 := by decide
theorem fs1 {f : Str} {v : V} {fs : List (Str × V)} (h : fs.length < 800) : (putF f v fs).length < 900 := by
  have := length_putF f v fs; omega
end Cm
namespace Cm
open PySem PySem.Spec PyProof.Rows L2 PySem.W
/-! ### max(ints, default=d) -/
theorem alike_ints (ns : List Int) : AlikeAll (ns.map PyData.int) := by
  constructor
  · intro x hx y hy
    obtain ⟨i, _, rfl⟩ := List.mem_map.mp hx
    obtain ⟨j, _, rfl⟩ := List.mem_map.mp hy
    rfl
  · intro x hx e
    obtain ⟨i, _, rfl⟩ := List.mem_map.mp hx
    cases e
theorem depth_ints : ∀ ns : List Int, PyData.depthAll (ns.map PyData.int) = 0
  | [] => rfl
  | n :: ns => by
    show max (PyData.depth (.int n)) (PyData.depthAll (ns.map PyData.int)) = 0
    rw [depth_ints ns]; rfl
theorem dpAll_ints {K : PySem.W.Frag} {H : Hp} : ∀ ns : List Int, DpAll K H (ns.map V.int) (ns.map PyData.int)
  | [] => .nil
  | n :: ns => .cons (.int n) (dpAll_ints ns)
theorem foldmax (n : Int) : ∀ ns : List Int, ns.foldl max n ∈ n :: ns ∧ ∀ k ∈ n :: ns, k ≤ ns.foldl max n
  | [] => ⟨List.mem_cons_self, fun k hk => by simp at hk; subst hk; exact Int.le_refl _⟩
  | m :: ns => by
    obtain ⟨h1, h2⟩ := foldmax (max n m) ns
    refine ⟨?_, fun k hk => ?_⟩
    · rcases List.mem_cons.mp h1 with e | e
      · rw [List.foldl_cons, e]
        by_cases c : n ≤ m
        · rw [show max n m = m from by omega]; simp
        · rw [show max n m = n from by omega]; simp
      · rw [List.foldl_cons]; exact List.mem_cons_of_mem _ (List.mem_cons_of_mem _ e)
    · rw [List.foldl_cons]
      have h3 := h2 (max n m) List.mem_cons_self
      rcases List.mem_cons.mp hk with e | e
      · omega
      · rcases List.mem_cons.mp e with e | e
        · omega
        · exact h2 k (List.mem_cons_of_mem _ e)
section
variable {X : Cx}
theorem call_maxD (hc : X.calm = true) (hu : X.A.units + 64 < cLine) : CallRK X (.builtin "max") [Str.ofString "default"] (fun vs zs H Q => ∃ (a : Addr) (ns : List Int) (d : V), vs = [V.ref a] ∧ zs = [d] ∧ SqL X.K H a (ns.map V.int) ∧
    (ns = [] → Q d H) ∧ ∀ m, m ∈ ns → (∀ n ∈ ns, n ≤ m) → Q (.int m) H) := by
  intro pins s σ H vs zs us ws Q I r rz h
  obtain ⟨a, ns, d, rfl, rfl, hs, q0, q1⟩ := h
  obtain ⟨u, rfl, e⟩ := vals1 r
  cases (show u = Value.ref a from e)
  obtain ⟨w1, rfl, e1⟩ := vals1 rz
  obtain ⟨its, rv, hl, hz⟩ := I.list hs
  obtain ⟨as, hr⟩ := Dp.readsAll I (ns.map PyData.int) _ its (dpAll_ints ns) rv
  refine max_list_default (vs := its.toArray) (I.ok.hd hc) hl.isList (by simpa using hr) (alike_ints ns) (by rw [depth_ints]; omega) (fun e h' tk k => ?_) (fun y ys i v h' tk bs e hi rd k => ?_)
  · exact ⟨d, H, I.kept k, e1, q0 (by simpa using e)⟩
  · cases ns with
    | nil => cases e
    | cons n ns =>
      obtain ⟨rfl, rfl⟩ : PyData.int n = y ∧ ns.map PyData.int = ys := by simpa using e
      rw [maxD_ints] at rd
      obtain ⟨m1, m2⟩ := foldmax n ns
      cases rd with
      | int _ t => exact ⟨.int (ns.foldl max n), H, I.kept k, ⟨t, rfl⟩, q1 _ m1 m2⟩
end
/-! ### heaps -/
def Same (H H' : Hp) : Prop := ∀ a o, H a = some o → H' a = some o
theorem Same.refl (H : Hp) : Same H H := fun _ _ h => h
theorem Same.trans {H H1 H2 : Hp} (a : Same H H1) (b : Same H1 H2) : Same H H2 := fun c o h => b c o (a c o h)
theorem Same.new {H : Hp} {p : Addr} {o : HO} (h : H p = none) : Same H (upd H p o) := fun c u e => by rw [upd_ne (ne_of_none e h)]; exact e
theorem Same.mut {H H' : Hp} {p : Addr} {o : HO} (s : Same H H') (h : H p = none) : Same H (upd H' p o) := fun c u e => by rw [upd_ne (ne_of_none e h)]; exact s c u e
theorem Same.free {H H' : Hp} {p : Addr} (s : Same H H') (h : H' p = none) : H p = none := by
  cases e : H p with
  | none => rfl
  | some o => rw [s _ _ e] at h; cases h
theorem Same.kp {H H' : Hp} {p : Addr} (s : Same H H') : Kp p H H' := fun a o _ h => s a o h
theorem Same.sl {K : PySem.W.Frag} {a : Addr} {H H' : Hp} {xs : List V} (k : Same H H') (h : SqL K H a xs) : SqL K H' a xs :=
  h.elim (fun h => .inl (h.elim (fun h => .inl (k _ _ h)) fun ⟨o, h⟩ => .inr ⟨o, k _ _ h⟩)) .inr
theorem kmut {H H' : Hp} {p q : Addr} {o : HO} (s : Kp p H H') (h : H q = none) : Kp p H (upd H' q o) := fun c u n e => by rw [upd_ne (ne_of_none e h)]; exact s c u n e
theorem kfree {H H' : Hp} {p q : Addr} (s : Kp p H H') (n : q ≠ p) (h : H' q = none) : H q = none := by
  cases e : H q with
  | none => rfl
  | some o => rw [s _ _ n e] at h; cases h
def IntOk (i : Int) : Prop := i.natAbs ≤ 4000000000
theorem io {m : Int} (h : m.natAbs ≤ 4000000000) : IntOk m := h
/-! ### the pool -/
def PoolAt (K : PySem.W.Frag) (sa : Addr) (sx : List Int) (H : Hp) (p : Addr) : Prop :=
  ∃ (i b s : Int), H p = some (.lst [V.ref sa, V.int i, V.int b, V.int s]) ∧ (sa ≠ p ∨ ∀ H', SqL K H' sa (sx.map V.int)) ∧ SqL K H sa (sx.map V.int) ∧ 0 ≤ i ∧ 0 ≤ b ∧ 0 ≤ s ∧ s < 2147483647
section
variable {K : PySem.W.Frag} {sa : Addr} {sx : List Int}
theorem pool_new {H : Hp} {p q : Addr} {o : HO} (hP : PoolAt K sa sx H p) (hq : H q = none) : PoolAt K sa sx (upd H q o) p := by
  obtain ⟨i, b, s, hp, na, hS, r⟩ := hP
  refine ⟨i, b, s, ?_, na, ?_, r⟩
  · rw [upd_ne (ne_of_none hp hq)]; exact hp
  · exact na.elim (fun n => Kp.sl (p := p) (Kp.refl.new hq) n hS) (fun z => z _)
theorem pool_ne {H : Hp} {p q : Addr} (hP : PoolAt K sa sx H p) (hq : H q = none) : q ≠ p := by
  obtain ⟨i, b, s, hp, _⟩ := hP
  exact (ne_of_none hp hq).symm
theorem sq_new {H : Hp} {a q : Addr} {xs : List V} (h : SqL K H a xs) (hq : H q = none) : a ≠ q ∨ ∀ H', SqL K H' a xs :=
  h.elim (fun r => .inl (r.elim (fun e => ne_of_none e hq) fun ⟨o, e⟩ => ne_of_none e hq)) fun r => .inr fun H' => .inr r
theorem pool_fresh {H : Hp} {p q : Addr} (hP : PoolAt K sa sx H p) (hq : H q = none) : sa ≠ q ∨ ∀ H', SqL K H' sa (sx.map V.int) := by
  obtain ⟨_, _, _, _, _, hS, _⟩ := hP
  exact sq_new hS hq
theorem pool_upd {H : Hp} {p D : Addr} {o : HO} (hP : PoolAt K sa sx H p) (nD : D ≠ p) (hd : sa ≠ D ∨ ∀ H', SqL K H' sa (sx.map V.int)) : PoolAt K sa sx (upd H D o) p := by
  obtain ⟨i, b, s, hp, na, hS, r⟩ := hP
  refine ⟨i, b, s, (upd_ne nD.symm).trans hp, na, ?_, r⟩
  rcases hd with n | z
  · refine hS.elim (fun q => .inl ?_) .inr
    exact q.elim (fun e => .inl ((upd_ne n).trans e)) fun ⟨o', e⟩ => .inr ⟨o', (upd_ne n).trans e⟩
  · exact z _
theorem pool_same {H H' : Hp} {p : Addr} (hP : PoolAt K sa sx H p) (s : Same H H') : PoolAt K sa sx H' p := by
  obtain ⟨i, b, s', hp, na, hS, r⟩ := hP
  exact ⟨i, b, s', s _ _ hp, na, s.sl hS, r⟩
/-- a list of ints is not the pool -/
theorem pool_int {H : Hp} {p a : Addr} {ns : List Int} (hP : PoolAt K sa sx H p) (ha : H a = some (.lst (ns.map V.int))) : a ≠ p := by
  rintro rfl
  obtain ⟨i, b, s, hp, _⟩ := hP
  rw [ha] at hp
  cases ns with
  | nil => cases hp
  | cons n ns => cases hp
theorem pool_tup {H : Hp} {p a : Addr} {xs : List V} (hP : PoolAt K sa sx H p) (ha : H a = some (.tup xs)) : a ≠ p := by
  rintro rfl
  obtain ⟨i, b, s, hp, _⟩ := hP
  rw [ha] at hp
  cases hp
theorem wd {m : Int} (h0 : 0 < m) (h : IntOk m) : CDivW 0 m := wide_div h0 (b := 40) (Nat.lt_of_le_of_lt h (by decide)) (by decide) (by decide)
end
/-! ### ints in lists -/
theorem at_int {ns : List Int} {i : Nat} (h : i < ns.length) : atI (ns.map V.int) ((i : Nat) : Int) = some (.int ns[i]) := atI_nat (by rw [List.getElem?_map, List.getElem?_eq_getElem h]; rfl)
theorem at_int' {ns : List Int} {k : Int} (h0 : 0 ≤ k) (h : k.toNat < ns.length) : atI (ns.map V.int) k = some (.int ns[k.toNat]) := by
  have e : k = ((k.toNat : Nat) : Int) := by omega
  exact (congrArg (atI (ns.map V.int)) e).trans (at_int h)
theorem map_at {ns : List Int} {i : Nat} {x : V} (h : (ns.map V.int)[i]? = some x) : ∃ hi : i < ns.length, x = .int ns[i] := by
  rw [List.getElem?_map] at h
  cases e : ns[i]? with
  | none => rw [e] at h; cases h
  | some n =>
    rw [e] at h
    obtain ⟨hi, e2⟩ := List.getElem?_eq_some_iff.mp e
    exact ⟨hi, by rw [e2]; exact (Option.some.inj h).symm⟩
theorem flat_ints (ns : List Int) : (ns.map V.int).all flatV = true := by
  rw [List.all_eq_true]
  intro x hx
  obtain ⟨i, _, rfl⟩ := List.mem_map.mp hx
  rfl
theorem inV_ints (n : Int) (ns : List Int) : inV (.int n) (ns.map V.int) = decide (n ∈ ns) := by
  unfold inV
  rw [List.any_map]
  apply Bool.eq_iff_iff.mpr
  rw [List.any_eq_true, decide_eq_true_iff]
  exact ⟨fun ⟨x, hx, e⟩ => by have e2 : x = n := by simpa [eqV] using e
                              subst e2; exact hx, fun h => ⟨n, h, by simp [eqV]⟩⟩
theorem tru_ints {K : PySem.W.Frag} {H : Hp} {a : Addr} {ns : List Int} (h : H a = some (.lst (ns.map V.int))) : TruV K (.ref a) H (!ns.isEmpty) :=
  .inl ⟨_, SqL.of h, by cases ns <;> rfl⟩
/-- a test by a list's truth -/
theorem lC {ns : List Int} {A B : Prop} (hT : ns ≠ [] → A) (hF : ns = [] → B) : if (!ns.isEmpty) = true then A else B := by
  cases ns with
  | nil => exact iteF (hF rfl)
  | cons n ns => exact iteT (hT (by simp))
end Cm
namespace Cm
open PySem PySem.Spec PyProof.Rows L2
/-! ### patterns -/
inductive En
  | k (v : Int)
  | n (i : Nat)
  deriving DecidableEq
def En.vs : En → List V
  | .k v => [.str "kept", .int v]
  | .n i => [.str "new", .int (i : Int)]
def En.ds : En → List PyData
  | .k v => [.str "kept", .int v]
  | .n i => [.str "new", .int (i : Int)]
def pat (kept : List Int) : List Int → List Int → List En
  | _, [] => []
  | s, v :: vs => if v ∈ kept then .k v :: pat kept s vs else if v ∈ s then .n (s.idxOf v) :: pat kept s vs else .n s.length :: pat kept (s ++ [v]) vs
theorem pat_k {kept s : List Int} {v : Int} {vs : List Int} (h : v ∈ kept) : pat kept s (v :: vs) = .k v :: pat kept s vs := by rw [pat, if_pos h]
theorem pat_o {kept s : List Int} {v : Int} {vs : List Int} (h : v ∉ kept) (h2 : v ∈ s) : pat kept s (v :: vs) = .n (s.idxOf v) :: pat kept s vs := by rw [pat, if_neg h, if_pos h2]
theorem pat_n {kept s : List Int} {v : Int} {vs : List Int} (h : v ∉ kept) (h2 : v ∉ s) : pat kept s (v :: vs) = .n s.length :: pat kept (s ++ [v]) vs := by rw [pat, if_neg h, if_neg h2]
theorem pat_len (kept : List Int) : ∀ (xs s : List Int), (pat kept s xs).length = xs.length
  | [], _ => rfl
  | v :: vs, s => by
    by_cases h : v ∈ kept
    · rw [pat_k h, List.length_cons, pat_len kept vs s, List.length_cons]
    · by_cases h2 : v ∈ s
      · rw [pat_o h h2, List.length_cons, pat_len kept vs s, List.length_cons]
      · rw [pat_n h h2, List.length_cons, pat_len kept vs _, List.length_cons]
theorem pat_congr {k1 k2 : List Int} (h : ∀ v, v ∈ k1 ↔ v ∈ k2) : ∀ (xs s : List Int), pat k1 s xs = pat k2 s xs
  | [], _ => rfl
  | v :: vs, s => by
    by_cases h1 : v ∈ k1
    · rw [pat_k h1, pat_k ((h v).mp h1), pat_congr h vs s]
    · have h2 : v ∉ k2 := fun z => h1 ((h v).mpr z)
      by_cases h3 : v ∈ s
      · rw [pat_o h1 h3, pat_o h2 h3, pat_congr h vs s]
      · rw [pat_n h1 h3, pat_n h2 h3, pat_congr h vs _]
/-! ### first places -/
theorem idx_lt {v : Int} {s : List Int} (h : v ∈ s) : s.idxOf v < s.length := List.idxOf_lt_length_of_mem h
theorem idx_at {v : Int} {s : List Int} (h : v ∈ s) : s[s.idxOf v]'(idx_lt h) = v := List.getElem_idxOf (idx_lt h)
theorem idx_before {v : Int} : ∀ {s : List Int} {m : Nat} (hm : m < s.length), m < s.idxOf v → s[m] ≠ v
  | [], m, hm, _ => absurd hm (Nat.not_lt_zero _)
  | x :: s, m, hm, h => by
    rw [List.idxOf_cons] at h
    by_cases e : x = v
    · subst e; simp at h
    · have e2 : (x == v) = false := beq_false_of_ne e
      rw [e2] at h
      cases m with
      | zero => exact e
      | succ m =>
        rw [List.getElem_cons_succ]
        exact idx_before (by simpa using hm) (by simpa using h)
theorem idx_append {v : Int} {s : List Int} (h : v ∉ s) : (s ++ [v]).idxOf v = s.length := by
  induction s with
  | nil => simp
  | cons x s ih =>
    have h1 : x ≠ v := fun e => h (e ▸ List.mem_cons_self)
    have h2 : v ∉ s := fun e => h (List.mem_cons_of_mem _ e)
    rw [List.cons_append, List.idxOf_cons, beq_false_of_ne h1]
    simp [ih h2]
theorem idx_nodup {s : List Int} (nd : s.Nodup) {i : Nat} (h : i < s.length) : s.idxOf s[i] = i := by
  have hm := List.getElem_mem h
  have h1 := idx_lt hm
  have h2 := idx_at hm
  by_cases c : s.idxOf s[i] = i
  · exact c
  · exact absurd h2 (by
      have := List.pairwise_iff_getElem.mp nd
      rcases Nat.lt_or_gt_of_ne c with l | l
      · exact this _ _ h1 h l
      · exact (this _ _ h h1 l).symm)
/-! ### when two patterns are equal -/
abbrev g (l : List Int) (k : Nat) : Int := l.getD k 0
theorem g_at {l : List Int} {k : Nat} (h : k < l.length) : g l k = l[k] := by
  show l.getD k 0 = _
  rw [List.getD_eq_getElem?_getD, List.getElem?_eq_getElem h]; rfl
theorem g_mem {l : List Int} {k : Nat} (h : k < l.length) : g l k ∈ l := by rw [g_at h]; exact List.getElem_mem h
def Alk (kept s1 s2 xs ys : List Int) : Prop := ∀ k < xs.length, ((g xs k ∈ kept ∨ g ys k ∈ kept) → g xs k = g ys k) ∧ (∀ i < s1.length, (g xs k = g s1 i ↔ g ys k = g s2 i)) ∧ ∀ j < k, (g xs k = g xs j ↔ g ys k = g ys j)
theorem g_app1 {s : List Int} {x : Int} {i : Nat} (h : i < s.length) : g (s ++ [x]) i = g s i := by
  rw [g_at (by rw [List.length_append]; exact Nat.lt_add_right _ h), g_at h, List.getElem_append_left h]
theorem g_app2 {s : List Int} {x : Int} : g (s ++ [x]) s.length = x := by
  rw [g_at (by simp)]; simp
theorem alk_cons {kept s1 s2 xs ys : List Int} {x y : Int} (hl : s1.length = s2.length) :
    Alk kept s1 s2 (x :: xs) (y :: ys) ↔ (((x ∈ kept ∨ y ∈ kept) → x = y) ∧ ∀ i < s1.length, (x = g s1 i ↔ y = g s2 i)) ∧ Alk kept (s1 ++ [x]) (s2 ++ [y]) xs ys := by
  constructor
  · intro h
    obtain ⟨a, b, _⟩ := h 0 (Nat.zero_lt_succ _)
    refine ⟨⟨a, b⟩, fun k hk => ?_⟩
    obtain ⟨a2, b2, c2⟩ := h (k + 1) (Nat.succ_lt_succ hk)
    refine ⟨a2, fun i hi => ?_, fun j hj => c2 (j + 1) (Nat.succ_lt_succ hj)⟩
    rw [List.length_append] at hi
    by_cases c : i < s1.length
    · rw [g_app1 c, g_app1 (hl ▸ c)]; exact b2 i c
    · have e : i = s1.length := by simp at hi; omega
      subst e
      rw [g_app2, show g (s2 ++ [y]) s1.length = y from by rw [hl]; exact g_app2]
      exact c2 0 (Nat.zero_lt_succ _)
  · rintro ⟨⟨a, b⟩, h⟩ k hk
    cases k with
    | zero => exact ⟨a, b, fun j hj => absurd hj (Nat.not_lt_zero _)⟩
    | succ k =>
      obtain ⟨a2, b2, c2⟩ := h k (Nat.lt_of_succ_lt_succ hk)
      refine ⟨a2, fun i hi => ?_, fun j hj => ?_⟩
      · have z := b2 i (by rw [List.length_append]; exact Nat.lt_add_right _ hi)
        rw [g_app1 hi, g_app1 (hl ▸ hi)] at z; exact z
      · cases j with
        | zero =>
          have z := b2 s1.length (by simp)
          rw [g_app2, show g (s2 ++ [y]) s1.length = y from by rw [hl]; exact g_app2] at z
          exact z
        | succ j => exact c2 j (Nat.lt_of_succ_lt_succ hj)
/-- one more seen value that says nothing new -/
theorem alk_drop {kept s1 s2 xs ys : List Int} {x y : Int} (hl : s1.length = s2.length) (h : ∀ k < xs.length, ((g xs k ∈ kept ∨ g ys k ∈ kept) → g xs k = g ys k) → (∀ i < s1.length, (g xs k = g s1 i ↔ g ys k = g s2 i)) → (g xs k = x ↔ g ys k = y)) :
    Alk kept (s1 ++ [x]) (s2 ++ [y]) xs ys ↔ Alk kept s1 s2 xs ys := by
  constructor
  · intro q k hk
    obtain ⟨a, b, c⟩ := q k hk
    refine ⟨a, fun i hi => ?_, c⟩
    have z := b i (by rw [List.length_append]; exact Nat.lt_add_right _ hi)
    rw [g_app1 hi, g_app1 (hl ▸ hi)] at z; exact z
  · intro q k hk
    obtain ⟨a, b, c⟩ := q k hk
    refine ⟨a, fun i hi => ?_, c⟩
    rw [List.length_append] at hi
    by_cases d : i < s1.length
    · rw [g_app1 d, g_app1 (hl ▸ d)]; exact b i d
    · have e : i = s1.length := by simp at hi; omega
      subst e
      rw [g_app2, show g (s2 ++ [y]) s1.length = y from by rw [hl]; exact g_app2]
      exact h k hk a b
theorem nodup_app {s : List Int} {x : Int} (nd : s.Nodup) (h : x ∉ s) : (s ++ [x]).Nodup := by
  rw [List.nodup_append]
  exact ⟨nd, by simp, fun a ha b hb => by simp at hb; subst hb; exact fun e => h (e ▸ ha)⟩
theorem pat_eq (kept : List Int) : ∀ (xs ys s1 s2 : List Int), xs.length = ys.length → s1.length = s2.length → s1.Nodup → s2.Nodup → (∀ v ∈ s1, v ∉ kept) → (∀ v ∈ s2, v ∉ kept) → (pat kept s1 xs = pat kept s2 ys ↔ Alk kept s1 s2 xs ys)
  | [], [], s1, s2, _, _, _, _, _, _ => ⟨fun _ k hk => absurd hk (Nat.not_lt_zero _), fun _ => rfl⟩
  | [], _ :: _, _, _, h, _, _, _, _, _ => by cases h
  | _ :: _, [], _, _, h, _, _, _, _, _ => by cases h
  | x :: xs, y :: ys, s1, s2, hxy, hl, n1, n2, d1, d2 => by
    have hxy' : xs.length = ys.length := by simpa using hxy
    have ih := pat_eq kept xs ys s1 s2 hxy' hl n1 n2 d1 d2
    rw [alk_cons hl]
    by_cases hx : x ∈ kept
    · by_cases hy : y ∈ kept
      · rw [pat_k hx, pat_k hy]
        constructor
        · intro e
          injection e with e1 e2
          injection e1 with e1
          refine ⟨⟨fun _ => e1, fun i hi => ⟨fun z => ?_, fun z => ?_⟩⟩, (alk_drop hl fun k hk a b => ⟨fun z => ?_, fun z => ?_⟩).mpr (ih.mp e2)⟩
          · exact absurd hx (by rw [z]; exact d1 _ (g_mem hi))
          · exact absurd hy (by rw [z]; exact d2 _ (g_mem (hl ▸ hi)))
          · rw [← a (.inl (by rw [z]; exact hx)), z, e1]
          · rw [a (.inr (by rw [z]; exact hy)), z, e1]
        · rintro ⟨⟨a, b⟩, q⟩
          have e1 := a (.inl hx)
          have q2 := (alk_drop hl fun k hk a b => ⟨fun z => by rw [← a (.inl (by rw [z]; exact hx)), z, e1], fun z => by rw [a (.inr (by rw [z]; exact hy)), z, e1]⟩).mp q
          rw [ih.mpr q2, e1]
      · constructor
        · intro e
          rw [pat_k hx] at e
          by_cases h2 : y ∈ s2
          · rw [pat_o hy h2] at e; injection e with e1; cases e1
          · rw [pat_n hy h2] at e; injection e with e1; cases e1
        · rintro ⟨⟨a, _⟩, _⟩
          exact absurd (a (.inl hx) ▸ hx) hy
    · by_cases hy : y ∈ kept
      · constructor
        · intro e
          rw [pat_k hy] at e
          by_cases h2 : x ∈ s1
          · rw [pat_o hx h2] at e; injection e with e1; cases e1
          · rw [pat_n hx h2] at e; injection e with e1; cases e1
        · rintro ⟨⟨a, _⟩, _⟩
          exact absurd (a (.inr hy) ▸ hy) hx
      · have hk : (x ∈ kept ∨ y ∈ kept) → x = y := fun z => z.elim (fun z => absurd z hx) fun z => absurd z hy
        by_cases h1 : x ∈ s1
        · have l1 := idx_lt h1
          have a1 := idx_at h1
          by_cases h2 : y ∈ s2
          · have l2 := idx_lt h2
            have a2 := idx_at h2
            rw [pat_o hx h1, pat_o hy h2]
            have dr : (∀ i < s1.length, (x = g s1 i ↔ y = g s2 i)) → (Alk kept (s1 ++ [x]) (s2 ++ [y]) xs ys ↔ Alk kept s1 s2 xs ys) := fun b => alk_drop hl fun k hk a c => by
              have z := c _ l1
              have e1 : g s1 (s1.idxOf x) = x := by rw [g_at l1, a1]
              have e2 : g s2 (s1.idxOf x) = y := ((b _ l1).mp e1.symm).symm
              rw [e1, e2] at z; exact z
            constructor
            · intro e
              injection e with e1 e2
              injection e1 with e1
              have b : ∀ i < s1.length, (x = g s1 i ↔ y = g s2 i) := fun i hi => ⟨fun z => by
                have : s1.idxOf x = i := by rw [z, g_at hi]; exact idx_nodup n1 hi
                rw [← this, e1, g_at l2, a2], fun z => by
                have : s2.idxOf y = i := by rw [z, g_at (hl ▸ hi)]; exact idx_nodup n2 (hl ▸ hi)
                rw [← this, ← e1, g_at l1, a1]⟩
              exact ⟨⟨hk, b⟩, (dr b).mpr (ih.mp e2)⟩
            · rintro ⟨⟨_, b⟩, q⟩
              have e1 : s1.idxOf x = s2.idxOf y := by
                have z := (b _ l1).mp (by rw [g_at l1, a1])
                have l3 : s1.idxOf x < s2.length := hl ▸ l1
                rw [z, g_at l3]; exact (idx_nodup n2 l3).symm
              rw [ih.mpr ((dr b).mp q), e1]
          · constructor
            · intro e
              rw [pat_o hx h1, pat_n hy h2] at e
              injection e with e1; injection e1 with e1; omega
            · rintro ⟨⟨_, b⟩, _⟩
              have z := (b _ l1).mp (by rw [g_at l1, a1])
              exact absurd (by rw [z]; exact g_mem (hl ▸ l1)) h2
        · by_cases h2 : y ∈ s2
          · have l2 := idx_lt h2
            have a2 := idx_at h2
            constructor
            · intro e
              rw [pat_n hx h1, pat_o hy h2] at e
              injection e with e1; injection e1 with e1; omega
            · rintro ⟨⟨_, b⟩, _⟩
              have z := (b _ (hl ▸ l2)).mpr (by rw [g_at l2, a2])
              exact absurd (by rw [z]; exact g_mem (hl ▸ l2)) h1
          · rw [pat_n hx h1, pat_n hy h2]
            have ih2 := pat_eq kept xs ys (s1 ++ [x]) (s2 ++ [y]) hxy' (by simp [hl]) (nodup_app n1 h1) (nodup_app n2 h2)
              (fun v hv => by rcases List.mem_append.mp hv with h | h; · exact d1 v h
                              · simp at h; subst h; exact hx)
              (fun v hv => by rcases List.mem_append.mp hv with h | h; · exact d2 v h
                              · simp at h; subst h; exact hy)
            constructor
            · intro e
              injection e with e1 e2
              exact ⟨⟨hk, fun i hi => ⟨fun z => absurd (by rw [z]; exact g_mem hi) h1, fun z => absurd (by rw [z]; exact g_mem (hl ▸ hi)) h2⟩⟩, ih2.mp e2⟩
            · rintro ⟨_, q⟩
              rw [ih2.mpr q, hl]
def Alike (kept xs ys : List Int) : Prop := ∀ k < xs.length, ((g xs k ∈ kept ∨ g ys k ∈ kept) → g xs k = g ys k) ∧ ∀ j < k, (g xs k = g xs j ↔ g ys k = g ys j)
theorem alike_iff {kept xs ys : List Int} (h : xs.length = ys.length) : pat kept [] xs = pat kept [] ys ↔ Alike kept xs ys := by
  rw [pat_eq kept xs ys [] [] h rfl List.nodup_nil List.nodup_nil (fun v hv => absurd hv (by simp)) (fun v hv => absurd hv (by simp))]
  exact ⟨fun q k hk => let ⟨a, _, c⟩ := q k hk; ⟨a, c⟩, fun q k hk => let ⟨a, c⟩ := q k hk; ⟨a, fun i hi => absurd hi (Nat.not_lt_zero _), c⟩⟩
/-! ### what no kept one is -/
def fre (t : List Int) (n : Nat) : List Int := ((List.range n).map fun i : Nat => (i : Int)).filter fun v => decide (v ∉ t)
theorem fre_succ (t : List Int) (n : Nat) : fre t (n + 1) = fre t n ++ (if (n : Int) ∉ t then [(n : Int)] else []) := by
  unfold fre
  rw [List.range_succ, List.map_append, List.filter_append]
  by_cases h : (n : Int) ∈ t <;> simp [h]
theorem fre_at (t : List Int) : ∀ (n i : Nat) (v : Int), (fre t n)[i]? = some v → 0 ≤ v ∧ v < n ∧ v ∉ t ∧ (fre t v.toNat).length = i
  | 0, i, v, h => by simp [fre] at h
  | n + 1, i, v, h => by
    rw [fre_succ] at h
    by_cases c : i < (fre t n).length
    · rw [List.getElem?_append_left c] at h
      obtain ⟨a, b, r⟩ := fre_at t n i v h
      exact ⟨a, by omega, r⟩
    · rw [List.getElem?_append_right (by omega)] at h
      by_cases hn : (n : Int) ∈ t
      · simp [hn] at h
      · rw [if_pos hn] at h
        have h2 : i - (fre t n).length = 0 := by
          have := (List.getElem?_eq_some_iff.mp h).1
          simpa using this
        rw [h2] at h
        have e : (n : Int) = v := by simpa using h
        subst e
        exact ⟨by omega, by omega, hn, by rw [Int.toNat_natCast]; omega⟩
theorem filter_ne {l : List Int} (a : Int) (h : l.Pairwise (· < ·)) : l.length ≤ (l.filter fun v => decide (v ≠ a)).length + 1 := by
  induction l with
  | nil => simp
  | cons x l ih =>
    obtain ⟨h1, h2⟩ := List.pairwise_cons.mp h
    by_cases e : x = a
    · subst e
      have : l.filter (fun v => decide (v ≠ x)) = l := List.filter_eq_self.mpr fun v hv => decide_eq_true (by have := h1 v hv; omega)
      rw [List.filter_cons_of_neg (by simp), this]; simp
    · rw [List.filter_cons_of_pos (by simpa using e), List.length_cons, List.length_cons]
      have := ih h2
      omega
theorem fre_sorted (t : List Int) (n : Nat) : (fre t n).Pairwise (· < ·) := by
  unfold fre
  refine List.Pairwise.filter _ (List.Pairwise.map _ (fun a b h => ?_) List.pairwise_lt_range)
  exact Int.ofNat_lt.mpr h
theorem fre_len (t : List Int) (n : Nat) : n ≤ (fre t n).length + t.length := by
  induction t with
  | nil =>
    have e : fre [] n = (List.range n).map fun i : Nat => (i : Int) := List.filter_eq_self.mpr fun v _ => by simp
    rw [e]; simp
  | cons a t ih =>
    have e : fre (a :: t) n = (fre t n).filter fun v => decide (v ≠ a) := by
      unfold fre
      rw [List.filter_filter]
      congr 1
      funext v
      by_cases h1 : v = a <;> by_cases h2 : v ∈ t <;> simp [h1, h2]
    have := filter_ne a (fre_sorted t n)
    rw [e, List.length_cons]
    omega
def frs (c : Nat) (t : List Int) : List Int := (fre t (c + t.length)).take c
theorem frs_len (c : Nat) (t : List Int) : (frs c t).length = c := by
  have := fre_len t (c + t.length)
  unfold frs
  rw [List.length_take]
  omega
theorem frs_at {c : Nat} {t : List Int} {i : Nat} (h : i < c) : 0 ≤ g (frs c t) i ∧ g (frs c t) i < (c + t.length : Nat) ∧ g (frs c t) i ∉ t ∧ (fre t (g (frs c t) i).toNat).length = i := by
  have h2 : i < (frs c t).length := by rw [frs_len]; exact h
  rw [g_at h2]
  refine fre_at t (c + t.length) i _ ?_
  have e : (frs c t)[i]? = some (frs c t)[i] := List.getElem?_eq_getElem h2
  unfold frs at e
  rw [List.getElem?_take_of_lt h] at e
  exact e
theorem frs_nodup (c : Nat) (t : List Int) : (frs c t).Nodup :=
  ((fre_sorted t (c + t.length)).take (i := c)).imp fun h => Int.ne_of_lt h
/-! ### what realises a pattern -/
def rz (o : List Int) : En → Int
  | .k v => v
  | .n i => g o i
theorem pat_rz {kept o : List Int} (nd : o.Nodup) (dj : ∀ v ∈ o, v ∉ kept) : ∀ (xs s : List Int), (∀ i, En.n i ∈ pat kept s xs → i < o.length) → s.length ≤ o.length → pat kept (o.take s.length) ((pat kept s xs).map (rz o)) = pat kept s xs
  | [], _, _, _ => rfl
  | v :: vs, s, hb, hs => by
    by_cases h : v ∈ kept
    · rw [pat_k h] at hb ⊢
      rw [List.map_cons, show rz o (.k v) = v from rfl, pat_k h, pat_rz nd dj vs s (fun i hi => hb i (List.mem_cons_of_mem _ hi)) hs]
    · by_cases h2 : v ∈ s
      · rw [pat_o h h2] at hb ⊢
        have l := idx_lt h2
        have lo : s.idxOf v < o.length := Nat.lt_of_lt_of_le l hs
        have l2 : s.idxOf v < (o.take s.length).length := by rw [List.length_take]; omega
        have e : rz o (.n (s.idxOf v)) = (o.take s.length)[s.idxOf v] := by
          show g o _ = _
          rw [g_at lo, List.getElem_take]
        rw [List.map_cons, e, pat_o (by rw [List.getElem_take]; exact dj _ (List.getElem_mem _)) (List.getElem_mem _), idx_nodup (nd.take) l2, pat_rz nd dj vs s (fun i hi => hb i (List.mem_cons_of_mem _ hi)) hs]
      · rw [pat_n h h2] at hb ⊢
        have lo : s.length < o.length := hb _ List.mem_cons_self
        have e : rz o (.n s.length) = o[s.length] := g_at lo
        have nm : o[s.length] ∉ o.take s.length := by
          intro z
          obtain ⟨j, hj, ej⟩ := List.getElem_of_mem z
          rw [List.getElem_take] at ej
          rw [List.length_take] at hj
          exact List.pairwise_iff_getElem.mp nd j s.length (by omega) lo (by omega) ej
        rw [List.map_cons, e, pat_n (dj _ (List.getElem_mem _)) nm, List.length_take, Nat.min_eq_left hs]
        have e2 : o.take s.length ++ [o[s.length]] = o.take (s ++ [v]).length := by
          rw [List.length_append, List.length_singleton, List.take_add_one, List.getElem?_eq_getElem lo]; rfl
        rw [e2, pat_rz nd dj vs (s ++ [v]) (fun i hi => hb i (List.mem_cons_of_mem _ hi)) (by rw [List.length_append]; exact lo)]
/-- a class's number is below the count of classes so far -/
theorem pat_bound (kept : List Int) : ∀ (xs s : List Int) (i : Nat), En.n i ∈ pat kept s xs → i < s.length + xs.length
  | [], _, _, h => by simp [pat] at h
  | v :: vs, s, i, h => by
    by_cases h1 : v ∈ kept
    · rw [pat_k h1] at h
      rcases List.mem_cons.mp h with e | e
      · cases e
      · have := pat_bound kept vs s i e; simp; omega
    · by_cases h2 : v ∈ s
      · rw [pat_o h1 h2] at h
        rcases List.mem_cons.mp h with e | e
        · injection e with e; have := idx_lt h2; simp; omega
        · have := pat_bound kept vs s i e; simp; omega
      · rw [pat_n h1 h2] at h
        rcases List.mem_cons.mp h with e | e
        · injection e with e; simp; omega
        · have := pat_bound kept vs (s ++ [v]) i e
          simp at this ⊢; omega
theorem pat_kept (kept : List Int) : ∀ (xs s : List Int) (v : Int), En.k v ∈ pat kept s xs → v ∈ kept
  | [], _, _, h => by simp [pat] at h
  | x :: xs, s, v, h => by
    by_cases h1 : x ∈ kept
    · rw [pat_k h1] at h
      rcases List.mem_cons.mp h with e | e
      · injection e with e; subst e; exact h1
      · exact pat_kept kept xs s v e
    · by_cases h2 : x ∈ s
      · rw [pat_o h1 h2] at h
        rcases List.mem_cons.mp h with e | e
        · cases e
        · exact pat_kept kept xs s v e
      · rw [pat_n h1 h2] at h
        rcases List.mem_cons.mp h with e | e
        · cases e
        · exact pat_kept kept xs _ v e
end Cm
namespace Cm
open PySem PySem.Spec PyProof.Rows L2
theorem cut_take (xs : List V) (c : Nat) : cutV xs none (some (c : Int)) = xs.take c := by
  unfold cutV
  rw [HT.sIx_none, HT.sIx_nat, Nat.sub_zero, List.drop_zero]
  exact (List.take_eq_take_min ..).symm
/-! ### patterns in the heap -/
abbrev AE := Addr × En
def rf (l : List AE) : List V := l.map fun q => V.ref q.1
def PatAt (H : Hp) (a : Addr) (es : List En) : Prop := ∃ l : List AE, H a = some (.tup (rf l)) ∧ l.map (·.2) = es ∧ ∀ q ∈ l, H q.1 = some (.tup q.2.vs)
theorem PatAt.same {H H' : Hp} {a : Addr} {es : List En} (s : Same H H') (h : PatAt H a es) : PatAt H' a es :=
  let ⟨l, h1, h2, h3⟩ := h; ⟨l, s _ _ h1, h2, fun q hq => s _ _ (h3 q hq)⟩
theorem PatAt.kp {K : PySem.W.Frag} {sa : Addr} {sx : List Int} {H H' : Hp} {a p : Addr} {es : List En} (hP : PoolAt K sa sx H p) (s : Kp p H H') (h : PatAt H a es) : PatAt H' a es :=
  let ⟨l, h1, h2, h3⟩ := h; ⟨l, s _ _ (pool_tup hP h1) h1, h2, fun q hq => s _ _ (pool_tup hP (h3 q hq)) (h3 q hq)⟩
/-- the dict of the classes -/
def kvs (s : List Int) : List (Key × V) := s.zipIdx.map fun q => (Sum.inl q.1, V.int (q.2 : Int))
theorem kvs_len (s : List Int) : (kvs s).length = s.length := by unfold kvs; rw [List.length_map, List.length_zipIdx]
theorem val_from (v : Int) : ∀ (s : List Int) (n : Nat), valV ((s.zipIdx n).map fun q => ((Sum.inl q.1 : Key), V.int (q.2 : Int))) (Sum.inl v) = if v ∈ s then some (.int ((n + s.idxOf v : Nat) : Int)) else none
  | [], n => rfl
  | x :: s, n => by
    rw [List.zipIdx_cons, List.map_cons]
    by_cases e : x = v
    · subst e
      have : valV (((Sum.inl x : Key), V.int (n : Int)) :: ((s.zipIdx (n + 1)).map fun q => ((Sum.inl q.1 : Key), V.int (q.2 : Int)))) (Sum.inl x) = some (V.int (n : Int)) := by
        unfold valV
        rw [List.find?_cons_of_pos (by simp)]; rfl
      rw [this, if_pos List.mem_cons_self, List.idxOf_cons_self]; rfl
    · have : valV (((Sum.inl x : Key), V.int (n : Int)) :: ((s.zipIdx (n + 1)).map fun q => ((Sum.inl q.1 : Key), V.int (q.2 : Int)))) (Sum.inl v) = valV ((s.zipIdx (n + 1)).map fun q => ((Sum.inl q.1 : Key), V.int (q.2 : Int))) (Sum.inl v) := by
        unfold valV
        rw [List.find?_cons_of_neg (by simpa using e)]
      rw [this, val_from v s (n + 1), List.idxOf_cons, beq_false_of_ne e]
      by_cases h : v ∈ s
      · rw [if_pos h, if_pos (List.mem_cons_of_mem _ h)]
        show some (V.int ((n + 1 + s.idxOf v : Nat) : Int)) = some (V.int ((n + (s.idxOf v + 1) : Nat) : Int))
        rw [show n + 1 + s.idxOf v = n + (s.idxOf v + 1) from by omega]
      · rw [if_neg h, if_neg (by simp [h]; exact fun z => e z.symm)]
theorem val_kvs (v : Int) (s : List Int) : valV (kvs s) (Sum.inl v) = if v ∈ s then some (.int ((s.idxOf v : Nat) : Int)) else none := by
  have := val_from v s 0
  rw [Nat.zero_add] at this
  exact this
theorem put_kvs {v : Int} {s : List Int} (h : v ∉ s) : putK (kvs s) (Sum.inl v) (V.int ((kvs s).length : Int)) = kvs (s ++ [v]) := by
  have e : ((kvs s).any fun kv => decide (kv.1 = (Sum.inl v : Key))) = false := by
    rw [List.any_eq_false]
    intro kv hk
    unfold kvs at hk
    obtain ⟨q, hq, rfl⟩ := List.mem_map.mp hk
    have hm : q.1 ∈ s := by
      have := List.mem_zipIdx hq
      rw [this.2.2]
      exact List.getElem_mem _
    intro z
    have z2 : q.1 = v := by simpa using z
    exact h (z2 ▸ hm)
  unfold putK
  rw [e, if_neg (by simp), kvs_len]
  unfold kvs
  rw [List.zipIdx_append, List.map_append]
  simp
/-! ### data of patterns -/
theorem kn1 : (("kept" : Str) == "new") = false := by decide +kernel
theorem kn2 : (("new" : Str) == "kept") = false := by decide +kernel
theorem eqv_en (a b : En) : PyData.eqv (.tuple a.ds) (.tuple b.ds) = decide (a = b) := by
  cases a with
  | k v => cases b with
    | k w => simp [En.ds, PyData.eqv, PyData.eqvAll]; apply Bool.eq_iff_iff.mpr; simp
    | n j => simp [En.ds, PyData.eqv, PyData.eqvAll, kn1]
  | n i => cases b with
    | k w => simp [En.ds, PyData.eqv, PyData.eqvAll, kn2]
    | n j => simp [En.ds, PyData.eqv, PyData.eqvAll]; apply Bool.eq_iff_iff.mpr; simp [Int.ofNat_inj]
def pds (es : List En) : List PyData := es.map fun e => .tuple e.ds
theorem eqv_pds : ∀ a b : List En, PyData.eqvAll (pds a) (pds b) = decide (a = b)
  | [], [] => rfl
  | [], b :: bs => by simp [pds, PyData.eqvAll]
  | a :: as, [] => by simp [pds, PyData.eqvAll]
  | a :: as, b :: bs => by
    show (PyData.eqv (.tuple a.ds) (.tuple b.ds) && PyData.eqvAll (pds as) (pds bs)) = _
    rw [eqv_en, eqv_pds as bs]
    apply Bool.eq_iff_iff.mpr
    simp
theorem eqv_pat (a b : List En) : PyData.eqv (.tuple (pds a)) (.tuple (pds b)) = decide (a = b) := by
  rw [PyData.eqv]; exact eqv_pds a b
theorem dp_en {K : PySem.W.Frag} {H : Hp} {a : Addr} {e : En} (h : H a = some (.tup e.vs)) : Dp K H (.ref a) (.tuple e.ds) := by
  cases e with
  | k v => exact .tup (SqT.of h) (.cons (.str _) (.cons (.int _) .nil))
  | n i => exact .tup (SqT.of h) (.cons (.str _) (.cons (.int _) .nil))
theorem dp_ens {K : PySem.W.Frag} {H : Hp} : ∀ (l : List AE), (∀ q ∈ l, H q.1 = some (.tup q.2.vs)) → DpAll K H (rf l) (pds (l.map (·.2)))
  | [], _ => .nil
  | q :: l, h => .cons (dp_en (h q List.mem_cons_self)) (dp_ens l fun r hr => h r (List.mem_cons_of_mem _ hr))
theorem dp_pat {K : PySem.W.Frag} {H : Hp} {a : Addr} {es : List En} (h : PatAt H a es) : Dp K H (.ref a) (.tuple (pds es)) := by
  obtain ⟨l, h1, rfl, h3⟩ := h
  exact .tup (SqT.of h1) (dp_ens l h3)
theorem lay_en (e : En) : PyData.canLay0 (.tuple e.ds) = true ∧ (PyData.tuple e.ds).depth = 1 := by
  have k : ∀ x : Str, PyData.strOk x = true → PyData.canLay0 (.str x) = true := fun x h => by rw [PyData.canLay0]; exact h
  cases e with
  | k v =>
    refine ⟨?_, rfl⟩
    rw [PyData.canLay0]
    show (PyData.canLay0 (.str "kept") && (PyData.canLay0 (.int v) && true)) = true
    rw [k "kept" (by decide +kernel)]; rfl
  | n i =>
    refine ⟨?_, rfl⟩
    rw [PyData.canLay0]
    show (PyData.canLay0 (.str "new") && (PyData.canLay0 (.int i) && true)) = true
    rw [k "new" (by decide +kernel)]; rfl
theorem lay_pds : ∀ es : List En, PyData.canLayAll0 (pds es) = true ∧ PyData.depthAll (pds es) ≤ 1
  | [] => ⟨rfl, Nat.zero_le _⟩
  | e :: es => by
    obtain ⟨h1, h2⟩ := lay_pds es
    obtain ⟨h3, h4⟩ := lay_en e
    constructor
    · show (PyData.canLay0 (.tuple e.ds) && PyData.canLayAll0 (pds es)) = true
      rw [h1, h3]; rfl
    · show max (PyData.tuple e.ds).depth (PyData.depthAll (pds es)) ≤ 1
      omega
theorem shp_pat (es : List En) : SeqAt.shaped (.tuple (pds es)) = true := by
  obtain ⟨h1, h2⟩ := lay_pds es
  unfold SeqAt.shaped
  rw [PyData.canLay0, h1, PyData.depth]
  have : PyData.depthAll (pds es) + 1 ≤ 64 := by omega
  simpa using this
end Cm
namespace Cm
open PySem PySem.Spec PyProof.Rows
open L2 hiding Same
theorem ix_ints1 {v : Int} {s : List Int} (h : v ∈ s) : (s.map V.int)[s.idxOf v]? = some (.int v) := by
  rw [List.getElem?_map, List.getElem?_eq_getElem (idx_lt h), idx_at h]; rfl
theorem ix_ints2 {v : Int} {s : List Int} (m : Nat) (z : V) (hm : m < s.idxOf v) (h : (s.map V.int)[m]? = some z) : eqV z (.int v) = false := by
  obtain ⟨hi, rfl⟩ := map_at h
  have := idx_before hi hm
  simpa [eqV] using this
theorem eqV_int (v : Int) : eqV (.int v) (.int v) = true := by simp [eqV]
theorem rf_len (l : List AE) : (rf l).length = l.length := List.length_map ..
theorem rf_at {l : List AE} {i : Nat} {x : V} (h : (rf l)[i]? = some x) : ∃ q, l[i]? = some q ∧ V.ref q.1 = x := by
  unfold rf at h
  rw [List.getElem?_map] at h
  cases e : l[i]? with
  | none => rw [e] at h; cases h
  | some q => rw [e] at h; exact ⟨q, rfl, Option.some.inj h⟩
def clsF (q : AE) : Option Int := match q.2 with
  | .k _ => none
  | .n i => some (i + 1 : Int)
def cls (l : List AE) : List Int := l.filterMap clsF
theorem cls_take {l : List AE} {i : Nat} {q : AE} (h : l[i]? = some q) : cls (l.take (i + 1)) = cls (l.take i) ++ (clsF q).toList := by
  unfold cls
  rw [List.take_add_one, h, List.filterMap_append]
  have e : List.filterMap clsF (some q).toList = (clsF q).toList := by
    show List.filterMap clsF [q] = _
    cases e : clsF q <;> simp [e]
  rw [e]
theorem cls_len (l : List AE) : (cls l).length ≤ l.length := List.length_filterMap_le ..
/-- how many classes there are -/
def CntOk (c : Nat) (es : List En) : Prop := (∀ i, En.n i ∈ es → i < c) ∧ (c = 0 ∨ En.n (c - 1) ∈ es)
theorem CntOk.le {c n : Nat} {es : List En} (h : CntOk c es) (b : ∀ i, En.n i ∈ es → i < n) : c ≤ n := by
  rcases h.2 with e | e
  · omega
  · have := b _ e; omega
theorem cnt_nil {l : List AE} (h : cls l = []) : CntOk 0 (l.map (·.2)) := by
  refine ⟨fun i hi => ?_, .inl rfl⟩
  obtain ⟨q, hq, e⟩ := List.mem_map.mp hi
  have : (i + 1 : Int) ∈ cls l := List.mem_filterMap.mpr ⟨q, hq, by unfold clsF; rw [e]⟩
  rw [h] at this; cases this
theorem cnt_max {l : List AE} {m : Int} (h : m ∈ cls l) (hm : ∀ n ∈ cls l, n ≤ m) : ∃ c : Nat, m = c ∧ CntOk c (l.map (·.2)) := by
  obtain ⟨q, hq, e⟩ := List.mem_filterMap.mp h
  unfold clsF at e
  cases e2 : q.2 with
  | k v => rw [e2] at e; cases e
  | n i =>
    rw [e2] at e
    have e3 : (i + 1 : Int) = m := Option.some.inj e
    refine ⟨i + 1, by omega, fun j hj => ?_, .inr (List.mem_map.mpr ⟨q, hq, e2⟩)⟩
    obtain ⟨r, hr, e4⟩ := List.mem_map.mp hj
    have := hm (j + 1 : Int) (List.mem_filterMap.mpr ⟨r, hr, by unfold clsF; rw [e4]⟩)
    omega
end Cm
namespace Cm
open PySem PySem.Spec PyProof.Rows
open L2 hiding Same
theorem vi {a b : Int} : V.int a = V.int b ↔ a = b := ⟨fun h => by injection h, fun h => by rw [h]⟩
theorem bl_iff {a b c d : Int} : V.bl (decide (V.int a = V.int b)) = V.bl (decide (V.int c = V.int d)) ↔ (a = b ↔ c = d) := by
  constructor
  · intro h
    injection h with h
    have := decide_eq_decide.mp h
    rwa [vi, vi] at this
  · intro h
    congr 1
    exact decide_eq_decide.mpr (by rwa [vi, vi])
end Cm
namespace Cm
open PySem PySem.Spec PyProof.Rows
open L2 hiding Same
theorem fre_congr {t1 t2 : List Int} (h : ∀ v, v ∈ t1 ↔ v ∈ t2) (n : Nat) : fre t1 n = fre t2 n := by
  unfold fre
  congr 1
  funext v
  exact decide_eq_decide.mpr (not_congr (h v))
theorem frs_congr {t1 t2 : List Int} (h : ∀ v, v ∈ t1 ↔ v ∈ t2) (hl : t1.length = t2.length) (c : Nat) : frs c t1 = frs c t2 := by
  unfold frs
  rw [fre_congr h, hl]
theorem frs_dj {c : Nat} {t : List Int} : ∀ v ∈ frs c t, v ∉ t := fun v hv => by
  obtain ⟨i, hi, rfl⟩ := List.getElem_of_mem hv
  have := (frs_at (t := t) (show i < c by rwa [frs_len] at hi)).2.2.1
  rwa [g_at hi] at this
/-- the pattern of what realises a pattern -/
theorem pat_real {kept xs : List Int} {c : Nat} (h : CntOk c (pat kept [] xs)) : pat kept [] ((pat kept [] xs).map (rz (frs c kept))) = pat kept [] xs := by
  have := pat_rz (kept := kept) (o := frs c kept) (frs_nodup c kept) frs_dj xs [] (fun i hi => by rw [frs_len]; exact h.1 i hi) (Nat.zero_le _)
  simpa using this
theorem pat_lt {kept xs : List Int} {n : Nat} (h : xs.length ≤ n) : ∀ i, En.n i ∈ pat kept [] xs → i < n := fun i hi => by
  have := pat_bound kept xs [] i hi
  simp at this; omega
end Cm
/-! list comprehensions of any number of clauses: each clause's loop over what its turn does -/
namespace Cm
open PySem PySem.Spec PyProof.Rows
open L2 hiding Same
/-- the turn of clause k, another clause behind it -/
def TurnMid (C : Expr) (k : Nat) (t i i1 : Expr) (ifs : List Expr) : Prop := ∀ (it acc : Value) (env : Env),
  compTurn C k it acc env = (do
      standAt i.pos
      match ← pyNext it with
      | none => pure (.done .next)
      | some v =>
        letOwnedTupleGo t it v
        assign t env v
        let mut ok := true
        for c in ifs do
          if ok then ok ← isTrue c env (eval c env)
        if ok then
          let x ← eval i1 env
          standAt i1.pos
          let x ← foldedSetIterable i1 env x
          let _ ← runOwn (.compStart C (k + 1) (← holding [x] (pyIter x)) acc env) env
        again (.compLoop C k it acc env))
/-- the turn of the last clause -/
def TurnEnd (C : Expr) (k : Nat) (t i elt : Expr) (ifs : List Expr) : Prop := ∀ (it acc : Value) (env : Env),
  compTurn C k it acc env = (do
      standAt i.pos
      match ← pyNext it with
      | none => pure (.done .next)
      | some v =>
        letOwnedTupleGo t it v
        assign t env v
        let mut ok := true
        for c in ifs do
          if ok then ok ← isTrue c env (eval c env)
        if ok then
          (do let _ ← call (.builtin "list.append") [acc, ← eval elt env])
        again (.compLoop C k it acc env))
/-- a later clause begins -/
def StartOk (C : Expr) (k : Nat) : Prop := ∀ {prog : Program} {w : World} {A : Around} {R : Result → Shared → Prop} {s : Shared} {it acc : Value} {env : Env},
  codeAny (model prog w) A (.compLoop C k it acc env) R s →
  wpAny (model prog w) A (pyIter it) (fun it' s' => codeAny (model prog w) A (.compLoop C k it' acc env) R s') (notedBy (model prog w) A env fun x s' => R (.error x) s') s →
  codeAny (model prog w) A (.compStart C k it acc env) R s
section
variable {prog : Program} {w : World} {A : Around} {R : Result → Shared → Prop} {s : Shared} {t i i1 elt el : Expr} {gs : List Comprehension} {scope : Scope} {pos : Pos} {ifs : List Expr} {k : Nat} {it acc : Value} {env : Env}
theorem loop_mid (hk : TurnMid (.ListComp el gs scope pos) k t i i1 ifs) (hs : ∀ x, foldedSetIterable i1 env x = pure x) (I : Nat → Shared → Prop)
    (turn : ∀ n s, I n s → wpAny (model prog w) A (pyNext it) (fun r s₁ => match r with
      | none => R (.ok .next) s₁
      | some v => wpAny (model prog w) A (letOwnedTupleGo t it v) (fun _ s₁' => wpAny (model prog w) A (assign t env v) (fun _ s₂ =>
          wpAny (model prog w) A (forIn ifs true fun c r => if r = true then do let ok ← isTrue c env (eval c env); pure (ForInStep.yield ok) else pure (ForInStep.yield r)) (fun ok s₃ =>
            if ok = true then wpAny (model prog w) A (eval i1 env) (fun x s₄ => wpAny (model prog w) A (pyIter x) (fun it1 s₅ =>
              codeAny (model prog w) A (.compStart (.ListComp el gs scope pos) (k + 1) it1 acc env) (fun r s' => match r with
                | .ok _ => ∃ m, m < n ∧ I m s'
                | .error _ => False) s₅) (fun _ _ => False) s₄) (fun _ _ => False) s₃
            else ∃ m, m < n ∧ I m s₃) (fun _ _ => False) s₂) (fun _ _ => False) s₁') (fun _ _ => False) s₁) (fun _ _ => False) s)
    (n : Nat) (h : I n s) : codeAny (model prog w) A (.compLoop (.ListComp el gs scope pos) k it acc env) R s := by
  refine codeAny_loop rfl I (fun n s hI => ?_) n h
  show wpAny _ A ((compTurn (.ListComp el gs scope pos) k it acc env).onRaise (fun x => do noteFrame x env; theTreesLotGoes x)) _ _ s
  refine wpAny_noted ?_
  rw [hk it acc env]
  refine wpAny_bind (wpAny_standAt (wpAny_bind (wpAny_mono (turn n s hI) (fun r s₁ h₁ => ?_) fun _ _ h' => h'.elim)))
  cases r with
  | none => exact wpAny_pure h₁
  | some v =>
    refine wpAny_bind (wpAny_mono h₁ (fun _ s₁' h₁' => ?_) fun _ _ h' => h'.elim)
    refine wpAny_bind (wpAny_mono h₁' (fun _ s₂ h₂ => wpAny_bind (wpAny_mono h₂ (fun ok s₃ h₃ => ?_) fun _ _ h' => h'.elim)) fun _ _ h' => h'.elim)
    cases ok with
    | false => exact wpAny_pure ⟨rfl, h₃⟩
    | true =>
      refine wpAny_bind (wpAny_mono h₃ (fun x s₄ h₄ => ?_) fun _ _ h' => h'.elim)
      refine wpAny_bind (wpAny_standAt (wpAny_bind (wpAny_of_eq (hs x) (wpAny_bind (wpAny_holding (wpAny_mono h₄ (fun it1 s₅ h₅ => ?_) fun _ _ h' => h'.elim))))))
      refine wpAny_bind (wpAny_runOwn ?_)
      rw [Around.mark_none]
      refine codeAny_mono h₅ fun r s' hr => ?_
      cases r with
      | ok f =>
        first
          | exact wpAny_pure ⟨rfl, hr⟩
          | exact wpAny_bind (wpAny_pure (wpAny_pure ⟨rfl, hr⟩))
      | error e => exact hr.elim
theorem loop_end (hk : TurnEnd (.ListComp el gs scope pos) k t i elt ifs) (I : Nat → Shared → Prop)
    (turn : ∀ n s, I n s → wpAny (model prog w) A (pyNext it) (fun r s₁ => match r with
      | none => R (.ok .next) s₁
      | some v => wpAny (model prog w) A (letOwnedTupleGo t it v) (fun _ s₁' => wpAny (model prog w) A (assign t env v) (fun _ s₂ =>
          wpAny (model prog w) A (forIn ifs true fun c r => if r = true then do let ok ← isTrue c env (eval c env); pure (ForInStep.yield ok) else pure (ForInStep.yield r)) (fun ok s₃ =>
            if ok = true then wpAny (model prog w) A (eval elt env) (fun x s₄ =>
              wpAny (model prog w) A (call (.builtin "list.append") [acc, x]) (fun _ s₅ => ∃ m, m < n ∧ I m s₅) (fun _ _ => False) s₄) (fun _ _ => False) s₃
            else ∃ m, m < n ∧ I m s₃) (fun _ _ => False) s₂) (fun _ _ => False) s₁') (fun _ _ => False) s₁) (fun _ _ => False) s)
    (n : Nat) (h : I n s) : codeAny (model prog w) A (.compLoop (.ListComp el gs scope pos) k it acc env) R s := by
  refine codeAny_loop rfl I (fun n s hI => ?_) n h
  show wpAny _ A ((compTurn (.ListComp el gs scope pos) k it acc env).onRaise (fun x => do noteFrame x env; theTreesLotGoes x)) _ _ s
  refine wpAny_noted ?_
  rw [hk it acc env]
  refine wpAny_bind (wpAny_standAt (wpAny_bind (wpAny_mono (turn n s hI) (fun r s₁ h₁ => ?_) fun _ _ h' => h'.elim)))
  cases r with
  | none => exact wpAny_pure h₁
  | some v =>
    refine wpAny_bind (wpAny_mono h₁ (fun _ s₁' h₁' => ?_) fun _ _ h' => h'.elim)
    refine wpAny_bind (wpAny_mono h₁' (fun _ s₂ h₂ => wpAny_bind (wpAny_mono h₂ (fun ok s₃ h₃ => ?_) fun _ _ h' => h'.elim)) fun _ _ h' => h'.elim)
    cases ok with
    | false => exact wpAny_pure ⟨rfl, h₃⟩
    | true =>
      exact wpAny_bind (wpAny_bind (wpAny_mono h₃ (fun x s₄ h₄ => wpAny_bind (wpAny_mono h₄ (fun _ s₅ h₅ => wpAny_pure (wpAny_pure ⟨rfl, h₅⟩)) fun _ _ h' => h'.elim)) fun _ _ h' => h'.elim))
end
section
variable {X : Cx}
abbrev FB := L2.St → Hp → (Hp → Prop) → Prop
/-- one clause's reading over what its turn does -/
def tCl (wi : TI) (g : TG) (tt : TT) (vs : List Nat) (F : FB) : FB := fun σ H Nx => wi σ H fun J H1 => ∃ W : Nat → Nat → Hp → Prop, (∃ m, W 0 m H1) ∧ ∀ i m H, W i m H →
  (J.stop i H ∧ Nx H) ∨ (J.go i H ∧ ∃ N1 : Hp → Prop, (∀ H', N1 H' → ∃ m', m' < m ∧ W (i + 1) m' H') ∧ ∀ x H', J.yld i H x H' → g x (wipe σ vs) H' fun σ2 H2 => wipe σ2 vs = wipe σ vs ∧ tt σ2 H2 fun b H3 =>
    if b = true then F σ2 H3 N1 else N1 H3)
/-- what the last clause's turn does -/
def fElt (D : Addr) (te : TE) : FB := fun σ H Nx => te σ H fun y H1 => ∃ acc, H1 D = some (.lst acc) ∧ acc.length < sizeLine ∧ Nx (upd H1 D (.lst (acc ++ [y])))
/-- clause k from its iterable on: it takes the list at D from what F asks to Nx -/
structure Cl (X : Cx) (C : Expr) (k : Nat) (i : Expr) (D : Addr) (vs : List Nat) (F : FB) : Prop where
  run : ∀ (pins : List (Addr × Obj)) (s : Shared) (σ : L2.St) (H : Hp) (Nx : Hp → Prop), Inv X pins σ H s → F σ H Nx →
    wpAny (model X.prog X.w) X.A (eval i X.env) (fun x s4 => wpAny (model X.prog X.w) X.A (pyIter x) (fun it1 s5 => codeAny (model X.prog X.w) X.A (.compStart C k it1 (.ref D) X.env) (fun r s' => match r with
      | .ok _ => ∃ H', Inv X pins (wipe σ vs) H' s' ∧ Nx H'
      | .error _ => False) s5) (fun _ _ => False) s4) (fun _ _ => False) s
theorem wipe_wipe {σ : L2.St} {vs us : List Nat} (h : ∀ i ∈ us, i ∈ vs) {j : Nat} {v : V} (e : (wipe σ vs)[j]? = some (some v)) : (wipe σ us)[j]? = some (some v) := by
  obtain ⟨e1, e2⟩ := wipe_some e
  rw [wipe_out fun z => e2 (h j z)]
  exact e1

theorem cl_back {pins pl : List (Addr × Obj)} {σ σ2 : L2.St} {vs us : List Nat} {H' : Hp} {s' : Shared} (hw : wipe σ2 vs = wipe σ vs) (hu : ∀ i ∈ us, i ∈ vs) (I : Inv X (pins ++ pl) (wipe σ2 us) H' s') : Inv X pins (wipe σ vs) H' s' :=
  I.unpinned.weak (by rw [← hw, wipe_length, wipe_length]) fun j v e => by rw [← hw] at e; exact wipe_wipe hu e
theorem cl_end {t i elt el : Expr} {gs : List Comprehension} {scope : Scope} {pos : Pos} {ifs : List Expr} {k : Nat} {D : Addr} {vs : List Nat} {wi : TI} {g : TG} {tt : TT} {te : TE} (hx : X.xe = fun _ _ => False) (hc : X.calm = true) (hk : TurnEnd (.ListComp el gs scope pos) k t i elt ifs) (hst : StartOk (.ListComp el gs scope pos) k)
    (hi : PI X t i wi) (hg : PG X t g) (ht : PTs X ifs tt) (he : PE X elt te) : Cl X (.ListComp el gs scope pos) k i D vs (tCl wi g tt vs (fElt D te)) := by
  constructor
  intro pins s σ H Nx I h
  have h1 := hi.run pins s σ H _ I h
  rw [hx] at h1
  refine thnF h1 fun xv s10 hx2 => thnF hx2 fun itv s11 h11 => ?_
  obtain ⟨it1, fp1, tn1, J1, H11, e1, I11, T1, st11, f11, W1, ⟨m1, w1⟩, turn1⟩ := h11
  subst e1
  have stat : ∀ {H' : Hp}, (∀ b ∈ fp1, H' b = none) → ∀ b ∈ fp1, FpOk X pins H' b := fun hn b hb => ⟨hn b hb, (f11 b hb).2⟩
  have loop1 : codeAny (model X.prog X.w) X.A (.compLoop (.ListComp el gs scope pos) k (.ref it1) (.ref D) X.env) (fun r s' => match r with
      | .ok _ => ∃ H', Inv X pins (wipe σ vs) H' s' ∧ Nx H'
      | .error _ => False) s11 := by
    refine loop_end hk (fun n s' => ∃ j H', Inv X pins (wipe σ vs) H' s' ∧ tn1 j s'.heap ∧ (∀ b ∈ fp1, H' b = none) ∧ W1 j n H') ?_ m1 ⟨0, H11, I11.weak (wipe_length _ _) (fun j v e => (wipe_some e).1), st11, fun b hb => (f11 b hb).1, w1⟩
    rintro n s12 ⟨j, H12, I12, st12, n12, w12⟩
    rcases turn1 j n H12 w12 with ⟨stop1, nx1⟩ | ⟨go1, Nx1, hNx1, step1⟩
    · refine thnF (T1.done X rfl rfl rfl hc j _ s12 (wipe σ vs) H12 (fun _ _ => False) I12 (stat n12) st12 stop1) fun r s13 ⟨hr, I13⟩ => ?_
      subst hr
      exact ⟨H12, I13, nx1⟩
    · refine thnF (T1.item X rfl rfl rfl hc j _ s12 (wipe σ vs) H12 (fun _ _ => False) I12 (stat n12) st12 go1) fun r s13 ⟨u1, hr, h13⟩ => ?_
      subst hr
      refine thnF h13 fun _ s14 ⟨x1, H14, I14, r14, y14, st14, n14⟩ => ?_
      have I14' := I14.pinned (stat n14) (T1.obj _ _ st14)
      have pgr := hg.run _ s14 (wipe σ vs) H14 x1 u1 _ I14' r14 (step1 x1 H14 y14)
      rw [hx] at pgr
      refine thnF pgr fun _ s15 ⟨σ15, H15, I15, hw15, q15⟩ => ?_
      have ptr := ht.run _ s15 σ15 H15 _ I15 q15
      rw [hx] at ptr
      refine thnF ptr fun b1 s16 ⟨H16, I16, q16⟩ => ?_
      have fin1 : ∀ {s' : Shared} {H' : Hp}, Inv X (pins ++ pinsAt fp1 s14.heap) (wipe σ15 []) H' s' → Nx1 H' → ∃ m, m < n ∧ ∃ j H', Inv X pins (wipe σ vs) H' s' ∧ tn1 j s'.heap ∧ (∀ b ∈ fp1, H' b = none) ∧ W1 j m H' := fun {s' H'} I' nx => by
        obtain ⟨m', hm, w'⟩ := hNx1 H' nx
        have pin' : ∀ b ∈ fp1, ∀ o, s14.heap.get? b = some o → s'.heap.get? b = some o ∧ H' b = none := fun b hb o e =>
          let z := I'.pin (b, o) (List.mem_append_right _ (List.mem_append_right _ (mem_pinsAt hb e)))
          ⟨z.1, z.2.1⟩
        refine ⟨m', hm, j + 1, H', cl_back hw15 (by simp) I', T1.keep _ _ _ st14 fun b hb o e => (pin' b hb o e).1, fun b hb => ?_, w'⟩
        obtain ⟨o, e, _⟩ := T1.obj _ _ st14 b hb
        exact (pin' b hb o e).2
      cases b1 with
      | false =>
        simp only [Bool.false_eq_true, if_false] at q16 ⊢
        exact fin1 I16 q16
      | true =>
        simp only [if_true] at q16 ⊢
        have per := he.run _ s16 σ15 H16 _ I16 q16
        rw [hx] at per
        refine thnF per fun z s17 ⟨yv, H17, I17, r17, acc, hD17, hz17, nx⟩ => ?_
        exact app_ok (X := X) I17 hD17 hz17 r17 fun s18 I18 => fin1 I18 nx
  exact hst loop1 (T1.self X.A 0 _ _ _ st11 loop1)
theorem cl_mid {t i i1 el : Expr} {gs : List Comprehension} {scope : Scope} {pos : Pos} {ifs : List Expr} {k : Nat} {D : Addr} {vs us : List Nat} {wi : TI} {g : TG} {tt : TT} {F : FB} (hx : X.xe = fun _ _ => False) (hc : X.calm = true) (hk : TurnMid (.ListComp el gs scope pos) k t i i1 ifs) (hs : ∀ x, foldedSetIterable i1 X.env x = pure x) (hst : StartOk (.ListComp el gs scope pos) k)
    (hi : PI X t i wi) (hg : PG X t g) (ht : PTs X ifs tt) (hu : ∀ i ∈ us, i ∈ vs) (hb : Cl X (.ListComp el gs scope pos) (k + 1) i1 D us F) : Cl X (.ListComp el gs scope pos) k i D vs (tCl wi g tt vs F) := by
  constructor
  intro pins s σ H Nx I h
  have h1 := hi.run pins s σ H _ I h
  rw [hx] at h1
  refine thnF h1 fun xv s10 hx2 => thnF hx2 fun itv s11 h11 => ?_
  obtain ⟨it1, fp1, tn1, J1, H11, e1, I11, T1, st11, f11, W1, ⟨m1, w1⟩, turn1⟩ := h11
  subst e1
  have stat : ∀ {H' : Hp}, (∀ b ∈ fp1, H' b = none) → ∀ b ∈ fp1, FpOk X pins H' b := fun hn b hb => ⟨hn b hb, (f11 b hb).2⟩
  have loop1 : codeAny (model X.prog X.w) X.A (.compLoop (.ListComp el gs scope pos) k (.ref it1) (.ref D) X.env) (fun r s' => match r with
      | .ok _ => ∃ H', Inv X pins (wipe σ vs) H' s' ∧ Nx H'
      | .error _ => False) s11 := by
    refine loop_mid hk hs (fun n s' => ∃ j H', Inv X pins (wipe σ vs) H' s' ∧ tn1 j s'.heap ∧ (∀ b ∈ fp1, H' b = none) ∧ W1 j n H') ?_ m1 ⟨0, H11, I11.weak (wipe_length _ _) (fun j v e => (wipe_some e).1), st11, fun b hb => (f11 b hb).1, w1⟩
    rintro n s12 ⟨j, H12, I12, st12, n12, w12⟩
    rcases turn1 j n H12 w12 with ⟨stop1, nx1⟩ | ⟨go1, Nx1, hNx1, step1⟩
    · refine thnF (T1.done X rfl rfl rfl hc j _ s12 (wipe σ vs) H12 (fun _ _ => False) I12 (stat n12) st12 stop1) fun r s13 ⟨hr, I13⟩ => ?_
      subst hr
      exact ⟨H12, I13, nx1⟩
    · refine thnF (T1.item X rfl rfl rfl hc j _ s12 (wipe σ vs) H12 (fun _ _ => False) I12 (stat n12) st12 go1) fun r s13 ⟨u1, hr, h13⟩ => ?_
      subst hr
      refine thnF h13 fun _ s14 ⟨x1, H14, I14, r14, y14, st14, n14⟩ => ?_
      have I14' := I14.pinned (stat n14) (T1.obj _ _ st14)
      have pgr := hg.run _ s14 (wipe σ vs) H14 x1 u1 _ I14' r14 (step1 x1 H14 y14)
      rw [hx] at pgr
      refine thnF pgr fun _ s15 ⟨σ15, H15, I15, hw15, q15⟩ => ?_
      have ptr := ht.run _ s15 σ15 H15 _ I15 q15
      rw [hx] at ptr
      refine thnF ptr fun b1 s16 ⟨H16, I16, q16⟩ => ?_
      have fin1 : ∀ {us : List Nat} {s' : Shared} {H' : Hp}, (∀ i ∈ us, i ∈ vs) → Inv X (pins ++ pinsAt fp1 s14.heap) (wipe σ15 us) H' s' → Nx1 H' → ∃ m, m < n ∧ ∃ j H', Inv X pins (wipe σ vs) H' s' ∧ tn1 j s'.heap ∧ (∀ b ∈ fp1, H' b = none) ∧ W1 j m H' := fun {us s' H'} hu I' nx => by
        obtain ⟨m', hm, w'⟩ := hNx1 H' nx
        have pin' : ∀ b ∈ fp1, ∀ o, s14.heap.get? b = some o → s'.heap.get? b = some o ∧ H' b = none := fun b hb o e =>
          let z := I'.pin (b, o) (List.mem_append_right _ (List.mem_append_right _ (mem_pinsAt hb e)))
          ⟨z.1, z.2.1⟩
        refine ⟨m', hm, j + 1, H', cl_back hw15 hu I', T1.keep _ _ _ st14 fun b hb o e => (pin' b hb o e).1, fun b hb => ?_, w'⟩
        obtain ⟨o, e, _⟩ := T1.obj _ _ st14 b hb
        exact (pin' b hb o e).2
      cases b1 with
      | false =>
        simp only [Bool.false_eq_true, if_false] at q16 ⊢
        exact fin1 (us := []) (by simp) I16 q16
      | true =>
        simp only [if_true] at q16 ⊢
        refine thnF (hb.run _ s16 σ15 H16 Nx1 I16 q16) fun xv2 s17 h17 => thnF h17 fun itv2 s18 h18 => ?_
        refine codeAny_mono h18 fun r s' hr => ?_
        cases r with
        | ok f =>
          obtain ⟨H', I', nx⟩ := hr
          exact fin1 hu I' nx
        | error e => exact hr
  exact hst loop1 (T1.self X.A 0 _ _ _ st11 loop1)
/-- the whole: the first clause, what its turn does told by F over the new list -/
def tLcC (wi : TI) (g : TG) (tt : TT) (F : Addr → FB) (vs : List Nat) : TE := fun σ H Q => wi σ H fun J H1 => ∀ D, H1 D = none → ∃ W : Nat → Nat → Hp → Prop, (∃ m, W 0 m (upd H1 D (.lst []))) ∧ ∀ i m H, W i m H →
  (J.stop i H ∧ Q (.ref D) H) ∨ (J.go i H ∧ ∃ Nx : Hp → Prop, (∀ H', Nx H' → ∃ m', m' < m ∧ W (i + 1) m' H') ∧ ∀ x H', J.yld i H x H' → g x (wipe σ vs) H' fun σ2 H2 => wipe σ2 vs = wipe σ vs ∧ tt σ2 H2 fun b H3 =>
    if b = true then F D σ2 H3 Nx else Nx H3)
theorem lcC_core {pins : List (Addr × Obj)} {s : Shared} {σ : L2.St} {H : Hp} {Q : VK} {elt tg iter i1 : Expr} {ifs : List Expr} {cs : List Comprehension} {scope : Scope} {own : List (Str × Nat)} {us : List Nat} {pos pos' : Pos} {wi : TI} {g : TG} {tt : TT} {F : Addr → FB} {use : Option (Value → Sem Unit)} {Qf : Value → Shared → Prop}
    (hc : X.calm = true) (hN : X.N.Nodup) (I : Inv X pins σ H s) (hi : PI X tg iter wi) (ok : BlkOk X.N X.env.scope scope own) (hk : TurnMid (.ListComp elt (⟨tg, iter, ifs, 0⟩ :: cs) scope pos) 0 tg iter i1 ifs) (hs1 : ∀ env x, foldedSetIterable i1 env x = pure x) (hu : ∀ i ∈ us, i ∈ own.map (·.2))
    (hg : ∀ (s : Shared) (H : Hp) (C : Addr) (cl : List (Str × Addr)) (fp : List Addr), PG (X.blk s H scope (compEnvC scope cl C X.env) fp) tg g) (ht : ∀ (s : Shared) (H : Hp) (C : Addr) (cl : List (Str × Addr)) (fp : List Addr), PTs (X.blk s H scope (compEnvC scope cl C X.env) fp) ifs tt)
    (hb : ∀ (s : Shared) (H : Hp) (C : Addr) (cl : List (Str × Addr)) (fp : List Addr) (D : Addr), Cl (X.blk s H scope (compEnvC scope cl C X.env) fp) (.ListComp elt (⟨tg, iter, ifs, 0⟩ :: cs) scope pos) 1 i1 D us (F D)) (hs : ∀ x, foldedSetIterable iter X.env x = pure x)
    (h : tLcC wi g tt F (own.map (·.2)) σ H Q)
    (hRR : ∀ D C s' m H', Inv X pins σ H' s' → Q (.ref D) H' → s'.heap.Ns C m → FpOk X pins H' C → compPost (model X.prog X.w) X.A X.xe use Qf (.ref D) C (.ok .next) s') :
    wpAny (model X.prog X.w) X.A (comprehension (.ListComp elt (⟨tg, iter, ifs, 0⟩ :: cs) scope pos) scope X.env pos' (newList []) false (eval iter X.env) use) Qf X.xe s := by
  have hfree : ∀ y ∈ scope.names, y.2 = .free → ∃ c, X.env.cells.lookup y.1 = some c := fun y hy e => (ok.free y hy e).elim (fun k => I.ok.has _ (.inl k)) fun k => I.ok.has _ (.inr k)
  refine wpAny_comprehension_free (use := use) rfl hs (closure_ok hfree) ok.kind (fun y hy e => by rw [ok.uniq y hy, e])
    (thn (hi.run pins s σ H _ I h) fun xv s1 hx => thn hx fun itv s2 h2 => ?_)
  obtain ⟨it, fp, tn, J, H2, e, I2, T, st2, f2, q⟩ := h2
  subst e
  refine wpAny_newObj_type (newEnv_comp ?_) (by show 0 ≤ sizeLine; decide)
  generalize hD : s2.heap.objs.size = D
  have hDn : H2 D = none := I2.hok.fresh (Nat.le_of_eq hD)
  obtain ⟨W, ⟨m0, w0⟩, turn⟩ := q D hDn
  generalize hs3 : ({ s2 with heap := s2.heap.push { cls := .type "list", data := .seq ([] : List Value).toArray } } : Shared) = s3
  have I3 : Inv X pins σ (upd H2 D (.lst [])) s3 := by
    rw [← hs3]
    refine I2.laid (t' := s2.toks) (fun b o e => Heap.get?_push_of_some _ e) (Nat.le_of_eq hD) ⟨Nat.zero_le _, [], 0, .nil, ?_⟩
    rw [← hD]
    exact Heap.get?_push_size _ rfl
  have h3 : s3.heap = s2.heap.push { cls := .type "list", data := .seq ([] : List Value).toArray } := by rw [← hs3]
  have sz : ∀ b ∈ fp, b < s2.heap.objs.size := fun b hb => by
    obtain ⟨o, e, _⟩ := T.obj _ _ st2 b hb
    exact Heap.lt_size e
  have f3 : ∀ b ∈ fp, FpOk X pins (upd H2 D (.lst [])) b ∧ b < s3.heap.objs.size := fun b hb => by
    have hlt := sz b hb
    refine ⟨⟨?_, (f2 b hb).2⟩, by rw [h3, Heap.size_push]; exact Nat.lt_succ_of_lt hlt⟩
    rw [upd_ne (by rw [← hD]; exact Nat.ne_of_lt hlt)]
    exact (f2 b hb).1
  have st3 : tn 0 s3.heap := T.keep _ _ _ st2 fun b _ o e => by rw [h3]; exact Heap.get?_push_of_some _ e
  have I4 := block_start I3 ok hN f3
  have pg := hg s3 (upd H2 D (.lst [])) s3.heap.objs.size (cellsFrom (s3.heap.objs.size + 1) scope.names (cloFrom X.env.cells scope.names [])) fp
  have pt := ht s3 (upd H2 D (.lst [])) s3.heap.objs.size (cellsFrom (s3.heap.objs.size + 1) scope.names (cloFrom X.env.cells scope.names [])) fp
  have pb := hb s3 (upd H2 D (.lst [])) s3.heap.objs.size (cellsFrom (s3.heap.objs.size + 1) scope.names (cloFrom X.env.cells scope.names [])) fp D
  show codeAny _ _ (.compStart (.ListComp elt (⟨tg, iter, ifs, 0⟩ :: cs) scope pos) 0 (.ref it) (.ref D) (compEnvC scope (cellsFrom (s3.heap.objs.size + 1) scope.names (cloFrom X.env.cells scope.names [])) s3.heap.objs.size X.env)) (compPost (model X.prog X.w) X.A X.xe use Qf (.ref D) s3.heap.objs.size) { s3 with heap := pushCells (s3.heap.push { cls := .type "dict", data := .dict #[] }) scope.names }
  have nfp : ∀ b ∈ fp, (upd H2 D (.lst [])) b = none := fun b hb => (f3 b hb).1.1
  generalize hce : compEnvC scope (cellsFrom (s3.heap.objs.size + 1) scope.names (cloFrom X.env.cells scope.names [])) s3.heap.objs.size X.env = ce at I4 pg pt pb ⊢
  have cL : ce.locals = s3.heap.objs.size := by subst hce; rfl
  generalize hH3 : upd H2 D (.lst []) = H3 at I3 I4 pg pt pb w0 nfp f3
  generalize hs4 : ({ s3 with heap := pushCells (s3.heap.push { cls := .type "dict", data := .dict #[] }) scope.names } : Shared) = s4 at I4 ⊢
  have st4 : tn 0 s4.heap := T.keep _ _ _ st3 fun b _ o e => by rw [← hs4]; exact pushCells_keeps _ _ _ _ (Heap.get?_push_of_some _ e)
  have stat : ∀ {σ' : L2.St} {H' : Hp} {s' : Shared}, Inv (X.blk s3 H3 scope ce fp) [] σ' H' s' → (∀ b ∈ fp, H' b = none) → ∀ b ∈ fp, FpOk (X.blk s3 H3 scope ce fp) [] H' b := fun {σ' H' s'} I' hn b hb =>
    ⟨hn b hb, (I'.ok.exf b hb).1, I'.ok.exfs b hb, .inl hb, fun x c e => (I'.ok.exf b hb).2 x c e, fun p hp => absurd (show p ∈ ([] : List (Addr × Obj)) ++ [] from hp) (by simp)⟩
  have loop : codeAny (model X.prog X.w) X.A (.compLoop (.ListComp elt (⟨tg, iter, ifs, 0⟩ :: cs) scope pos) 0 (.ref it) (.ref D) ce) (compPost (model X.prog X.w) X.A X.xe use Qf (.ref D) s3.heap.objs.size) s4 := by
    refine loop_mid hk (hs1 ce) (fun n s' => ∃ i H', Inv (X.blk s3 H3 scope ce fp) [] (wipe σ (own.map (·.2))) H' s' ∧ tn i s'.heap ∧ (∀ b ∈ fp, H' b = none) ∧ W i n H') ?_ m0 ⟨0, H3, I4, st4, nfp, w0⟩
    rintro n s5 ⟨i, H5, I5, st5, n5, w5⟩
    rcases turn i n H5 w5 with ⟨stop, qq⟩ | ⟨go, Nx, hNx, step⟩
    · refine thnF (T.done (X.blk s3 H3 scope ce fp) rfl rfl rfl hc i [] s5 _ H5 (fun _ _ => False) I5 (stat I5 n5) st5 stop) fun r s6 ⟨hr, I6⟩ => ?_
      subst hr
      have I7 : Inv X pins σ H5 s6 := I3.call' (ch := fp) I6.os I6.base I6.hok I6.bare fun b hb => ⟨(f3 b hb).1.2.2.2.1, (f3 b hb).1.2.1, (f3 b hb).1.2.2.2.2.1, (f3 b hb).1.2.2.2.2.2⟩
      have nC : H5 s3.heap.objs.size = none := by
        have z : H5 ce.locals = none := I6.free
        rw [cL] at z
        exact z
      obtain ⟨m, hn, _⟩ := I6.loc
      have hn : s6.heap.Ns ce.locals m := hn
      rw [cL] at hn
      exact hRR D s3.heap.objs.size s6 m H5 I7 qq hn (I3.fpOk (Nat.le_refl _) nC)
    · refine thnF (T.item (X.blk s3 H3 scope ce fp) rfl rfl rfl hc i [] s5 _ H5 (fun _ _ => False) I5 (stat I5 n5) st5 go) fun r s6 ⟨u, hr, h6⟩ => ?_
      subst hr
      refine thnF h6 fun _ s7 ⟨x, H7, I7, r7, y7, st7, n7⟩ => ?_
      have I7' := I7.pinned (stat I7 n7) (T.obj _ _ st7)
      refine thnF (pg.run _ s7 _ H7 x u _ I7' r7 (step x H7 y7)) fun _ s8 ⟨σ8, H8, I8, hw8, q8⟩ => ?_
      refine thnF (pt.run _ s8 σ8 H8 _ I8 q8) fun b s9 ⟨H9, I9, q9⟩ => ?_
      have fin : ∀ {us : List Nat} {s' : Shared} {H' : Hp}, (∀ i ∈ us, i ∈ own.map (·.2)) → Inv (X.blk s3 H3 scope ce fp) ([] ++ pinsAt fp s7.heap) (wipe σ8 us) H' s' → Nx H' → ∃ m, m < n ∧ ∃ i H', Inv (X.blk s3 H3 scope ce fp) [] (wipe σ (own.map (·.2))) H' s' ∧ tn i s'.heap ∧ (∀ b ∈ fp, H' b = none) ∧ W i m H' := fun {us s' H'} hu I' nx => by
        obtain ⟨m', hm, w'⟩ := hNx H' nx
        have pin' : ∀ b ∈ fp, ∀ o, s7.heap.get? b = some o → s'.heap.get? b = some o ∧ H' b = none := fun b hb o e =>
          let z := I'.pin (b, o) (List.mem_append_right _ (List.mem_append_right _ (mem_pinsAt hb e)))
          ⟨z.1, z.2.1⟩
        refine ⟨m', hm, i + 1, H', cl_back hw8 hu I', T.keep _ _ _ st7 fun b hb o e => (pin' b hb o e).1, fun b hb => ?_, w'⟩
        obtain ⟨o, e, _⟩ := T.obj _ _ st7 b hb
        exact (pin' b hb o e).2
      cases b with
      | false =>
        simp only [Bool.false_eq_true, if_false] at q9 ⊢
        exact fin (us := []) (by simp) I9 q9
      | true =>
        simp only [if_true] at q9 ⊢
        refine thnF (pb.run _ s9 σ8 H9 Nx I9 q9) fun xv2 s17 h17 => thnF h17 fun itv2 s18 h18 => ?_
        refine codeAny_mono h18 fun r s' hr => ?_
        cases r with
        | ok f =>
          obtain ⟨H', I', nx⟩ := hr
          exact fin hu I' nx
        | error e => exact hr
  exact codeAny_compStart_list loop (T.self X.A 0 _ _ _ st4 loop)
theorem ps_setLcC {i : Nat} {y : Str} {py : Pos} {elt tg iter i1 : Expr} {ifs : List Expr} {cs : List Comprehension} {scope : Scope} {own : List (Str × Nat)} {us : List Nat} {pos spos : Pos} {wi : TI} {g : TG} {tt : TT} {F : Addr → FB} (hc : X.calm = true) (hN : X.N.Nodup) (hy : X.N[i]? = some y) (hyl : X.env.scope.names.lookup y = some .local)
    (hsw : swapsWith (.ListComp elt (⟨tg, iter, ifs, 0⟩ :: cs) scope pos) (some (.Name y py)) spos.line X.env = pure true) (hi : PI X tg iter wi) (ok : BlkOk X.N X.env.scope scope own) (hk : TurnMid (.ListComp elt (⟨tg, iter, ifs, 0⟩ :: cs) scope pos) 0 tg iter i1 ifs) (hu : ∀ i ∈ us, i ∈ own.map (·.2))
    (hg : ∀ (s : Shared) (H : Hp) (C : Addr) (cl : List (Str × Addr)) (fp : List Addr), PG (X.blk s H scope (compEnvC scope cl C X.env) fp) tg g) (ht : ∀ (s : Shared) (H : Hp) (C : Addr) (cl : List (Str × Addr)) (fp : List Addr), PTs (X.blk s H scope (compEnvC scope cl C X.env) fp) ifs tt)
    (hb : ∀ (s : Shared) (H : Hp) (C : Addr) (cl : List (Str × Addr)) (fp : List Addr) (D : Addr), Cl (X.blk s H scope (compEnvC scope cl C X.env) fp) (.ListComp elt (⟨tg, iter, ifs, 0⟩ :: cs) scope pos) 1 i1 D us (F D)) (hs : ∀ x, foldedSetIterable iter X.env x = pure x := by intro _; rfl) (hs1 : ∀ env x, foldedSetIterable i1 env x = pure x := by intro _ _; rfl) :
    PS X (.Assign [.Name y py] (.ListComp elt (⟨tg, iter, ifs, 0⟩ :: cs) scope pos) spos) (tAsg (tLcC wi g tt F (own.map (·.2))) (gName i)) := by
  refine ⟨fun pins s σ H D I h => ?_⟩
  rw [exec_Assign_Name_used _ _ _ _ hsw]
  refine wpAny_bind (wpAny_standAt (wpAny_bind ?_))
  show wpAny _ X.A (do let _ ← comprehension (.ListComp elt (⟨tg, iter, ifs, 0⟩ :: cs) scope pos) scope X.env (firstIterPos (⟨tg, iter, ifs, 0⟩ :: cs) pos) (newList []) false (eval iter X.env) (some (assign (.Name y py) X.env))) _ _ s
  have h : tLcC wi g tt F (own.map (·.2)) σ H (fun x H1 => gName i x σ H1 D.nx) := h
  refine wpAny_bind (thn (lcC_core (Qf := fun _ s' => SP X pins D .next s') hc hN I hi ok hk hs1 hu hg ht hb hs h fun L C s' m H' I' q hn f => ?_) fun _ s' hq => wpAny_pure (wpAny_pure hq))
  show wpAny _ _ (assign (.Name y py) X.env (.ref L)) _ _ _
  refine wpAny_assign_Name (store_ok2 (v := V.ref L) I' hN hy (.inl hyl) rfl (fun s2 I2 ⟨a, sb, ha⟩ => ?_) (.inr hyl))
  obtain ⟨f0, f1, f2, f3, f4, f5⟩ := f
  have haC : C ≠ a := by
    rcases ha with z | z
    · rw [z]; exact f1
    · exact fun e => f4 y a z e.symm
  refine ⟨m, hn.sameBut sb haC, fun h3 sb3 => ?_⟩
  exact ⟨_, H', I2.turned (t' := s2.toks) (fun b o hb e => (sb3.2 b hb).trans e) f0 f1 f3 f4 f5, q⟩
end
/-! ### three clauses -/
section
variable {elt t0 i0 t1 i1 t2 i2 : Expr} {ifs0 ifs1 ifs2 : List Expr} {scope : Scope} {pos : Pos}
theorem turn3_0 : TurnMid (.ListComp elt [⟨t0, i0, ifs0, 0⟩, ⟨t1, i1, ifs1, 0⟩, ⟨t2, i2, ifs2, 0⟩] scope pos) 0 t0 i0 i1 ifs0 := fun _ _ _ => rfl
theorem turn3_1 : TurnMid (.ListComp elt [⟨t0, i0, ifs0, 0⟩, ⟨t1, i1, ifs1, 0⟩, ⟨t2, i2, ifs2, 0⟩] scope pos) 1 t1 i1 i2 ifs1 := fun _ _ _ => rfl
theorem turn3_2 : TurnEnd (.ListComp elt [⟨t0, i0, ifs0, 0⟩, ⟨t1, i1, ifs1, 0⟩, ⟨t2, i2, ifs2, 0⟩] scope pos) 2 t2 i2 elt ifs2 := fun _ _ _ => rfl
theorem start3_1 : StartOk (.ListComp elt [⟨t0, i0, ifs0, 0⟩, ⟨t1, i1, ifs1, 0⟩, ⟨t2, i2, ifs2, 0⟩] scope pos) 1 := by
  intro prog w A R s it acc env h0 h
  refine codeAny_of_tree ?_
  show wpAny _ _ ((compStart (.ListComp elt [⟨t0, i0, ifs0, 0⟩, ⟨t1, i1, ifs1, 0⟩, ⟨t2, i2, ifs2, 0⟩] scope pos) 1 it acc env).onRaise (fun x => do noteFrame x env; standAt theWindowsPlace)) _ _ s
  refine wpAny_notedAt ?_
  unfold compStart
  show wpAny _ _ (ask >>= _) _ _ s
  refine wpAny_bind (wpAny_askSetting (wpAny_ite ?_))
  split
  · first
      | exact wpAny_bind (wpAny_pure (wpAny_pure (And.intro rfl h0)))
      | exact wpAny_pure (And.intro rfl h0)
  · refine wpAny_bind (wpAny_rule ?_)
    show wpAny _ _ (standAt i1.pos >>= _) _ _ s
    exact wpAny_bind (wpAny_standAt (wpAny_bind (wpAny_mono h (fun it' s' h' => wpAny_pure (And.intro rfl h')) fun _ _ x => x)))
theorem start3_2 : StartOk (.ListComp elt [⟨t0, i0, ifs0, 0⟩, ⟨t1, i1, ifs1, 0⟩, ⟨t2, i2, ifs2, 0⟩] scope pos) 2 := by
  intro prog w A R s it acc env h0 h
  refine codeAny_of_tree ?_
  show wpAny _ _ ((compStart (.ListComp elt [⟨t0, i0, ifs0, 0⟩, ⟨t1, i1, ifs1, 0⟩, ⟨t2, i2, ifs2, 0⟩] scope pos) 2 it acc env).onRaise (fun x => do noteFrame x env; standAt theWindowsPlace)) _ _ s
  refine wpAny_notedAt ?_
  unfold compStart
  show wpAny _ _ (ask >>= _) _ _ s
  refine wpAny_bind (wpAny_askSetting (wpAny_ite ?_))
  split
  · first
      | exact wpAny_bind (wpAny_pure (wpAny_pure (And.intro rfl h0)))
      | exact wpAny_pure (And.intro rfl h0)
  · refine wpAny_bind (wpAny_rule ?_)
    show wpAny _ _ (standAt i2.pos >>= _) _ _ s
    exact wpAny_bind (wpAny_standAt (wpAny_bind (wpAny_mono h (fun it' s' h' => wpAny_pure (And.intro rfl h')) fun _ _ x => x)))
end
end Cm
/-! dicts with tuple keys: dict(d), list(d.items()) -/
namespace Cm
open PySem PySem.Spec PyProof.Rows PySem.W
open L2 hiding Same
theorem hu2_of {j : Nat} {A : Around} (hr : Room j A) : A.units + 2 < cLine := by have := hr.units; omega
section
variable {X : Cx}
/-- dict(d), a copy; the keys hash apart -/
def rDictT (P : Program) (w : World) : List V → Hp → VK → Prop := fun xs H Q => ∃ (a : Addr) (kvs : List (List L2.Key × V)), xs = [.ref a] ∧ Rd H a (.dT kvs) ∧ (kvs.map fun p => (tupleKind (mixKind P w)).hash p.1).Nodup ∧ ∀ p, H p = none → Q (.ref p) (upd H p (.dT kvs))
theorem kt_keys {H : Hp} {kvs : List (List L2.Key × V)} {xs : List (List L2.Key × Addr × Value)} (r : KT H kvs xs) : kvs.map (·.1) = xs.map (·.1) := by
  induction r with
  | nil => rfl
  | cons h t ih => rw [List.map_cons, List.map_cons, h.1, ih]
theorem kt_len {H : Hp} {kvs : List (List L2.Key × V)} {xs : List (List L2.Key × Addr × Value)} (r : KT H kvs xs) : kvs.length = xs.length := Paired.length r
theorem call_dictT (hu : X.A.units + 2 < cLine) : CallR X (.type "dict") (rDictT X.prog X.w) := by
  intro pins s σ H xs us Q I r q
  obtain ⟨a, kvs, ex, hd, hap, q⟩ := q
  subst ex
  obtain ⟨u, eu, rx⟩ := vals1 r
  subst eu
  cases rx
  obtain ⟨z, lo, ws, rel, dd⟩ := dt_rd I.hok hd
  have hm : (s.heap.objs.size == sysModules) = false := beq_eq_false_iff_ne.mpr (Nat.ne_of_gt I.big)
  refine callType_codes (Q₁ := fun obj s₁ => obj = .ref s.heap.objs.size ∧ s₁ = { s with heap := s.heap.push { cls := .type "dict", data := .dict #[] } }) F.kt_called_dict (F.kt_typeCall_dict_1 _) F.entry_dict_init (kt_code_dict_new _ ⟨rfl, rfl⟩) ?_
  rintro obj s₁ ⟨rfl, rfl⟩
  have alt : a < s.heap.objs.size := by
    obtain ⟨o, _, _, e, _⟩ := dd
    exact Heap.lt_size e
  have kpp : ∀ b o, s.heap.get? b = some o → (s.heap.push { cls := .type "dict", data := .dict #[] }).get? b = some o := fun b o e => Heap.get?_push_of_some _ e
  have tys : ∀ x ∈ ws, ∃ b xs, x.2.1 = b ∧ H b = some (.tup xs) := by
    have go : ∀ {l : List (List L2.Key × V)} {m : List (List L2.Key × Addr × Value)}, KT H l m → ∀ x ∈ m, ∃ b xs, x.2.1 = b ∧ H b = some (.tup xs) := by
      intro l m q
      induction q with
      | nil => intro x hx; exact nomatch hx
      | cons hq t ih =>
        intro x hx
        rcases List.mem_cons.mp hx with e | hx
        · subst e; exact ⟨_, _, rfl, hq.2.1⟩
        · exact ih x hx
    exact go rel
  have isK : ∀ (h' : Heap), (∀ b o, s.heap.get? b = some o → h'.get? b = some o) → ∀ x ∈ ws, (tupleKind (mixKind X.prog X.w)).is h' x.1 x.2.1 := by
    intro h' hk x hx
    obtain ⟨_, _, _, _, _, _, _, his, _⟩ := dd
    exact tupleKind_stays.stays (fun b o _ _ e _ => hk b o e) (his x hx)
  have ho' : (s.heap.push { cls := .type "dict", data := .dict #[] }).DictOfH (tupleKind (mixKind X.prog X.w)) a ws := dd.at' (fun o e => kpp a o e) (isK _ kpp)
  have hnew : (s.heap.push { cls := .type "dict", data := .dict #[] }).DictOfH (tupleKind (mixKind X.prog X.w)) s.heap.objs.size [] := Heap.DictOfH.new s.heap
  refine ⟨hnew.typeIs (s := { s with heap := _ }), F.args_dict_init_2 _ _, ?_⟩
  unfold Builtin.«dict.__init__»
  refine wpAny_bind ?_
  unfold Builtin.Dict.selfAndRest
  refine wpAny_bind (wpAny_notOrdered_dict (hnew.typeIs (s := { s with heap := _ })) ?_)
  show wpAny _ _ (pure (s.heap.objs.size, [Value.ref a])) _ _ _
  refine wpAny_pure ?_
  show wpAny _ _ (Builtin.Dict.updateFrom "dict.__init__" s.heap.objs.size (.ref a) [] .none) _ _ _
  refine wpAny_mono (updateFrom_dictH (A := X.A.in1) (R := wants (fun r s₂ => r = Value.none ∧ EP X pins σ Q (Value.ref s.heap.objs.size) s₂) X.xe) .none ?room (Nat.ne_of_gt alt) lo hnew ho' (.inr ⟨fun x hx => ?_, ?_⟩) (by show 0 + _ ≤ _; rw [Nat.zero_add, ← kt_len rel]; exact z) fun h' hd' _ hs => ?_) (fun _ _ x => x) fun _ _ x => x
  case room => exact tupleKind_room_in1 hu
  · obtain ⟨b, xs, e, hb⟩ := tys x hx
    rw [e]
    obtain ⟨_, its, _, o, ho, hc, _⟩ := I.hok b _ hb
    exact ⟨o, kpp b o ho, hc⟩
  · have e : (ws.map fun x => (tupleKind (mixKind X.prog X.w)).hash x.1) = kvs.map fun p => (tupleKind (mixKind X.prog X.w)).hash p.1 := by
      have := congrArg (List.map fun k => (tupleKind (mixKind X.prog X.w)).hash k) (kt_keys rel)
      rw [List.map_map, List.map_map] at this
      exact this.symm
    rw [e]
    exact hap
  · refine ⟨rfl, .ref s.heap.objs.size, upd H s.heap.objs.size (.dT kvs), ?_, rfl, q _ (I.hok.fresh (Nat.le_refl _))⟩
    rw [storedAllH_nil_of_nodup ws dd.nodup] at hd'
    refine I.laid (a := s.heap.objs.size) (o := .dT kvs) (t' := s.toks) (fun b o hq => (hs.2 b (Nat.ne_of_lt (Heap.lt_size hq))).trans (kpp b o hq)) (Nat.le_refl _) ?_
    obtain ⟨o, es, ep, h1, h2, h3, h4, _, h5⟩ := hd'
    refine ⟨z, hm, ws, ?_, o, es, ep, h1, h2, h3, h4, h5⟩
    exact rel.keeps fun b ys hb => (upd_ne (fun e => by rw [e, I.hok.fresh (Nat.le_refl _)] at hb; cases hb)).trans hb
end
/-! list(d.items()) -/
def entT (ws : List (List L2.Key × Addr × Value)) (kvs : List (List L2.Key × V)) (j : Nat) : HO := .tup [.ref ((ws.map (·.2.1)).getD j 0), (kvs.map (·.2)).getD j .non]
def putI (H : Hp) (S : Addr) (as : List Addr) (ws : List (List L2.Key × Addr × Value)) (kvs : List (List L2.Key × V)) : Hp := fun b =>
  if b = S then some (.lst (as.map V.ref)) else if b ∈ as then some (entT ws kvs (as.idxOf b)) else H b
def rItemsLT : V → Hp → VK → Prop := fun x H Q => ∃ (d : Addr) (kvs : List (List L2.Key × V)), x = .ref d ∧ H d = some (.dT kvs) ∧
  ∀ (H' : Hp) (p : Addr) (L : List (Addr × Addr)), (∀ b o, H b = some o → H' b = some o) → H p = none → H' p = some (.lst (L.map fun z => V.ref z.1)) →
    Paired (fun (z : Addr × Addr) (q : List L2.Key × V) => H' z.1 = some (.tup [.ref z.2, q.2]) ∧ H' z.2 = some (.tup (q.1.map kV))) L kvs → Q (.ref p) H'
def tListItemsT (te : TE) : TE := fun σ H Q => te σ H fun x H1 => rItemsLT x H1 Q
theorem idx_at_of {as : List Addr} (h : as.Pairwise (· < ·)) {j : Nat} (hj : j < as.length) : as.idxOf as[j] = j := by
  have hm : as[j] ∈ as := List.getElem_mem _
  have h1 : as.idxOf as[j] < as.length := List.idxOf_lt_length_of_mem hm
  have h2 : as[as.idxOf as[j]] = as[j] := List.getElem_idxOf h1
  rcases Nat.lt_trichotomy (as.idxOf as[j]) j with q | q | q
  · exact absurd h2 (Nat.ne_of_lt (List.pairwise_iff_getElem.mp h _ _ h1 hj q))
  · exact q
  · exact absurd h2 (Nat.ne_of_gt (List.pairwise_iff_getElem.mp h _ _ hj h1 q))
theorem paired_of {α β : Type} {F : α → β → Prop} : ∀ {xs : List α} {ys : List β}, xs.length = ys.length → (∀ (j : Nat) x y, xs[j]? = some x → ys[j]? = some y → F x y) → Paired F xs ys
  | [], [], _, _ => .nil
  | x :: xs, y :: ys, h, f => .cons (f 0 x y rfl rfl) (paired_of (by simpa using h) fun j a b ha hb => f (j + 1) a b ha hb)
  | [], _ :: _, h, _ => by simp at h
  | _ :: _, [], h, _ => by simp at h
section
variable {X : Cx} {e : Expr} {te : TE} {p apos cpos pos : Pos}
theorem itemsT_laid {pins : List (Addr × Obj)} {σ : L2.St} {H : Hp} {s : Shared} {h' : Heap} {tk : Nat} {kvs : List (List L2.Key × V)} {ws : List (List L2.Key × Addr × Value)} {acc : Array Value} {c : Nat} {as : List Addr} {es : Array DictEntry} (I : Inv X pins σ H s) (hz : kvs.length ≤ sizeLine) (kv : KT H kvs ws)
    (he : es.toList = ws.map (entryOfKey (tupleKind (mixKind X.prog X.w))))
    (hk : ∀ b o, s.heap.get? b = some o → h'.get? b = some o) (hS : h'.get? s.heap.objs.size = some { cls := .type "list", dict := none, data := .seq acc c, slots := #[] }) (hl : as.length = es.size) (hG : DilG es s.heap.objs.size h' as) (hacc : acc.toList = as.map Value.ref) :
    let H' := putI H s.heap.objs.size as ws kvs
    (∀ b o, H b = some o → H' b = some o) ∧ H s.heap.objs.size = none ∧ H' s.heap.objs.size = some (.lst ((as.zip (ws.map (·.2.1))).map fun z => V.ref z.1)) ∧
      Paired (fun (z : Addr × Addr) (q : List L2.Key × V) => H' z.1 = some (.tup [.ref z.2, q.2]) ∧ H' z.2 = some (.tup (q.1.map kV))) (as.zip (ws.map (·.2.1))) kvs ∧ Inv X pins σ H' { s with heap := h', toks := tk } := by
  intro H'
  have lk : kvs.length = ws.length := Paired.length kv
  have le : es.size = ws.length := by rw [← Array.length_toList, he, List.length_map]
  have hSn : s.heap.objs.size ∉ as := fun z => Nat.lt_irrefl _ (hG.above _ z)
  have new : ∀ t ∈ as, H t = none := fun t ht => I.hok.fresh (Nat.le_of_lt (hG.above t ht))
  have newS : H s.heap.objs.size = none := I.hok.fresh (Nat.le_refl _)
  have off : ∀ b, b ∉ as → b ≠ s.heap.objs.size → H' b = H b := fun b h1 h2 => by
    show (if _ then _ else _) = _
    rw [if_neg h2, if_neg h1]
  have kp : ∀ b u, H b = some u → H' b = some u := fun b u q => by
    rw [off b (fun z => by rw [new b z] at q; cases q) (fun z => by rw [z, newS] at q; cases q)]
    exact q
  have low : ∀ b o, s.heap.get? b = some o → b ∉ as ∧ b ≠ s.heap.objs.size := fun b o q => ⟨fun z => absurd (Heap.lt_size q) (Nat.not_lt.mpr (Nat.le_of_lt (hG.above b z))), Nat.ne_of_lt (Heap.lt_size q)⟩
  have eS : H' s.heap.objs.size = some (.lst (as.map V.ref)) := if_pos rfl
  have zl : (as.zip (ws.map (·.2.1))).map (fun z => V.ref z.1) = as.map V.ref := by
    rw [show (fun z : Addr × Addr => V.ref z.1) = V.ref ∘ Prod.fst from rfl, ← List.map_map, List.map_fst_zip (by rw [List.length_map]; omega)]
  -- what stands at the j-th new place
  have atJ : ∀ (j : Nat) (hj : j < as.length), ∃ (h1 : j < ws.length) (h2 : j < kvs.length), H' as[j] = some (.tup [.ref ws[j].2.1, kvs[j].2]) ∧ h'.get? as[j] = some { cls := .type "tuple", data := .seq #[.ref ws[j].2.1, ws[j].2.2] } := fun j hj => by
    have h1 : j < ws.length := by omega
    have h2 : j < kvs.length := by omega
    refine ⟨h1, h2, ?_, ?_⟩
    · show (if _ then _ else _) = _
      rw [if_neg (fun z => hSn (by rw [← z]; exact List.getElem_mem hj)), if_pos (List.getElem_mem hj), idx_at_of hG.rise hj]
      unfold entT
      rw [List.getD_eq_getElem?_getD, List.getD_eq_getElem?_getD, List.getElem?_map, List.getElem?_map, List.getElem?_eq_getElem h1, List.getElem?_eq_getElem h2]
      rfl
    · obtain ⟨hj2, e2⟩ := hG.pairs j as[j] (List.getElem?_eq_getElem hj)
      have e3 : es[j]? = (ws[j]?).map (entryOfKey (tupleKind (mixKind X.prog X.w))) := entry_at he j
      rw [Array.getElem?_eq_getElem hj2, List.getElem?_eq_getElem h1] at e3
      have e4 : es[j] = entryOfKey (tupleKind (mixKind X.prog X.w)) ws[j] := Option.some.inj e3
      rw [e2, e4]
      rfl
  have pk : ∀ (j : Nat) (h1 : j < ws.length) (h2 : j < kvs.length), H ws[j].2.1 = some (.tup (kvs[j].1.map kV)) ∧ RelV kvs[j].2 ws[j].2.2 := fun j h1 h2 => by
    obtain ⟨y, e1, e2⟩ := LiI.paired_get kv (List.getElem?_eq_getElem h2)
    rw [List.getElem?_eq_getElem h1] at e1
    obtain rfl : ws[j] = y := Option.some.inj e1
    exact ⟨e2.2.1, e2.2.2⟩
  refine ⟨kp, newS, by rw [eS, zl], ?_, ?_⟩
  · refine paired_of (by rw [List.length_zip, List.length_map]; omega) fun j x y hx hy => ?_
    obtain ⟨ha, hb⟩ := List.getElem?_zip_eq_some.mp hx
    have hj : j < as.length := (List.getElem?_eq_some_iff.mp ha).1
    obtain ⟨h1, h2, e1, _⟩ := atJ j hj
    rw [List.getElem?_eq_getElem hj] at ha
    rw [List.getElem?_map, List.getElem?_eq_getElem h1] at hb
    rw [List.getElem?_eq_getElem h2] at hy
    have xa : as[j] = x.1 := Option.some.inj ha
    have xb : ws[j].2.1 = x.2 := Option.some.inj hb
    have ya : kvs[j] = y := Option.some.inj hy
    rw [← xa, ← xb, ← ya]
    exact ⟨e1, kp _ _ (pk j h1 h2).1⟩
  · refine I.call' (ch := []) rfl ⟨fun b o q _ _ _ => hk b o q, fun b o q _ _ _ => ⟨o.slots, hk b o q⟩, fun b o q n _ => ?_, fun b o q _ => ⟨o, hk b o q⟩, fun b xs q => kp b _ q, fun b o u q => kp b _ q, fun b ps q => ⟨#[], by rw [kp b _ q]; simp⟩⟩ (fun b u q => ?_) I.bare fun b z => by simp at z
    · obtain ⟨z1, z2⟩ := low b o q
      rw [off b z1 z2]
      exact n
    · by_cases hb : b ∈ as
      · obtain ⟨j, hj, e0⟩ := List.getElem_of_mem hb
        subst e0
        obtain ⟨h1, h2, e1, e2⟩ := atJ j hj
        rw [e1] at q
        cases q
        exact ⟨by show 2 ≤ sizeLine; decide, [_, _], .cons rfl (.cons (pk j h1 h2).2 .nil), ⟨_, e2, rfl, _, rfl⟩⟩
      · by_cases hb2 : b = s.heap.objs.size
        · rw [hb2] at q ⊢
          rw [eS] at q
          cases q
          refine ⟨by rw [List.length_map]; omega, acc.toList, c, by rw [hacc]; exact LiI.vals_refs as, ?_⟩
          rw [Array.toArray_toList]
          exact hS
        · rw [off b hb hb2] at q
          exact (I.hok b u q).stay (fun d v _ y => hk d v y) (fun d y => kp d _ y) fun d xs y => kp d _ y
theorem pe_listItemsT (hc : X.calm = true) (he : PE X e te) (hg : Gl X "list") (hm : X.mg "list" = none) (hv : bootBuiltins "list" = some (.type "list")) (hbase : attributeBase e "items" X.env (eval e X.env) = eval e X.env := by rfl) (hline : (apos.endLine == cpos.line) = true := by rfl)
    (hs : starEach [.Call (.Attribute e "items" apos) [] [] cpos] X.env = (false, eval (.Call (.Attribute e "items" apos) [] [] cpos) X.env) :: starEach [] X.env := by rfl) :
    PE X (.Call (.Name "list" p) [.Call (.Attribute e "items" apos) [] [] cpos] [] pos) (tListItemsT te) := by
  refine ⟨fun pins s σ H Q I hq => ?_⟩
  refine wpAny_Call_Name_kw (ld_blt I hg hm hv ?_)
  refine PyProof.Rows.callWith_type1 ?_ hs rfl
  rw [hs]
  show wpAny _ _ (spliced ((false, eval (.Call (.Attribute e "items" apos) [] [] cpos) X.env) :: backTo pos (starEach [] X.env))) _ _ s
  refine Calls.spliced_cons ?_
  refine wpAny_Call_method (T := "dict") (id := "dict.items") hbase rfl hline F.plainAttrs_dict F.slot_dict_items F.type_dict_items (thn (he.run pins s σ H _ I hq) fun u s1 ⟨x, H1, I1, rx, d, kvs, ex, hd, q⟩ => ?_)
  subst ex
  obtain rfl : u = Value.ref d := rx
  obtain ⟨hz, lo, ws, kv, dd⟩ := dt_of I1.hok hd
  obtain ⟨od, es, ep, ho, hc1, hc2, hes, _, _⟩ := id dd
  have raw : s1.heap.DictRaw d es ep := ⟨od, ho, hc1, hc2⟩
  have le : es.size = ws.length := by rw [← Array.length_toList, hes, List.length_map]
  have lk : kvs.length = ws.length := Paired.length kv
  have I2 : Inv X pins σ H1 { s1 with heap := s1.heap.push { cls := .type "dict_items", data := .fields #[.ref d] } } := I1.kept (t' := s1.toks) fun b ob q => Heap.get?_push_of_some _ q
  refine ⟨dd.typeIs, fun b q => by cases q; exact ⟨od, ho, hc1.2.1⟩, ?_⟩
  show wpAny _ _ (callWith cpos (.builtin "dict.items") [.ref d] [] []) _ X.xe s1
  refine method_meetsIn F.slot_dict_items F.entry_dict_items rfl (PySem.evalArgs_none ⟨rfl, dd.typeIs, F.args_dict_items_1 _, _, meets_dict_items_raw d lo, ⟨es, ep, raw⟩, ?_⟩)
  refine Calls.spliced_nil ?_
  refine dil_call (es := es) (ep := ep) (I1.ok.hd hc) ⟨_, Heap.get?_push_size _ rfl, rfl, rfl⟩ (raw.at fun o e => Heap.get?_push_of_some _ e) (by omega) fun h' tk acc c as hk hS hl hG hacc => ?_
  obtain ⟨k1, k2, k3, k4, J⟩ := itemsT_laid (tk := tk) I2 hz kv hes hk hS hl hG hacc
  exact ⟨.ref _, _, J, rfl, q _ _ _ k1 k2 k3 k4⟩
end
end Cm
namespace K47
open PySem PySem.Spec PyProof.Rows Cm
open L2 hiding Same
def top (i : Nat) : Stmt := PySem.Challenge.pw_quietedition_k47_chains_of_quiet_steps.main.body.getD i (.Pass ⟨0, 0, 0, 0⟩)
abbrev s_broken : Stmt := top 1
theorem sc_broken : FnScope ["quiet", "count", "_", "j", "chains", "i", "k"] ["quiet"] (defScope s_broken) := ⟨rfl, rfl, rfl, by decide +kernel, rfl, by decide +kernel, by decide +kernel⟩
abbrev s_l_bag : Stmt := top 3
theorem sc_l_bag : FnScope ["_law_script", "_law_at", "_law_cell", "_law_mixed", "_law_k", "_law_each"] ["_law_script", "_law_at"] (defScope s_l_bag) := ⟨rfl, rfl, rfl, by decide +kernel, rfl, by decide +kernel, by decide +kernel⟩
abbrev s_l_take : Stmt := top 4
theorem sc_l_take : FnScope ["_law_bag_here", "_law_many", "_law_digit"] ["_law_bag_here", "_law_many"] (defScope s_l_take) := ⟨rfl, rfl, rfl, by decide +kernel, rfl, by decide +kernel, by decide +kernel⟩
abbrev s_l_of : Stmt := top 5
theorem sc_l_of : FnScope ["_law_bag_here", "_law_some"] ["_law_bag_here", "_law_some"] (defScope s_l_of) := ⟨rfl, rfl, rfl, by decide +kernel, rfl, by decide +kernel, by decide +kernel⟩
abbrev s_l_due : Stmt := top 6
theorem sc_l_due : FnScope ["_law_quiet", "_law_many", "_law_found", "_law_code", "_law_i", "_law_j", "_law_k"] ["_law_quiet", "_law_many"] (defScope s_l_due) := ⟨rfl, rfl, rfl, by decide +kernel, rfl, by decide +kernel, by decide +kernel⟩
abbrev s_law : Stmt := top 7
theorem sc_law : FnScope ["_law_script", "_law_at", "_law_bag_here", "_law_many", "_law_left", "_law_quiet", "_law_code", "_law_kept", "_law_due_here", "_law_told", "_law_one", "_law_some", "_law_pair"] ["_law_script"] (defScope s_law) := ⟨rfl, rfl, rfl, by decide +kernel, rfl, by decide +kernel, by decide +kernel⟩
def d_broken : He.DefD := ⟨("broken", none), "broken", "broken", defArgs s_broken, defBody s_broken, defScope s_broken, [], []⟩
def d_l_bag : He.DefD := ⟨("_law_bag", none), "_law_bag", "_law_bag", defArgs s_l_bag, defBody s_l_bag, defScope s_l_bag, [], []⟩
def d_l_take : He.DefD := ⟨("_law_take", none), "_law_take", "_law_take", defArgs s_l_take, defBody s_l_take, defScope s_l_take, [], []⟩
def d_l_of : He.DefD := ⟨("_law_of", none), "_law_of", "_law_of", defArgs s_l_of, defBody s_l_of, defScope s_l_of, [], []⟩
def d_l_due : He.DefD := ⟨("_law_due", none), "_law_due", "_law_due", defArgs s_l_due, defBody s_l_due, defScope s_l_due, [], []⟩
def d_law : He.DefD := ⟨("law", none), "law", "law", defArgs s_law, defBody s_law, defScope s_law, [], []⟩
def fn : List He.DefD := [d_broken, d_l_bag, d_l_take, d_l_of, d_l_due, d_law]
def fa : List He.Fa := [.glo "broken",
  .glo "_law_bag",
  .glo "_law_take",
  .glo "_law_of",
  .glo "_law_due",
  .glo "law",
  .free "len",
  .free "range",
  .free "int",
  .free "tuple",
  .free "list",
  .free "isinstance",
  .free "max",
  .free "min",
  .free "abs",
  .free "enumerate",
  .free "dict"]
def exs (K : PySem.W.Frag) : List Bool := []
structure Tx (K : PySem.W.Frag) (mg : Str → Option Value) (sa : Addr) (sx : List Int) : Prop where
  c : He.SaysD fa fn K
  k : (exs K).all id = true
  g0 : mg "broken" = some (.ref (He.ga K "broken"))
  g1 : mg "_law_bag" = some (.ref (He.ga K "_law_bag"))
  g2 : mg "_law_take" = some (.ref (He.ga K "_law_take"))
  g3 : mg "_law_of" = some (.ref (He.ga K "_law_of"))
  g4 : mg "_law_due" = some (.ref (He.ga K "_law_due"))
  g5 : mg "law" = some (.ref (He.ga K "law"))
  n0 : mg "len" = none
  n1 : mg "range" = none
  n2 : mg "int" = none
  n3 : mg "tuple" = none
  n4 : mg "list" = none
  n5 : mg "isinstance" = none
  n6 : mg "max" = none
  n7 : mg "min" = none
  n8 : mg "abs" = none
  n9 : mg "enumerate" = none
  n10 : mg "dict" = none
section
variable {K : PySem.W.Frag} {mg : Str → Option Value} {sa : Addr} {sx : List Int}
theorem tx_of {h : Heap} (X : K.In h) (G : h.Ns mainGlobals mg) (c : He.SaysD fa fn K) (k : (exs K).all id = true) : Tx K mg sa sx :=
  ⟨c, k,
    He.glo_ok X G (c.fact 0 (f := .glo "broken") rfl),
    He.glo_ok X G (c.fact 1 (f := .glo "_law_bag") rfl),
    He.glo_ok X G (c.fact 2 (f := .glo "_law_take") rfl),
    He.glo_ok X G (c.fact 3 (f := .glo "_law_of") rfl),
    He.glo_ok X G (c.fact 4 (f := .glo "_law_due") rfl),
    He.glo_ok X G (c.fact 5 (f := .glo "law") rfl),
    He.free_ok X G (c.fact 6 (f := .free "len") rfl),
    He.free_ok X G (c.fact 7 (f := .free "range") rfl),
    He.free_ok X G (c.fact 8 (f := .free "int") rfl),
    He.free_ok X G (c.fact 9 (f := .free "tuple") rfl),
    He.free_ok X G (c.fact 10 (f := .free "list") rfl),
    He.free_ok X G (c.fact 11 (f := .free "isinstance") rfl),
    He.free_ok X G (c.fact 12 (f := .free "max") rfl),
    He.free_ok X G (c.fact 13 (f := .free "min") rfl),
    He.free_ok X G (c.fact 14 (f := .free "abs") rfl),
    He.free_ok X G (c.fact 15 (f := .free "enumerate") rfl),
    He.free_ok X G (c.fact 16 (f := .free "dict") rfl)⟩
theorem g_broken (T : Tx K mg sa sx) : mg "broken" = some (.ref (He.ga K "broken")) := T.g0
theorem g__law_bag (T : Tx K mg sa sx) : mg "_law_bag" = some (.ref (He.ga K "_law_bag")) := T.g1
theorem g__law_take (T : Tx K mg sa sx) : mg "_law_take" = some (.ref (He.ga K "_law_take")) := T.g2
theorem g__law_of (T : Tx K mg sa sx) : mg "_law_of" = some (.ref (He.ga K "_law_of")) := T.g3
theorem g__law_due (T : Tx K mg sa sx) : mg "_law_due" = some (.ref (He.ga K "_law_due")) := T.g4
theorem g_law (T : Tx K mg sa sx) : mg "law" = some (.ref (He.ga K "law")) := T.g5
theorem n_len (T : Tx K mg sa sx) : mg "len" = none := T.n0
theorem n_range (T : Tx K mg sa sx) : mg "range" = none := T.n1
theorem n_int (T : Tx K mg sa sx) : mg "int" = none := T.n2
theorem n_tuple (T : Tx K mg sa sx) : mg "tuple" = none := T.n3
theorem n_list (T : Tx K mg sa sx) : mg "list" = none := T.n4
theorem n_isinstance (T : Tx K mg sa sx) : mg "isinstance" = none := T.n5
theorem n_max (T : Tx K mg sa sx) : mg "max" = none := T.n6
theorem n_min (T : Tx K mg sa sx) : mg "min" = none := T.n7
theorem n_abs (T : Tx K mg sa sx) : mg "abs" = none := T.n8
theorem n_enumerate (T : Tx K mg sa sx) : mg "enumerate" = none := T.n9
theorem n_dict (T : Tx K mg sa sx) : mg "dict" = none := T.n10
theorem exs_at (T : Tx K mg sa sx) (i : Nat) {b : Bool} (h : (exs K)[i]? = some b := by rfl) : b = true := List.all_eq_true.mp T.k b (List.mem_of_getElem? h)
theorem f_broken (T : Tx K mg sa sx) : ∃ fd, FunD K "broken" "broken" (defArgs s_broken) (defBody s_broken) (defScope s_broken) [] [] (He.ga K "broken") fd := T.c.def_ 0 (d := d_broken) rfl
theorem f_l_bag (T : Tx K mg sa sx) : ∃ fd, FunD K "_law_bag" "_law_bag" (defArgs s_l_bag) (defBody s_l_bag) (defScope s_l_bag) [] [] (He.ga K "_law_bag") fd := T.c.def_ 1 (d := d_l_bag) rfl
theorem f_l_take (T : Tx K mg sa sx) : ∃ fd, FunD K "_law_take" "_law_take" (defArgs s_l_take) (defBody s_l_take) (defScope s_l_take) [] [] (He.ga K "_law_take") fd := T.c.def_ 2 (d := d_l_take) rfl
theorem f_l_of (T : Tx K mg sa sx) : ∃ fd, FunD K "_law_of" "_law_of" (defArgs s_l_of) (defBody s_l_of) (defScope s_l_of) [] [] (He.ga K "_law_of") fd := T.c.def_ 3 (d := d_l_of) rfl
theorem f_l_due (T : Tx K mg sa sx) : ∃ fd, FunD K "_law_due" "_law_due" (defArgs s_l_due) (defBody s_l_due) (defScope s_l_due) [] [] (He.ga K "_law_due") fd := T.c.def_ 4 (d := d_l_due) rfl
theorem f_law (T : Tx K mg sa sx) : ∃ fd, FunD K "law" "law" (defArgs s_law) (defBody s_law) (defScope s_law) [] [] (He.ga K "law") fd := T.c.def_ 5 (d := d_law) rfl
end
end K47
namespace K47
open PySem PySem.Spec PyProof.Rows Cm
open L2 hiding Same
abbrev R : PySem.W.OpenRow := PySem.W.OpenLaw.row PySem.Challenge.rw_quietedition_k47_chains_of_quiet_steps
def part (n : Nat) (g : Addr → Option Obj) : PySem.W.Frag := He.frG g (He.asD g n)
def seen (n : Nat) (g : Addr → Option Obj) : He.AlD × Bool := (He.obsD fa fn (part n g), (exs (part n g)).all id)
def hkz (n : Nat) : PySem.W.Hook where
  α := He.AlD × Bool
  obs s := seen n s.heap.get?
  val _ := (He.valD fn, true)
  says _ h := ∃ K : PySem.W.Frag, K.In h ∧ He.SaysD fa fn K ∧ (exs K).all id = true
  of _ _ e := ⟨_, He.frG_in, congrArg Prod.fst e, congrArg Prod.snd e⟩
  keeps _ _ _ := fun ⟨K, i, c⟩ k => ⟨K, PySem.W.Frag.In.keeps i k, c⟩
def ob (s : PySem.W.SharedT) : He.AlD × Bool := seen 2 (HandSHeadRun.getT s)
theorem ob_eq (s : PySem.W.SharedT) : ob s = (hkz 2).obs s.abs := by
  have e : HandSHeadRun.getT s = s.abs.heap.get? := funext (HandSHeadRun.getT_eq s)
  show seen 2 _ = seen 2 _
  rw [e]
def loose0 : List Str := ["broken", "_law_bag", "_law_take", "_law_of", "_law_due"]
def loose : List Str := loose0
theorem run (w : World) : HandSHeadRun.RunEq R (PySem.W.view R.prog [7]) (hkz 2) ob 700 loose w := by
  intro os
  kernel_rfl
end K47
namespace Cm
open PySem PySem.Spec PyProof.Rows
open L2 hiding Same
/-! ### each once -/
def addN (s : List Int) (v : Int) : List Int := if v ∈ s then s else s ++ [v]
def fin (kept : List Int) : List Int → List Int → List Int
  | s, [] => s
  | s, v :: vs => if v ∈ kept then fin kept s vs else fin kept (addN s v) vs
theorem fin_filter (kept : List Int) : ∀ (xs s : List Int), (xs.filter fun v => decide (v ∉ kept)).foldl addN s = fin kept s xs
  | [], _ => rfl
  | v :: vs, s => by
    by_cases h : v ∈ kept
    · rw [fin, if_pos h, List.filter_cons_of_neg (by simpa using h), fin_filter kept vs s]
    · rw [fin, if_neg h, List.filter_cons_of_pos (by simpa using h), List.foldl_cons, fin_filter kept vs _]
theorem due_fin {kept sk : List Int} (h : ∀ v, v ∈ sk ↔ v ∈ kept) : ∀ (xs s : List Int), xs.foldl addN (sk ++ s) = sk ++ fin kept s xs
  | [], _ => rfl
  | v :: vs, s => by
    rw [List.foldl_cons, fin]
    by_cases h1 : v ∈ kept
    · rw [if_pos h1, show addN (sk ++ s) v = sk ++ s from if_pos (List.mem_append.mpr (.inl ((h v).mpr h1))), due_fin h vs s]
    · rw [if_neg h1]
      by_cases h2 : v ∈ s
      · rw [show addN (sk ++ s) v = sk ++ s from if_pos (List.mem_append.mpr (.inr h2)), show addN s v = s from if_pos h2, due_fin h vs s]
      · have h3 : v ∉ sk ++ s := fun z => (List.mem_append.mp z).elim (fun z => h1 ((h v).mp z)) h2
        rw [show addN (sk ++ s) v = sk ++ (s ++ [v]) from by unfold addN; rw [if_neg h3, List.append_assoc], show addN s v = s ++ [v] from if_neg h2, due_fin h vs _]
theorem addN_in {s : List Int} {v : Int} (h : v ∈ s) : addN s v = s := if_pos h
theorem addN_out {s : List Int} {v : Int} (h : v ∉ s) : addN s v = s ++ [v] := if_neg h
theorem addN_nodup {s : List Int} {v : Int} (h : s.Nodup) : (addN s v).Nodup := by
  unfold addN
  by_cases c : v ∈ s
  · rw [if_pos c]; exact h
  · rw [if_neg c]; exact nodup_app h c
theorem fin_nodup (kept : List Int) : ∀ (xs s : List Int), s.Nodup → (fin kept s xs).Nodup
  | [], _, h => h
  | v :: vs, s, h => by
    rw [fin]
    by_cases c : v ∈ kept
    · rw [if_pos c]; exact fin_nodup kept vs s h
    · rw [if_neg c]; exact fin_nodup kept vs _ (addN_nodup h)
theorem mem_addN {s : List Int} {v w : Int} : w ∈ addN s v ↔ w ∈ s ∨ w = v := by
  unfold addN
  by_cases c : v ∈ s
  · rw [if_pos c]; exact ⟨.inl, fun h => h.elim id fun e => e ▸ c⟩
  · rw [if_neg c]; simp
theorem mem_fin (kept : List Int) (w : Int) : ∀ (xs s : List Int), w ∈ fin kept s xs ↔ w ∈ s ∨ (w ∈ xs ∧ w ∉ kept)
  | [], s => by rw [fin]; simp
  | v :: vs, s => by
    rw [fin]
    by_cases c : v ∈ kept
    · rw [if_pos c, mem_fin kept w vs s]
      constructor
      · rintro (h | ⟨h1, h2⟩)
        · exact .inl h
        · exact .inr ⟨List.mem_cons_of_mem _ h1, h2⟩
      · rintro (h | ⟨h1, h2⟩)
        · exact .inl h
        · rcases List.mem_cons.mp h1 with e | e
          · exact absurd c (e ▸ h2)
          · exact .inr ⟨e, h2⟩
    · rw [if_neg c, mem_fin kept w vs _, mem_addN]
      constructor
      · rintro ((h | h) | ⟨h1, h2⟩)
        · exact .inl h
        · exact .inr ⟨h ▸ List.mem_cons_self, h ▸ c⟩
        · exact .inr ⟨List.mem_cons_of_mem _ h1, h2⟩
      · rintro (h | ⟨h1, h2⟩)
        · exact .inl (.inl h)
        · rcases List.mem_cons.mp h1 with e | e
          · exact .inl (.inr e)
          · exact .inr ⟨e, h2⟩
theorem fin_pre (kept : List Int) : ∀ (xs s : List Int), ∃ t, fin kept s xs = s ++ t
  | [], s => ⟨[], (List.append_nil s).symm⟩
  | v :: vs, s => by
    rw [fin]
    by_cases c : v ∈ kept
    · rw [if_pos c]; exact fin_pre kept vs s
    · rw [if_neg c]
      obtain ⟨t, e⟩ := fin_pre kept vs (addN s v)
      rw [e]
      unfold addN
      by_cases d : v ∈ s
      · rw [if_pos d]; exact ⟨t, rfl⟩
      · rw [if_neg d, List.append_assoc]; exact ⟨_, rfl⟩
/-! ### a pattern with one more -/
def ent (kept U : List Int) (c : Int) : En := if c ∈ kept then .k c else if c ∈ U then .n (U.idxOf c) else .n U.length
theorem pat_app (kept : List Int) (c : Int) : ∀ (xs s : List Int), pat kept s (xs ++ [c]) = pat kept s xs ++ [ent kept (fin kept s xs) c]
  | [], s => by
    show pat kept s [c] = [ent kept s c]
    unfold ent
    by_cases h : c ∈ kept
    · rw [pat_k h, if_pos h]; rfl
    · by_cases h2 : c ∈ s
      · rw [pat_o h h2, if_neg h, if_pos h2]; rfl
      · rw [pat_n h h2, if_neg h, if_neg h2]; rfl
  | v :: vs, s => by
    rw [List.cons_append, fin]
    by_cases h : v ∈ kept
    · rw [pat_k h, pat_k h, if_pos h, pat_app kept c vs s]; rfl
    · rw [if_neg h]
      by_cases h2 : v ∈ s
      · rw [pat_o h h2, pat_o h h2, show addN s v = s from if_pos h2, pat_app kept c vs s]; rfl
      · rw [pat_n h h2, pat_n h h2, show addN s v = s ++ [v] from if_neg h2, pat_app kept c vs _]; rfl
theorem pat_app_eq {kept xs : List Int} {c n : Int} : pat kept [] (xs ++ [c]) = pat kept [] (xs ++ [n]) ↔ ent kept (fin kept [] xs) c = ent kept (fin kept [] xs) n := by
  rw [pat_app, pat_app]
  exact ⟨fun h => by simpa using h, fun h => by rw [h]⟩
/-- the choices: sk those kept, U the others, f a new one -/
structure Chs (kept sk U : List Int) (f : Int) : Prop where
  mem : ∀ v, v ∈ sk ↔ v ∈ kept
  len : sk.length = kept.length
  nk : sk.Nodup
  nu : U.Nodup
  dj : ∀ v ∈ U, v ∉ kept
  fk : f ∉ kept
  fu : f ∉ U
def chs (sk U : List Int) (f : Int) : List Int := sk ++ U ++ [f]
section
variable {kept sk U : List Int} {f : Int}
theorem Chs.nodup (h : Chs kept sk U f) : (chs sk U f).Nodup := by
  unfold chs
  refine nodup_app ?_ fun z => (List.mem_append.mp z).elim (fun z => h.fk ((h.mem f).mp z)) h.fu
  rw [List.nodup_append]
  exact ⟨h.nk, h.nu, fun a ha b hb e => h.dj b hb ((h.mem b).mp (e ▸ ha))⟩
theorem Chs.cases (h : Chs kept sk U f) {c : Int} (m : c ∈ chs sk U f) : c ∈ kept ∨ (c ∉ kept ∧ c ∈ U) ∨ c = f := by
  unfold chs at m
  rcases List.mem_append.mp m with m | m
  · rcases List.mem_append.mp m with m | m
    · exact .inl ((h.mem c).mp m)
    · exact .inr (.inl ⟨h.dj c m, m⟩)
  · exact .inr (.inr (by simpa using m))
theorem Chs.inj (h : Chs kept sk U f) {c d : Int} (mc : c ∈ chs sk U f) (md : d ∈ chs sk U f) (e : ent kept U c = ent kept U d) : c = d := by
  unfold ent at e
  rcases h.cases mc with c1 | ⟨c1, c2⟩ | c1 <;> rcases h.cases md with d1 | ⟨d1, d2⟩ | d1
  · rw [if_pos c1, if_pos d1] at e; injection e
  · rw [if_pos c1, if_neg d1, if_pos d2] at e; cases e
  · subst d1; rw [if_pos c1, if_neg h.fk, if_neg h.fu] at e; cases e
  · rw [if_neg c1, if_pos c2, if_pos d1] at e; cases e
  · rw [if_neg c1, if_pos c2, if_neg d1, if_pos d2] at e
    injection e with e
    have a := idx_at c2
    have b := idx_at d2
    have b2 : U[U.idxOf c]'(idx_lt c2) = d := by rw [← b]; congr 1
    rw [← a, b2]
  · subst d1; rw [if_neg c1, if_pos c2, if_neg h.fk, if_neg h.fu] at e; injection e with e; have := idx_lt c2; omega
  · subst c1; rw [if_neg h.fk, if_neg h.fu, if_pos d1] at e; cases e
  · subst c1; rw [if_neg h.fk, if_neg h.fu, if_neg d1, if_pos d2] at e; injection e with e; have := idx_lt d2; omega
  · rw [c1, d1]
theorem Chs.has (h : Chs kept sk U f) (n : Int) : ∃ c ∈ chs sk U f, ent kept U c = ent kept U n := by
  by_cases h1 : n ∈ kept
  · exact ⟨n, by unfold chs; simp [(h.mem n).mpr h1], rfl⟩
  · by_cases h2 : n ∈ U
    · exact ⟨n, by unfold chs; simp [h2], rfl⟩
    · refine ⟨f, by unfold chs; simp, ?_⟩
      unfold ent
      rw [if_neg h.fk, if_neg h.fu, if_neg h1, if_neg h2]
theorem filter_one {l : List Int} {c : Int} {p : Int → Bool} (nd : l.Nodup) (hc : c ∈ l) (hp : ∀ d ∈ l, (p d = true ↔ d = c)) : (l.filter p).length = 1 := by
  induction l with
  | nil => cases hc
  | cons x l ih =>
    obtain ⟨h1, h2⟩ := List.nodup_cons.mp nd
    by_cases e : x = c
    · subst e
      have : l.filter p = [] := List.filter_eq_nil_iff.mpr fun d hd z => h1 ((hp d (List.mem_cons_of_mem _ hd)).mp z ▸ hd)
      rw [List.filter_cons_of_pos ((hp x List.mem_cons_self).mpr rfl), this]; rfl
    · rw [List.filter_cons_of_neg fun z => e ((hp x List.mem_cons_self).mp z)]
      exact ih h2 ((List.mem_cons.mp hc).resolve_left fun z => e z.symm) fun d hd => hp d (List.mem_cons_of_mem _ hd)
/-- exactly one choice has the pattern -/
theorem Chs.one {xs : List Int} (h : Chs kept sk (fin kept [] xs) f) (n : Int) : ((chs sk (fin kept [] xs) f).filter fun c => decide (pat kept [] (xs ++ [c]) = pat kept [] (xs ++ [n]))).length = 1 := by
  obtain ⟨c, hc, e⟩ := h.has n
  refine filter_one h.nodup hc fun d hd => ?_
  rw [decide_eq_true_iff, pat_app_eq, ← e]
  exact ⟨h.inj hd hc, fun z => by rw [z]⟩
/-- by places -/
theorem Chs.at (h : Chs kept sk U f) {k : Nat} (hk : k < (chs sk U f).length) : ent kept U (chs sk U f)[k] = if hs : k < sk.length then .k sk[k] else .n (k - sk.length) := by
  unfold chs at hk ⊢
  unfold ent
  by_cases c1 : k < sk.length
  · have e : (sk ++ U ++ [f])[k] = sk[k] := by rw [List.getElem_append_left (by rw [List.length_append]; omega), List.getElem_append_left c1]
    rw [dif_pos c1, e, if_pos ((h.mem _).mp (List.getElem_mem c1))]
  · rw [dif_neg c1]
    by_cases c2 : k - sk.length < U.length
    · have e : (sk ++ U ++ [f])[k] = U[k - sk.length] := by rw [List.getElem_append_left (by rw [List.length_append]; omega), List.getElem_append_right (by omega)]
      rw [e, if_neg (h.dj _ (List.getElem_mem c2)), if_pos (List.getElem_mem c2), idx_nodup h.nu c2]
    · have hl : k = sk.length + U.length := by simp at hk; omega
      have e : (sk ++ U ++ [f])[k] = f := by rw [List.getElem_append_right (by rw [List.length_append]; omega)]; simp
      rw [e, if_neg h.fk, if_neg h.fu]
      congr 1; omega
theorem chs_len (sk U : List Int) (f : Int) : (chs sk U f).length = sk.length + U.length + 1 := by unfold chs; simp; omega
/-- the entry by the place in the list of choices -/
theorem Chs.idx (h : Chs kept sk U f) {c : Int} (m : c ∈ chs sk U f) (hc : c ∉ kept) : ent kept U c = .n ((chs sk U f).idxOf c - kept.length) ∧ kept.length ≤ (chs sk U f).idxOf c := by
  have hk := idx_lt m
  have ha := idx_at m
  have e := h.at hk
  rw [ha] at e
  by_cases c1 : (chs sk U f).idxOf c < sk.length
  · rw [dif_pos c1] at e
    unfold ent at e
    rw [if_neg hc] at e
    by_cases c2 : c ∈ U
    · rw [if_pos c2] at e; cases e
    · rw [if_neg c2] at e; cases e
  · rw [dif_neg c1] at e
    rw [e, h.len]
    exact ⟨rfl, by have := h.len; omega⟩
theorem Chs.rz (h : Chs kept sk U f) {c : Int} (m : c ∈ chs sk U f) : rz (U ++ [f]) (ent kept U c) = c := by
  unfold ent
  rcases h.cases m with c1 | ⟨c1, c2⟩ | c1
  · rw [if_pos c1]; rfl
  · rw [if_neg c1, if_pos c2]
    show g (U ++ [f]) _ = c
    rw [g_app1 (idx_lt c2), g_at (idx_lt c2), idx_at c2]
  · subst c1
    rw [if_neg h.fk, if_neg h.fu]
    exact g_app2
theorem ent_lt {c : Int} {i : Nat} (e : ent kept U c = .n i) : i ≤ U.length := by
  unfold ent at e
  by_cases c1 : c ∈ kept
  · rw [if_pos c1] at e; cases e
  · rw [if_neg c1] at e
    by_cases c2 : c ∈ U
    · rw [if_pos c2] at e; injection e with e; have := idx_lt c2; omega
    · rw [if_neg c2] at e; injection e with e; omega
theorem ent_k {c v : Int} (e : ent kept U c = .k v) : v ∈ kept := by
  unfold ent at e
  by_cases c1 : c ∈ kept
  · rw [if_pos c1] at e; injection e with e; exact e ▸ c1
  · rw [if_neg c1] at e
    by_cases c2 : c ∈ U
    · rw [if_pos c2] at e; cases e
    · rw [if_neg c2] at e; cases e
end
/-! ### how many classes -/
theorem fin_cnt (kept : List Int) : ∀ (xs s : List Int), (∀ i, En.n i ∈ pat kept s xs → i < (fin kept s xs).length) ∧ ((fin kept s xs).length = s.length ∨ En.n ((fin kept s xs).length - 1) ∈ pat kept s xs)
  | [], s => ⟨fun i h => by simp [pat] at h, .inl rfl⟩
  | v :: vs, s => by
    rw [fin]
    by_cases h : v ∈ kept
    · obtain ⟨a, b⟩ := fin_cnt kept vs s
      rw [if_pos h, pat_k h]
      exact ⟨fun i hi => (List.mem_cons.mp hi).elim (fun e => by cases e) (a i), b.imp id (List.mem_cons_of_mem _)⟩
    · rw [if_neg h]
      by_cases h2 : v ∈ s
      · obtain ⟨a, b⟩ := fin_cnt kept vs s
        rw [show addN s v = s from if_pos h2, pat_o h h2]
        refine ⟨fun i hi => (List.mem_cons.mp hi).elim (fun e => ?_) (a i), b.imp id (List.mem_cons_of_mem _)⟩
        injection e with e
        obtain ⟨t, et⟩ := fin_pre kept vs s
        have := idx_lt h2
        rw [et, List.length_append]; omega
      · obtain ⟨a, b⟩ := fin_cnt kept vs (s ++ [v])
        obtain ⟨t, et⟩ := fin_pre kept vs (s ++ [v])
        rw [show addN s v = s ++ [v] from if_neg h2, pat_n h h2]
        refine ⟨fun i hi => (List.mem_cons.mp hi).elim (fun e => ?_) (a i), .inr ?_⟩
        · injection e with e
          rw [et]; simp; omega
        · rcases b with b | b
          · rw [b]
            simp
          · exact List.mem_cons_of_mem _ b
theorem fin_cntOk (kept xs : List Int) : CntOk (fin kept [] xs).length (pat kept [] xs) := by
  obtain ⟨a, b⟩ := fin_cnt kept xs []
  exact ⟨a, b⟩
theorem CntOk.uniq {c d : Nat} {es : List En} (h : CntOk c es) (h2 : CntOk d es) : c = d := by
  have a := h.le h2.1
  have b := h2.le h.1
  omega
/-! ### the values again -/
theorem pat_rep (kept tl : List Int) : ∀ (xs s : List Int), (pat kept s xs).map (rz (fin kept s xs ++ tl)) = xs
  | [], _ => rfl
  | v :: vs, s => by
    rw [fin]
    by_cases h : v ∈ kept
    · rw [if_pos h, pat_k h, List.map_cons, pat_rep kept tl vs s]; rfl
    · rw [if_neg h]
      by_cases h2 : v ∈ s
      · rw [show addN s v = s from if_pos h2, pat_o h h2, List.map_cons, pat_rep kept tl vs s]
        congr 1
        obtain ⟨t, et⟩ := fin_pre kept vs s
        show g _ _ = v
        rw [et, List.append_assoc, g_at (by rw [List.length_append]; have := idx_lt h2; omega), List.getElem_append_left (idx_lt h2), idx_at h2]
      · rw [show addN s v = s ++ [v] from if_neg h2, pat_n h h2, List.map_cons, pat_rep kept tl vs (s ++ [v])]
        congr 1
        obtain ⟨t, et⟩ := fin_pre kept vs (s ++ [v])
        show g _ _ = v
        rw [et, List.append_assoc, List.append_assoc, g_at (by simp), List.getElem_append_right (Nat.le_refl _)]
        simp
/-- two ways to realise one list of entries have one pattern -/
theorem rz_same {kept o1 o2 : List Int} {es : List En} (n1 : o1.Nodup) (n2 : o2.Nodup) (hl : o1.length = o2.length) (d1 : ∀ v ∈ o1, v ∉ kept) (d2 : ∀ v ∈ o2, v ∉ kept) (hb : ∀ i, En.n i ∈ es → i < o1.length) (hk : ∀ v, En.k v ∈ es → v ∈ kept) :
    pat kept [] (es.map (rz o1)) = pat kept [] (es.map (rz o2)) := by
  refine (alike_iff (by simp)).mpr fun k hk2 => ?_
  rw [List.length_map] at hk2
  have at1 : ∀ {o : List Int} {j : Nat} (hj : j < es.length), g (es.map (rz o)) j = rz o es[j] := fun hj => by rw [g_at (by simpa using hj)]; simp
  have key : ∀ {i : Nat} (h : En.n i ∈ es) {o : List Int} (e : o.length = o1.length), rz o (.n i) = o[i]'(by have := hb _ h; omega) := by
    intro i h o e; exact g_at _
  have ni : ∀ {i : Nat} {o : List Int}, En.n i ∈ es → o.length = o1.length → (∀ v ∈ o, v ∉ kept) → rz o (.n i) ∉ kept := by
    intro i o h e d; rw [key h e]; exact d _ (List.getElem_mem _)
  have inj : ∀ {o : List Int}, o.length = o1.length → o.Nodup → (∀ v ∈ o, v ∉ kept) → ∀ {a b : En}, a ∈ es → b ∈ es → (rz o a = rz o b ↔ a = b) := by
    intro o e nd d a b ha hb'
    refine ⟨fun z => ?_, fun z => by rw [z]⟩
    cases a with
    | k v => cases b with
      | k w => exact congrArg En.k z
      | n j => exact absurd (hk v ha) (by rw [show v = rz _ (.n j) from z]; exact ni hb' e d)
    | n i => cases b with
      | k w => exact absurd (hk w hb') (by rw [← show rz _ (.n i) = w from z]; exact ni ha e d)
      | n j =>
        rw [key ha e, key hb' e] at z
        have h1 := hb _ ha
        have h2 := hb _ hb'
        by_cases c : i = j
        · rw [c]
        · rcases Nat.lt_or_gt_of_ne c with l | l
          · exact absurd z (List.pairwise_iff_getElem.mp nd i j (by omega) (by omega) l)
          · exact absurd z.symm (List.pairwise_iff_getElem.mp nd j i (by omega) (by omega) l)
  refine ⟨fun h => ?_, fun j hj => ?_⟩
  · rw [at1 hk2, at1 hk2] at *
    cases e : es[k] with
    | k v => rfl
    | n i =>
      have hm : En.n i ∈ es := e ▸ List.getElem_mem hk2
      rw [e] at h
      exact h.elim (fun z => absurd z (ni hm rfl d1)) fun z => absurd z (ni hm hl.symm d2)
  · have hj2 : j < es.length := Nat.lt_trans hj hk2
    rw [at1 hk2, at1 hj2, at1 hk2, at1 hj2, inj rfl n1 d1 (List.getElem_mem _) (List.getElem_mem _), inj hl.symm n2 d2 (List.getElem_mem _) (List.getElem_mem _)]
theorem rz_congr {o1 o2 : List Int} {es : List En} (h : ∀ i, En.n i ∈ es → g o1 i = g o2 i) : es.map (rz o1) = es.map (rz o2) := by
  refine List.map_congr_left fun e he => ?_
  cases e with
  | k v => rfl
  | n i => exact h i he
theorem frs_pre {c i : Nat} {t : List Int} (h : i < c) : g (frs c t) i = g (frs (c + 1) t) i := by
  rw [g_at (by rw [frs_len]; exact h), g_at (by rw [frs_len]; omega)]
  have a : (frs c t)[i]'(by rw [frs_len]; exact h) = (fre t (c + t.length))[i]'(by have := fre_len t (c + t.length); omega) := by unfold frs; rw [List.getElem_take]
  have b : (frs (c + 1) t)[i]'(by rw [frs_len]; omega) = (fre t (c + 1 + t.length))[i]'(by have := fre_len t (c + 1 + t.length); omega) := by unfold frs; rw [List.getElem_take]
  have e : fre t (c + 1 + t.length) = fre t (c + t.length) ++ (if ((c + t.length : Nat) : Int) ∉ t then [((c + t.length : Nat) : Int)] else []) := by
    rw [show c + 1 + t.length = (c + t.length) + 1 from by omega, fre_succ]
  rw [a, b, List.getElem_of_eq e, List.getElem_append_left]
/-! ### the first free one -/
theorem fre_nil {t : List Int} {n : Nat} : (fre t n).length = 0 ↔ ∀ i < n, (i : Int) ∈ t := by
  rw [List.length_eq_zero_iff]
  unfold fre
  rw [List.filter_eq_nil_iff]
  constructor
  · intro h i hi
    have := h (i : Int) (List.mem_map.mpr ⟨i, List.mem_range.mpr hi, rfl⟩)
    simpa using this
  · intro h v hv
    obtain ⟨i, hi, rfl⟩ := List.mem_map.mp hv
    simpa using h i (List.mem_range.mp hi)
theorem frs_one {t : List Int} {n : Nat} (h1 : (n : Int) ∉ t) (h2 : ∀ i < n, (i : Int) ∈ t) : frs 1 t = [(n : Int)] := by
  have hl : (frs 1 t).length = 1 := frs_len 1 t
  obtain ⟨a, b, c, d⟩ := frs_at (c := 1) (t := t) (i := 0) (by decide)
  have z := fre_nil.mp d
  have e : g (frs 1 t) 0 = (n : Int) := by
    have e0 : g (frs 1 t) 0 = (((g (frs 1 t) 0).toNat : Nat) : Int) := by omega
    rcases Nat.lt_trichotomy (g (frs 1 t) 0).toNat n with h | h | h
    · exact absurd (h2 _ h) (by rw [← e0]; exact c)
    · rw [e0, h]
    · exact absurd (z n h) h1
  rw [g_at (by omega)] at e
  match h : frs 1 t, hl with
  | [x], _ => simp [h] at e; rw [e]
theorem below_len {t : List Int} {n : Nat} (h : ∀ i < n, (i : Int) ∈ t) : n ≤ t.length := by
  have := fre_len t n
  rw [fre_nil.mpr h] at this
  omega
/-! ### a dict of truths -/
def trs (s : List Int) : List (Key × V) := s.map fun v => (Sum.inl v, V.bl true)
theorem put_trs (s : List Int) (v : Int) : putK (trs s) (Sum.inl v) (V.bl true) = trs (addN s v) := by
  unfold putK addN
  by_cases h : v ∈ s
  · have e : ((trs s).any fun kv => decide (kv.1 = (Sum.inl v : Key))) = true := List.any_eq_true.mpr ⟨(Sum.inl v, V.bl true), List.mem_map.mpr ⟨v, h, rfl⟩, by simp⟩
    rw [e, if_pos rfl, if_pos h]
    unfold trs
    rw [List.map_map]
    refine List.map_congr_left fun w _ => ?_
    by_cases c : w = v
    · subst c; simp
    · simp [c]
  · have e : ((trs s).any fun kv => decide (kv.1 = (Sum.inl v : Key))) = false := by
      rw [List.any_eq_false]
      intro kv hk z
      obtain ⟨w, hw, rfl⟩ := List.mem_map.mp hk
      have z2 : w = v := by simpa using z
      exact h (z2 ▸ hw)
    rw [e, if_neg (by simp), if_neg h]
    unfold trs
    rw [List.map_append]; rfl
theorem addN_len (s : List Int) (v : Int) : (addN s v).length ≤ s.length + 1 := by
  unfold addN
  by_cases c : v ∈ s
  · rw [if_pos c]; omega
  · rw [if_neg c, List.length_append]; simp
theorem dc_list {K : PySem.W.Frag} {a : Addr} {xs : List V} {g : TG} {tt : TT} {tk tv : TE} {vs : List Nat} {σ : L2.St} {H1 : Hp} {D : Addr} {Qd : Hp → Prop} (Pv : Nat → Hp → Prop) (h0 : Pv 0 (upd H1 D (.dK []))) (hl : ∀ i H, i ≤ xs.length → Pv i H → SqL K H a xs)
    (hs : ∀ i x H, xs[i]? = some x → Pv i H → g x (wipe σ vs) H fun σ2 H2 => wipe σ2 vs = wipe σ vs ∧ tt σ2 H2 fun b H3 =>
      if b = true then tk σ2 H3 fun y H4 => tv σ2 H4 fun z H5 => ∃ kvs k, y = kV k ∧ H5 D = some (.dK kvs) ∧ kvs.length < sizeLine ∧ Pv (i + 1) (upd H5 D (.dK (putK kvs k z))) else Pv (i + 1) H3) (hd : ∀ H, Pv xs.length H → Qd H) :
    ∃ W : Nat → Nat → Hp → Prop, (∃ m, W 0 m (upd H1 D (.dK []))) ∧ ∀ i m H, W i m H →
      ((Itl K a).stop i H ∧ Qd H) ∨ ((Itl K a).go i H ∧ ∃ Nx : Hp → Prop, (∀ H', Nx H' → ∃ m', m' < m ∧ W (i + 1) m' H') ∧ ∀ x H', (Itl K a).yld i H x H' → g x (wipe σ vs) H' fun σ2 H2 => wipe σ2 vs = wipe σ vs ∧ tt σ2 H2 fun b H3 =>
        if b = true then tk σ2 H3 fun y H4 => tv σ2 H4 fun z H5 => ∃ kvs k, y = kV k ∧ H5 D = some (.dK kvs) ∧ kvs.length < sizeLine ∧ Nx (upd H5 D (.dK (putK kvs k z))) else Nx H3) := by
  refine ⟨fun i m H => m = xs.length - i ∧ i ≤ xs.length ∧ Pv i H, ⟨xs.length, by simp, Nat.zero_le _, h0⟩, ?_⟩
  rintro i m H ⟨rfl, hi, p⟩
  have q := hl i H hi p
  by_cases hlt : i < xs.length
  · refine .inr ⟨⟨xs, xs[i], q, by simp [hlt]⟩, Pv (i + 1), fun H' p' => ⟨xs.length - (i + 1), by omega, rfl, hlt, p'⟩, fun x H' y => ?_⟩
    obtain ⟨e, y⟩ := y
    subst e
    exact hs i x _ (y xs q) p
  · have e : i = xs.length := by omega
    subst e
    exact .inl ⟨⟨xs, q, Nat.le_refl _⟩, hd H p⟩
end Cm
namespace Cm
open PySem PySem.Spec PyProof.Rows
open L2 hiding Same
def srt (ks : List Int) : List Int := ks.mergeSort (fun a b => decide (a ≤ b))
theorem srt_perm (ks : List Int) : (srt ks).Perm ks := List.mergeSort_perm ..
theorem srt_up (ks : List Int) : (srt ks).Pairwise (· ≤ ·) := by
  have := List.pairwise_mergeSort (le := fun a b : Int => decide (a ≤ b)) (fun a b c h1 h2 => by simp at *; omega) (fun a b => by simp; omega) ks
  exact this.imp fun h => by simpa using h
theorem srt_of {ks ns : List Int} (p : ns.Perm ks) (u : ns.Pairwise (· ≤ ·)) : ns = srt ks :=
  (p.trans (srt_perm ks).symm).eq_of_pairwise (fun x y _ _ h1 h2 => Int.le_antisymm h1 h2) u (srt_up ks)
theorem chs_of {ks xs : List Int} {f : Int} (nd : ks.Nodup) (fk : f ∉ ks) (fu : f ∉ fin ks [] xs) : Chs ks (srt ks) (fin ks [] xs) f where
  mem v := (srt_perm ks).mem_iff
  len := (srt_perm ks).length_eq
  nk := (srt_perm ks).nodup_iff.mpr nd
  nu := fin_nodup ks xs [] List.nodup_nil
  dj v h := by
    rcases (mem_fin ks v xs []).mp h with h | h
    · cases h
    · exact h.2
  fk := fk
  fu := fu
theorem trs_keys (s : List Int) : ((trs s).map fun kv => kV kv.1) = s.map V.int := by
  unfold trs
  rw [List.map_map]; rfl
theorem fold_take {xs : List Int} {i : Nat} (h : i < xs.length) (s : List Int) : (xs.take (i + 1)).foldl addN s = addN ((xs.take i).foldl addN s) xs[i] := by
  rw [List.take_add_one, List.getElem?_eq_getElem h, List.foldl_append]; rfl
theorem fold_len (xs s : List Int) : (xs.foldl addN s).length ≤ s.length + xs.length := by
  induction xs generalizing s with
  | nil => simp
  | cons x xs ih =>
    rw [List.foldl_cons]
    have := ih (addN s x)
    have := addN_len s x
    simp; omega
theorem fin_len (kept xs : List Int) : (fin kept [] xs).length ≤ xs.length := by
  rw [← fin_filter]
  have := fold_len (xs.filter fun v => decide (v ∉ kept)) []
  have := List.length_filter_le (fun v => decide (v ∉ kept)) xs
  simp at *; omega
end Cm
namespace Cm
open PySem PySem.Spec PyProof.Rows
open L2 hiding Same
def fr1 (ks xs : List Int) : Int := g (frs 1 (ks ++ fin ks [] xs)) 0
theorem fr1_fresh (ks xs : List Int) : fr1 ks xs ∉ ks ∧ fr1 ks xs ∉ fin ks [] xs := by
  obtain ⟨_, _, h, _⟩ := frs_at (c := 1) (t := ks ++ fin ks [] xs) (i := 0) (by decide)
  exact ⟨fun z => h (List.mem_append.mpr (.inl z)), fun z => h (List.mem_append.mpr (.inr z))⟩
theorem frs1_eq (t : List Int) : frs 1 t = [g (frs 1 t) 0] := by
  have hl : (frs 1 t).length = 1 := frs_len 1 t
  match h : frs 1 t, hl with
  | [x], _ => rfl
abbrev chL (ks xs : List Int) : List Int := chs (srt ks) (fin ks [] xs) (fr1 ks xs)
theorem chs_ok {ks xs : List Int} (nd : ks.Nodup) : Chs ks (srt ks) (fin ks [] xs) (fr1 ks xs) := chs_of nd (fr1_fresh ks xs).1 (fr1_fresh ks xs).2
theorem srt_len (ks : List Int) : (srt ks).length = ks.length := (srt_perm ks).length_eq
end Cm
namespace Cm
open PySem PySem.Spec PyProof.Rows
open L2 hiding Same
theorem ixN_nat {n i : Nat} (h : i < n) : ixN n (i : Int) = some i := by
  unfold ixN
  rw [if_pos (by omega), Int.toNat_natCast, if_pos (Int.ofNat_lt.mpr h)]
end Cm
namespace Cm
open PySem PySem.Spec PyProof.Rows
open L2 hiding Same
theorem lay_ints : ∀ ns : List Int, PyData.canLayAll0 (ns.map PyData.int) = true
  | [] => rfl
  | n :: ns => by
    show (PyData.canLay0 (.int n) && PyData.canLayAll0 (ns.map PyData.int)) = true
    rw [lay_ints ns]; rfl
theorem shp_ints (ns : List Int) : SeqAt.shaped (.list (ns.map PyData.int)) = true := by
  unfold SeqAt.shaped
  rw [PyData.canLay0, lay_ints, PyData.depth, depth_ints]
  rfl
theorem eqv_ints (ns : List Int) : PyData.eqv (.list (ns.map PyData.int)) (.list (ns.map PyData.int)) = true := by
  rw [PyData.eqv]
  induction ns with
  | nil => rfl
  | cons n ns ih =>
    show (PyData.eqv (.int n) (.int n) && PyData.eqvAll (ns.map PyData.int) (ns.map PyData.int)) = true
    rw [ih]
    simp [PyData.eqv]
theorem dp_ints {K : PySem.W.Frag} {H : Hp} {a : Addr} {ns : List Int} (h : H a = some (.lst (ns.map V.int))) : Dp K H (.ref a) (.list (ns.map PyData.int)) := .lst (SqL.of h) (dpAll_ints ns)
theorem cut_drop (xs : List V) (c : Nat) : cutV xs (some (c : Int)) none = xs.drop c := by
  unfold cutV
  rw [HT.sIx_none, HT.sIx_nat]
  by_cases h : c ≤ xs.length
  · rw [Nat.min_eq_left h, List.take_of_length_le (by rw [List.length_drop]; omega)]
  · rw [Nat.min_eq_right (by omega), Nat.sub_self, List.take_zero, List.drop_of_length_le (by omega)]
theorem fin_len_eq {ks xs ys : List Int} (h : pat ks [] ys = pat ks [] xs) : (fin ks [] ys).length = (fin ks [] xs).length := by
  have a := fin_cntOk ks ys
  rw [h] at a
  exact a.uniq (fin_cntOk ks xs)
theorem chL_len (ks xs : List Int) : (chL ks xs).length = ks.length + (fin ks [] xs).length + 1 := by
  rw [chL, chs_len, srt_len]
theorem chL_len_eq {ks xs ys : List Int} (h : pat ks [] ys = pat ks [] xs) : (chL ks ys).length = (chL ks xs).length := by
  rw [chL_len, chL_len, fin_len_eq h]
theorem at_math {ks xs ys : List Int} (nd : ks.Nodup) (h : pat ks [] ys = pat ks [] xs) {k : Nat} (h1 : k < (chL ks ys).length) (h2 : k < (chL ks xs).length) : pat ks [] (ys ++ [(chL ks ys)[k]]) = pat ks [] (xs ++ [(chL ks xs)[k]]) := by
  rw [pat_app, pat_app, h, (chs_ok nd).at h1, (chs_ok nd).at h2]
theorem move_math {ks xs : List Int} (nd : ks.Nodup) {c : Int} (hm : c ∈ chL ks xs) (i : Nat) :
    pat ks [] (((pat ks [] xs).map (rz (frs ((fin ks [] xs).length + 1) ks))).set i (rz (frs ((fin ks [] xs).length + 1) ks) (ent ks (fin ks [] xs) c))) = pat ks [] (xs.set i c) := by
  have hC := chs_ok (xs := xs) nd
  have e1 := pat_rep ks [fr1 ks xs] xs []
  have e2 := hC.rz hm
  have e3 : xs.set i c = ((pat ks [] xs).set i (ent ks (fin ks [] xs) c)).map (rz (fin ks [] xs ++ [fr1 ks xs])) := by
    rw [List.map_set, e1, e2]
  rw [e3, ← List.map_set]
  have hme : ∀ {e : En}, e ∈ (pat ks [] xs).set i (ent ks (fin ks [] xs) c) → e ∈ pat ks [] xs ∨ e = ent ks (fin ks [] xs) c := fun h => List.mem_or_eq_of_mem_set h
  refine rz_same (frs_nodup _ _) (nodup_app hC.nu hC.fu) (by rw [frs_len, List.length_append]; rfl) frs_dj (fun v hv => ?_) (fun j hj => ?_) (fun v hv => ?_)
  · rcases List.mem_append.mp hv with h | h
    · exact hC.dj v h
    · simp at h; subst h; exact hC.fk
  · rw [frs_len]
    rcases hme hj with h | h
    · have := (fin_cntOk ks xs).1 j h; omega
    · have := ent_lt h.symm; omega
  · rcases hme hv with h | h
    · exact pat_kept ks xs [] v h
    · exact ent_k h.symm
theorem one_math {ks xs : List Int} (nd : ks.Nodup) (n : Int) : ((chL ks xs).filter fun c => decide (pat ks [] (xs ++ [c]) = pat ks [] (xs ++ [n]))).length = 1 := (chs_ok nd).one n
theorem set_cut (xs : List Int) {i : Nat} (h : i < xs.length) (c : Int) : xs.take i ++ [c] ++ xs.drop (i + 1) = xs.set i c := by
  rw [List.set_eq_take_append_cons_drop, if_pos h, List.append_assoc]; rfl
end Cm
namespace K47
open PySem PySem.Spec PyProof.Rows Cm
open L2 hiding Same
/-! ### lists of tuples of ints -/
abbrev IL := List Int
abbrev AL := List (Addr × IL)
def rfs (l : AL) : List V := l.map fun e => V.ref e.1
def TsAt (H : Hp) (a : Addr) (ts : List IL) : Prop := ∃ l : AL, H a = some (.lst (rfs l)) ∧ l.map (·.2) = ts ∧ ∀ e ∈ l, H e.1 = some (.tup (e.2.map V.int))
theorem TsAt.same {H H' : Hp} {a : Addr} {ts : List IL} (s : Same H H') (h : TsAt H a ts) : TsAt H' a ts :=
  let ⟨l, h1, h2, h3⟩ := h; ⟨l, s _ _ h1, h2, fun e he => s _ _ (h3 e he)⟩
theorem rfs_len (l : AL) : (rfs l).length = l.length := List.length_map ..
theorem TsAt.len {H : Hp} {a : Addr} {ts : List IL} {xs : List V} (h : TsAt H a ts) (e : H a = some (.lst xs)) : xs.length = ts.length := by
  obtain ⟨l, h1, rfl, _⟩ := h
  rw [e] at h1
  cases h1
  rw [rfs_len, List.length_map]
/-- one more at the end -/
theorem TsAt.app {H : Hp} {a t : Addr} {ts : List IL} {xs : List V} {v : IL} (h : TsAt H a ts) (e : H a = some (.lst xs)) (ht : H t = some (.tup (v.map V.int))) : TsAt (upd H a (.lst (xs ++ [.ref t]))) a (ts ++ [v]) := by
  obtain ⟨l, h1, rfl, h3⟩ := h
  rw [e] at h1
  cases h1
  have na : ∀ b ys, H b = some (.tup ys) → b ≠ a := fun b ys hb z => by rw [z, e] at hb; cases hb
  refine ⟨l ++ [(t, v)], by rw [upd_same]; unfold rfs; rw [List.map_append]; rfl, by rw [List.map_append]; rfl, fun q hq => ?_⟩
  rcases List.mem_append.mp hq with hq | hq
  · rw [upd_ne (na _ _ (h3 q hq))]; exact h3 q hq
  · rw [show q = (t, v) by simpa using hq]
    rw [upd_ne (na _ _ ht)]; exact ht
theorem TsAt.new {H : Hp} {a : Addr} : TsAt (upd H a (.lst [])) a [] := ⟨[], upd_same, rfl, by simp⟩
theorem TsAt.at {H : Hp} {a : Addr} {ts : List IL} {xs : List V} {x : V} {i : Nat} (h : TsAt H a ts) (e : H a = some (.lst xs)) (hi : xs[i]? = some x) : ∃ b v, x = .ref b ∧ ts[i]? = some v ∧ H b = some (.tup (v.map V.int)) := by
  obtain ⟨l, h1, rfl, h3⟩ := h
  rw [e] at h1
  cases h1
  unfold rfs at hi
  rw [List.getElem?_map] at hi
  cases el : l[i]? with
  | none => rw [el] at hi; cases hi
  | some q =>
    rw [el] at hi
    refine ⟨q.1, q.2, (Option.some.inj hi).symm, by rw [List.getElem?_map, el]; rfl, h3 q (List.mem_of_getElem? el)⟩
def dts (ts : List IL) : List PyData := ts.map fun t => .tuple (t.map .int)
theorem dp_il {K : PySem.W.Frag} {H : Hp} : ∀ (l : AL), (∀ e ∈ l, H e.1 = some (.tup (e.2.map V.int))) → DpAll K H (rfs l) (dts (l.map (·.2)))
  | [], _ => .nil
  | e :: l, h => .cons (.tup (SqT.of (h e List.mem_cons_self)) (dpAll_ints _)) (dp_il l fun q hq => h q (List.mem_cons_of_mem _ hq))
theorem dp_ts {K : PySem.W.Frag} {H : Hp} {a : Addr} {ts : List IL} (h : TsAt H a ts) : Dp K H (.ref a) (.list (dts ts)) := by
  obtain ⟨l, h1, rfl, h3⟩ := h
  exact .lst (SqL.of h1) (dp_il l h3)
theorem lay_dts : ∀ ts : List IL, PyData.canLayAll0 (dts ts) = true ∧ PyData.depthAll (dts ts) ≤ 1
  | [] => ⟨rfl, Nat.zero_le _⟩
  | t :: ts => by
    obtain ⟨h1, h2⟩ := lay_dts ts
    constructor
    · show (PyData.canLay0 (.tuple (t.map .int)) && PyData.canLayAll0 (dts ts)) = true
      rw [PyData.canLay0, lay_ints, h1]; rfl
    · show max (PyData.tuple (t.map .int)).depth (PyData.depthAll (dts ts)) ≤ 1
      rw [PyData.depth, depth_ints]
      omega
theorem canlay_ts (ts : List IL) : (PyData.list (dts ts)).canLay0 = true := by
  rw [PyData.canLay0]; exact (lay_dts ts).1
theorem shp_ts (ts : List IL) : SeqAt.shaped (.list (dts ts)) = true := by
  obtain ⟨h1, h2⟩ := lay_dts ts
  unfold SeqAt.shaped
  rw [PyData.canLay0, h1, PyData.depth]
  have : PyData.depthAll (dts ts) + 1 ≤ 64 := by omega
  simpa using this
theorem eqv_ts (ts : List IL) : PyData.eqv (.list (dts ts)) (.list (dts ts)) = true := SeqAt.eqv_refl _ (canlay_ts ts)
theorem eqv_ts0 (ts : List IL) : PyData.eqv (.list (dts ts)) (.list []) = decide (ts = []) := by
  cases ts with
  | nil => rfl
  | cons t ts => rfl
/-! ### the dict of pairs -/
abbrev QL := List (IL × Bool)
def dq (q : QL) : List (List L2.Key × V) := q.map fun e => (e.1.map Sum.inl, V.bl e.2)
def val (q : QL) (p : IL) : Bool := (q.lookup p).getD false
theorem inl_inj {a b : IL} (h : a.map (Sum.inl : Int → L2.Key) = b.map Sum.inl) : a = b := List.map_inj_right (fun x y e => by injection e) |>.mp h
theorem val_dq (p : IL) : ∀ q : QL, valV (dq q) (p.map Sum.inl) = (q.lookup p).map V.bl
  | [] => rfl
  | e :: q => by
    by_cases h : e.1 = p
    · show valV ((e.1.map Sum.inl, V.bl e.2) :: dq q) _ = _
      rw [valV_pos (by rw [h]), List.lookup_cons, beq_iff_eq.mpr h.symm]
      rfl
    · show valV ((e.1.map Sum.inl, V.bl e.2) :: dq q) _ = _
      rw [valV_neg (fun z => h (inl_inj z)), val_dq p q, List.lookup_cons]
      have : (p == e.1) = false := by simpa using fun z => h z.symm
      rw [this]
theorem look_in : ∀ {q : QL} {p : IL}, p ∈ q.map (·.1) → ∃ c, q.lookup p = some c
  | e :: q, p, h => by
    rw [List.lookup_cons]
    by_cases z : p = e.1
    · rw [beq_iff_eq.mpr z]; exact ⟨_, rfl⟩
    · rw [beq_false_of_ne z]
      rcases List.mem_cons.mp h with h | h
      · exact absurd h z
      · exact look_in h
theorem val_in {q : QL} {p : IL} (h : p ∈ q.map (·.1)) : valV (dq q) (p.map Sum.inl) = some (.bl (val q p)) := by
  rw [val_dq]
  unfold val
  obtain ⟨c, hc⟩ := look_in h
  rw [hc]; rfl
end K47
namespace K47
open PySem PySem.Spec PyProof.Rows Cm
open L2 hiding Same
/-! ### pairs and triples -/
def dec2 (m : Int) (n : Nat) : IL := [(0 + (n : Int)) / m, (0 + (n : Int)) % m]
def lt2 (p : IL) : Bool := match p with | [i, j] => decide (i < j) | _ => false
def prsN (m : Int) (n : Nat) : List IL := ((List.range n).map (dec2 m)).filter lt2
def prs (m : Int) : List IL := prsN m (m * m).toNat
def dec3 (m : Int) (n : Nat) : IL := [(0 + (n : Int)) / (m * m), (0 + (n : Int)) / m % m, (0 + (n : Int)) % m]
def lt3 (p : IL) : Bool := match p with | [i, j, k] => decide (i < j) && decide (j < k) | _ => false
def trsN (m : Int) (n : Nat) : List IL := ((List.range n).map (dec3 m)).filter lt3
def trs (m : Int) : List IL := trsN m (m * m * m).toNat
def trK (c : Int) (x y : Int) (n : Nat) : List IL := (List.range n).map fun (k : Nat) => [x, y, (y + 1) + (k : Int)]
def nK (c y : Int) : Nat := (c - (y + 1)).toNat
def trJ (c : Int) (x : Int) (n : Nat) : List IL := (List.range n).flatMap fun (j : Nat) => trK c x ((x + 1) + (j : Int)) (nK c ((x + 1) + (j : Int)))
def nJ (c x : Int) : Nat := (c - (x + 1)).toNat
def trI (c : Int) (n : Nat) : List IL := (List.range n).flatMap fun (i : Nat) => trJ c (0 + (i : Int)) (nJ c (0 + (i : Int)))
theorem trK_succ (c x y : Int) (n : Nat) : trK c x y (n + 1) = trK c x y n ++ [[x, y, (y + 1) + (n : Int)]] := by
  unfold trK; rw [List.range_succ, List.map_append]; rfl
theorem trJ_succ (c x : Int) (n : Nat) : trJ c x (n + 1) = trJ c x n ++ trK c x ((x + 1) + (n : Int)) (nK c ((x + 1) + (n : Int))) := by
  unfold trJ; rw [List.range_succ, List.flatMap_append]; simp
theorem trI_succ (c : Int) (n : Nat) : trI c (n + 1) = trI c n ++ trJ c (0 + (n : Int)) (nJ c (0 + (n : Int))) := by
  unfold trI; rw [List.range_succ, List.flatMap_append]; simp
theorem prsN_succ (m : Int) (n : Nat) : prsN m (n + 1) = prsN m n ++ (if lt2 (dec2 m n) = true then [dec2 m n] else []) := by
  unfold prsN
  rw [List.range_succ, List.map_append, List.filter_append]
  simp [List.filter_cons]
/-- what is told of the chains -/
def pred (q : QL) (t : IL) : Bool := match t with | [i, j, k] => val q [i, j] && (val q [j, k] && !val q [i, k]) | _ => false
def dueN (m : Int) (q : QL) (n : Nat) : List IL := (trsN m n).filter (pred q)
theorem dueN_succ (m : Int) (q : QL) (n : Nat) : dueN m q (n + 1) = dueN m q n ++ (if (lt3 (dec3 m n) && pred q (dec3 m n)) = true then [dec3 m n] else []) := by
  unfold dueN trsN
  rw [List.range_succ, List.map_append, List.filter_append, List.filter_append]
  cases h1 : lt3 (dec3 m n) <;> cases h2 : pred q (dec3 m n) <;> simp [h1, h2]
def due (m : Int) (q : QL) : List IL := dueN m q (m * m * m).toNat
/-- the bounds at which all is asked -/
def M4 (m : Int) : Prop := m = 1 ∨ m = 2 ∨ m = 3 ∨ m = 4
theorem m4 {m : Int} (h0 : 0 ≤ m) (h1 : m < 4) : M4 (1 + m) := by unfold M4; omega
theorem M4.pos {m : Int} (h : M4 m) : 0 < m ∧ m ≤ 4 := by unfold M4 at h; omega
theorem trs_eq {m : Int} (h : M4 m) : trI (if m = 1 then 0 else m) (if m = 1 then 0 else m).toNat = trs m := by
  rcases h with rfl | rfl | rfl | rfl <;> decide +kernel
theorem trs_in {m : Int} (h : M4 m) : ∀ t ∈ trs m, ∃ i j k, t = [i, j, k] ∧ [i, j] ∈ prs m ∧ [j, k] ∈ prs m ∧ [i, k] ∈ prs m := by
  have key : ∀ t ∈ trs m, (match t with | [i, j, k] => decide ([i, j] ∈ prs m) && (decide ([j, k] ∈ prs m) && decide ([i, k] ∈ prs m)) | _ => false) = true := by
    rcases h with rfl | rfl | rfl | rfl <;> decide +kernel
  intro t ht
  have := key t ht
  match t, this with
  | [i, j, k], e =>
    simp only [Bool.and_eq_true, decide_eq_true_eq] at e
    exact ⟨i, j, k, rfl, e.1, e.2.1, e.2.2⟩
theorem dec_in {m : Int} (h : M4 m) : ∀ n < (m * m * m).toNat, lt3 (dec3 m n) = true → dec3 m n ∈ trs m := by
  rcases h with rfl | rfl | rfl | rfl <;> decide +kernel
theorem prs_len {m : Int} (h : M4 m) : (prs m).length ≤ 6 := by rcases h with rfl | rfl | rfl | rfl <;> decide +kernel
theorem trs_len {m : Int} (h : M4 m) : (trs m).length ≤ 4 := by rcases h with rfl | rfl | rfl | rfl <;> decide +kernel
theorem prs_two {m : Int} (h : M4 m) : ∀ p ∈ prs m, ∃ i j, p = [i, j] := by
  have key : ∀ p ∈ prs m, p.length = 2 := by rcases h with rfl | rfl | rfl | rfl <;> decide +kernel
  intro p hp
  match p, key p hp with
  | [i, j], _ => exact ⟨i, j, rfl⟩
theorem prs_nodup {m : Int} (h : M4 m) : (prs m).Nodup := by rcases h with rfl | rfl | rfl | rfl <;> decide +kernel
/-- the greatest second number, one more: the count -/
theorem prs_max {m : Int} (h : M4 m) : (prs m = [] ∧ m = 1) ∨ ((∃ p ∈ prs m, ∃ i, p = [i, m - 1]) ∧ (∀ p ∈ prs m, ∀ i j, p = [i, j] → j + 1 ≤ m) ∧ m ≠ 1) := by
  have low : ∀ m, (∀ p ∈ prs m, p.getD 1 0 + 1 ≤ m) → ∀ p ∈ prs m, ∀ i j, p = [i, j] → j + 1 ≤ m := fun m k p hp i j e => by
    have := k p hp; rw [e] at this; exact this
  rcases h with rfl | rfl | rfl | rfl
  · exact .inl ⟨by decide +kernel, rfl⟩
  · exact .inr ⟨⟨[0, 1], by decide +kernel, 0, rfl⟩, low _ (by decide +kernel), by decide⟩
  · exact .inr ⟨⟨[0, 2], by decide +kernel, 0, rfl⟩, low _ (by decide +kernel), by decide⟩
  · exact .inr ⟨⟨[0, 3], by decide +kernel, 0, rfl⟩, low _ (by decide +kernel), by decide⟩
theorem sub4 {m : Int} (h : M4 m) : ∀ p ∈ prs m, p ∈ prs 4 := by rcases h with rfl | rfl | rfl | rfl <;> decide +kernel
/-! ### hashes of pairs -/
def ph (p : IL) : Int := reduceHash (Builtin.Tuple.tupleHashOf (p.map hashInt))
theorem ph_inj : ∀ p ∈ prs 4, ∀ r ∈ prs 4, ph p = ph r → p = r := by decide +kernel
theorem hash_eq (P : Program) (w : World) (p : IL) : (tupleKind (mixKind P w)).hash (p.map Sum.inl) = ph p := by
  show reduceHash (Builtin.Tuple.tupleHashOf ((p.map Sum.inl).map (mixKind P w).hash)) = _
  rw [List.map_map]; rfl
/-- the dict holds the pairs, each once -/
def QOk (m : Int) (q : QL) : Prop := (q.map (·.1)).Perm (prs m)
theorem QOk.mem {m : Int} {q : QL} (h : QOk m q) {p : IL} (hp : p ∈ prs m) : p ∈ q.map (·.1) := h.mem_iff.mpr hp
theorem QOk.len {m : Int} {q : QL} (h : QOk m q) (h4 : M4 m) : q.length ≤ 6 := by
  have := h.length_eq
  rw [List.length_map] at this
  have := prs_len h4
  omega
theorem QOk.apart {P : Program} {w : World} {m : Int} {q : QL} (h : QOk m q) (h4 : M4 m) : ((dq q).map fun p => (tupleKind (mixKind P w)).hash p.1).Nodup := by
  have e : ((dq q).map fun p => (tupleKind (mixKind P w)).hash p.1) = (q.map (·.1)).map ph := by
    unfold dq
    rw [List.map_map, List.map_map]
    exact List.map_congr_left fun p _ => hash_eq P w p.1
  rw [e]
  have nd : (q.map (·.1)).Nodup := h.nodup_iff.mpr (prs_nodup h4)
  have hin : ∀ p ∈ q.map (·.1), p ∈ prs 4 := fun p hp => sub4 h4 p (h.mem_iff.mp hp)
  refine List.pairwise_map.mpr (List.Pairwise.imp_of_mem (fun {a b} ha hb n z => n (ph_inj a (hin a ha) b (hin b hb) z)) nd)
/-- one value changed -/
def setQ (q : QL) (p : IL) (b : Bool) : QL := q.map fun e => if e.1 = p then (e.1, b) else e
theorem setQ_ok {m : Int} {q : QL} (h : QOk m q) (p : IL) (b : Bool) : QOk m (setQ q p b) := by
  have : (setQ q p b).map (·.1) = q.map (·.1) := by
    unfold setQ
    rw [List.map_map]
    refine List.map_congr_left fun e _ => ?_
    show (if e.1 = p then (e.1, b) else e).1 = e.1
    split <;> rfl
  unfold QOk
  rw [this]; exact h
theorem put_set {q : QL} {p : IL} {b : Bool} (h : p ∈ q.map (·.1)) : putK (dq q) (p.map Sum.inl) (V.bl b) = dq (setQ q p b) := by
  have e : ((dq q).any fun kv => decide (kv.1 = p.map Sum.inl)) = true := by
    rw [List.any_eq_true]
    obtain ⟨x, hx, rfl⟩ := List.mem_map.mp h
    exact ⟨_, List.mem_map.mpr ⟨x, hx, rfl⟩, by simp⟩
  unfold putK
  rw [e, if_pos rfl]
  unfold dq setQ
  rw [List.map_map, List.map_map]
  refine List.map_congr_left fun x _ => ?_
  show (if x.1.map Sum.inl = p.map Sum.inl then _ else _) = _
  by_cases z : x.1 = p
  · simp [z]
  · have : ¬ (x.1.map (Sum.inl : Int → L2.Key) = p.map Sum.inl) := fun k => z (inl_inj k)
    rw [if_neg this]
    simp [z]
theorem put_new {q : QL} {p : IL} {b : Bool} (h : p ∉ q.map (·.1)) : putK (dq q) (p.map Sum.inl) (V.bl b) = dq (q ++ [(p, b)]) := by
  rw [putK_new]
  · unfold dq; rw [List.map_append]; rfl
  · rw [val_dq]
    have : q.lookup p = none := by
      rw [List.lookup_eq_none_iff]
      intro x hx
      have : p ≠ x.1 := fun z => h (List.mem_map.mpr ⟨x, hx, z.symm⟩)
      simpa using this
    rw [this]; rfl
theorem dq_len (q : QL) : (dq q).length = q.length := List.length_map ..
end K47
namespace Cm
open PySem PySem.Spec PyProof.Rows
open L2 hiding Same
open NdefX
/-! ### super().__init__(e) in the __init__ of an own error over ValueError -/
section
open PySem.W PySem.Calls
variable {prog : Program} {w : World} {A : Around} {E : Value → Shared → Prop} {h : Heap} {g : Array GenState} {d : Drawn} {t : Nat} {os : OsState}
/-- the bound ValueError.__init__, called: the args are laid anew -/
theorem call_mw {u e C t0 : Addr} {rest : List Value} {Q : Value → Shared → Prop} {nm q : Str} {N : Addr} {bs bm : List Value} {hdct : Bool} {sn : List Str} {sub : List Value} {ab : Bool} {col : Option Bool} {dd : Option Addr} {k0 k1 k2 k3 k5 : Option Value}
    (hC : h.get? C = some (excClassObj nm q C N bs bm hdct sn sub ab col dd k0 k1 k2 k3 k5 "ValueError.__new__")) (he : h.get? e = some ({ cls := .ref C, dict := none, data := .fields #[.ref t0, .none, .none, .none, .bool false, .none] } : Obj))
    (hu : h.get? u = some (kxs_mw "ValueError.__init__" e)) (hz : rest.length ≤ sizeLine)
    (hq : ∀ h' t1, (∀ b o, b ≠ e → h.get? b = some o → h'.get? b = some o) → h'.get? e = some ({ cls := .ref C, dict := none, data := .fields #[.ref t1, .none, .none, .none, .bool false, .none] } : Obj) → Q .none ⟨h', g, d, t, os⟩) :
    wpAny (model prog w) A (call (.ref u) rest) Q E ⟨h, g, d, t, os⟩ := by
  refine wpAny_call (codeAny_of_tree ?_)
  show wpAny _ A.in1 (callAny (.ref u) ⟨rest, []⟩) _ _ _
  simp only [callAny]
  refine wpAny_bind (wpAny_load hu ?_)
  simp only [kxs_mw, show (Value.type "method-wrapper" == Value.type "method" || Value.type "method-wrapper" == Value.type "builtin_function_or_method" || Value.type "method-wrapper" == Value.type "method-wrapper") = true by decide, if_true]
  refine KFB.if_so (by decide) ?_
  refine wpAny_bind (check_bound_init F.excBase_ValueError.toExcCallFacts hC he rfl ?_)
  refine wpAny_bind (wpAny_pure (wpAny_pure ?_))
  refine ⟨plainId_quiet F.excBase_ValueError.init.plain _, codeAny_builtin F.excBase_ValueError.initEntry ?_⟩
  exact exc_init_tree (cls := .ref C) (t0 := t0) (dv := none) (c2 := .none) (c3 := .none) (b4 := .bool false) he hz fun h' k e' t' => hq h' _ k e'
end
theorem inv_pin {X : Cx} {σ : L2.St} {H : Hp} {s : Shared} {u : Addr} {o : Obj} (I : Inv X [] σ H s) (hu : s.heap.get? u = some o) (hH : H u = none) (nl : u ≠ X.env.locals) (nf : u ∉ X.fs) (nc : ∀ v, o.data ≠ .cell v) : Inv X [(u, o)] σ H s := by
  refine ⟨I.ok, I.os, I.bare, I.base, I.loc, I.cell, I.free, I.freeC, fun p hp => ?_, I.hok, I.len⟩
  rcases List.mem_append.mp hp with hp | hp
  · exact I.pin p (List.mem_append.mpr (.inl hp))
  · have e : p = (u, o) := by simpa using hp
    subst e
    exact ⟨hu, hH, nl, nf, nc⟩
/-- the __init__ of the class at C: what the written part says -/
structure SupC (P : Program) (K : PySem.W.Frag) (mg : Str → Option Value) (C f cc c : Addr) (x qual : Str) (params : Arguments) (body : List Stmt) (scope : Scope) (fd : FuncData) : Prop where
  fdE : ∃ (dV kV doc pm : Value) (an : Option Addr) (ct : Value), fd = PySem.W.fnX x qual params body scope [("__class__", cc)] dV kV doc pm an (.ref c) ct
  lk : ∃ (oc : Value) (od : Option Addr) (osl : Array (Option Value)), K.lookup f = some ⟨oc, od, .func fd, osl⟩
  code : PySem.W.codeIn K (.ref c) qual = true
  file : ∃ (co : Obj) (vs : Array Value) (file : Str) (tf : Tok), K.lookup c = some co ∧ co.data = .fields vs ∧ vs[2]? = some (.str file tf) ∧ ((P.main.file : Str) == file) = true
  cell : ∃ o, K.lookup cc = some o ∧ o.data = .cell (some (.ref C))
  sup : PySem.W.ks_superIn K C C "__init__" = some (some (.builtin "ValueError.__init__"))
  nop : PySem.W.nsIn K cStatics "thirdparty.any" = some none
  sB : PySem.W.subIn K (.ref C) (.type "ValueError") = some true
  sC : PySem.W.mroIn K C (.ref C) = some true
  nS : mg "super" = none
  ex : OexC K C
section
variable {CX : CXT} {P : Program} {w : World} {K : PySem.W.Frag} {mg : Str → Option Value} {base : Heap} {N ps : List Str} {k : Nat} {f C cc c : Addr} {x qual : Str} {params : Arguments} {scope : Scope} {fd : FuncData} {sp : Sp} {rest : List Stmt} {e : Expr} {p0 p1 p2 p3 p4 : Pos} {ar : Arg}
theorem sup_ok (S : SupC P K mg C f cc c x qual params (.Expr (.Call (.Attribute (.Call (.Name "super" p0) [] [] p1) "__init__" p2) [e] [] p3) p4 :: rest) scope fd)
    (NS : NScope N ps ["__class__"] scope) (hks : scope.names.lookup ("super" : Str) = some .globalImplicit) (hp : (params.posonlyargs ++ params.args).head? = some ar) (hp0 : ps[0]? = some ar.arg)
    (htop : (P.main.scope.names.lookup ("super" : Str)).isSome = false) (len : ∀ vs H Q E, sp vs H Q E → vs.length = ps.length)
    (hbody : ∀ (A : Around) (outer : List Env) (s : Shared) (H : Hp) (vs : List V) (Q : VK) (E : XK), Room k (A.deeper (envF ⟨x, qual, params, [], scope, [("__class__", cc)], c⟩ f s.heap.objs.size)) → sp vs H Q E →
      ∃ te tr a, PE (ncx CX P w K mg base N ⟨x, qual, params, [], scope, [("__class__", cc)], c⟩ f A outer s H E) e te ∧ PSs (ncx CX P w K mg base N ⟨x, qual, params, [], scope, [("__class__", cc)], c⟩ f A outer s H E) rest tr ∧ vs[0]? = some (.ref a) ∧ H a = some (exo a C none) ∧
        te (startF N vs [some (.ref C)]) H fun y H1 => ([y] : List V).length ≤ 1 ∧ H1 a = some (exo a C none) ∧ tr { nx := fun _ H' => Q .non H', rt := Q } (startF N vs [some (.ref C)]) H1)
    (hms : ∀ (L : Addr) (env : Env), env = envF ⟨x, qual, params, [], scope, [("__class__", cc)], c⟩ f L → ∃ pl, eval (.Call (.Attribute (.Call (.Name "super" p0) [] [] p1) "__init__" p2) [e] [] p3) env = (do
      let ov ← attributeBase (.Call (.Name "super" p0) [] [] p1) "__init__" env (eval (.Call (.Name "super" p0) [] [] p1) env)
      standAt p2.atName
      let (f, first) ← holding [ov] (getMethod ov "__init__" pl)
      callWith p3 f first (backTo p3 (starEach [e] env)) []) )
    (hsw : ∀ L, swapsWith (.Call (.Attribute (.Call (.Name "super" p0) [] [] p1) "__init__" p2) [e] [] p3) none p4.line (envF ⟨x, qual, params, [], scope, [("__class__", cc)], c⟩ f L) = pure false)
    (hint : ∀ L, interactive (envF ⟨x, qual, params, [], scope, [("__class__", cc)], c⟩ f L) = false)
    (hse : ∀ (L : Addr) (env : Env), env = envF ⟨x, qual, params, [], scope, [("__class__", cc)], c⟩ f L → starEach [e] env = (false, eval e env) :: starEach [] env) :
    FnOk P w K mg base CX (k + 1) f fd ps sp := by
  refine ⟨len, fun A outer s H args us vs Q E hr e0 hb r hsp => ?_⟩
  obtain ⟨dV, kV, doc, pm, an, ct, rfl⟩ := S.fdE
  obtain ⟨oc, od, osl, lk⟩ := S.lk
  have hl := len _ _ _ _ hsp
  have KX : K.In s.heap := e0.mod.kin.keeps fun b o e => (e0.bs b o e).1
  have lim : s.heap.NoLimit := e0.mod.nolimit.keeps fun b o e => (e0.bs b o e).1
  have kH : ∀ {b : Addr} {o : Obj}, K.lookup b = some o → H b = none := fun {b o} z => (e0.bs b o (e0.mod.kin b o z)).2
  refine codeAny_call_function hr.depth (KX _ _ lk) rfl NS.co NS.gen rfl (PySem.W.codeRec_of KX S.code) (hb _ _ _ _ ?_)
  refine wpAny_newFunctionEnv NS.nocell (fun ⟨n, _⟩ hy => NS.par n (List.of_mem_zip hy).1) (fun h₁ hns hsb => ⟨lim.fresh _ hsb, ?_⟩) NS.kind
  show codeAny _ _ (.func _ (envF ⟨x, qual, params, [], scope, [("__class__", cc)], c⟩ f s.heap.objs.size)) _ _
  refine ks_codeAny_funcAt ?_
  have kp : ∀ b o, s.heap.get? b = some o → h₁.get? b = some o := fun b o e => hsb.extBut b o (Nat.ne_of_lt (Heap.lt_size e)) (Heap.get?_push_of_some _ e)
  obtain ⟨te, tr, a, de, dr, hva, haH, hq⟩ := hbody A outer s H vs Q E (hr.deeper _) hsp
  obtain ⟨oc2, lcc, dcc⟩ := S.cell
  have CA : CellsAt [("__class__", cc)] ["__class__"] [some (V.ref C)] s.heap H := by
    refine ⟨rfl, fun y z hy => ?_, fun y z d h1 h2 => ?_, fun i y hi => ?_⟩
    · by_cases e : y = "__class__"
      · subst e
        have : cc = z := by simpa [List.lookup] using hy
        subst this
        exact ⟨kH lcc, _, oc2, KX _ _ lcc, dcc⟩
      · rw [List.lookup_cons, beq_false_of_ne e] at hy; cases hy
    · by_cases e1 : y = "__class__"
      · by_cases e2 : z = "__class__"
        · rw [e1, e2]
        · rw [List.lookup_cons, beq_false_of_ne e2] at h2; cases h2
      · rw [List.lookup_cons, beq_false_of_ne e1] at h1; cases h1
    · cases i with
      | succ i => simp at hi
      | zero =>
        have : y = "__class__" := by simpa using hi.symm
        subst this
        exact ⟨cc, by simp [List.lookup], fun v hv => ⟨.ref C, by cases (Option.some.inj (Option.some.inj hv)); rfl, oc2, KX _ _ lcc, dcc⟩⟩
  have I : Inv (ncx CX P w K mg base N ⟨x, qual, params, [], scope, [("__class__", cc)], c⟩ f A outer s H E) [] (startF N vs [some (V.ref C)]) H { s with heap := h₁, toks := s.toks + (ps.zip us).length } := inv_startN (F := ⟨x, qual, params, [], scope, [("__class__", cc)], c⟩) NS hr.hd e0 hl r CA hns kp
  have hva0 : (startF N vs [some (V.ref C)])[0]? = some (some (V.ref a)) := by
    unfold startF
    have h0 : 0 < vs.length := (List.getElem?_eq_some_iff.mp hva).1
    rw [List.getElem?_append_left (by simpa using h0), List.getElem?_map, hva]; rfl
  obtain ⟨pl, hm⟩ := hms s.heap.objs.size _ rfl
  have hse := hse s.heap.objs.size _ rfl
  obtain ⟨nm, q, N0, bs, bm, sn, sub, ab, col, dd, k0, k1, k2, k3, k5, hC, hbm⟩ := S.ex.cls
  obtain ⟨co, cvs, file, tf, lc, dc, hv2, hfile⟩ := S.file
  have K1 : K.In h₁ := KX.keeps kp
  have e1 : H a = some (exo a C none) := haH
  obtain ⟨t1, hoa⟩ := exo_at I.hok e1
  have hkc : scope.names.lookup ("__class__" : Str) = some .free := NS.frk _ (by simp)
  have hka : scope.names.lookup ar.arg = some .local := NS.par _ (List.mem_of_getElem? hp0)
  refine ks_wpAt_execs_cons (ks_wpAt_Expr_any (ks_wpAt_MethodCall ?_ hm) (hint _) (hsw _))
  refine ks_wpAt_super_base (of := ⟨oc, od, .func (PySem.W.fnX x qual params (.Expr (.Call (.Attribute (.Call (.Name "super" p0) [] [] p1) "__init__" p2) [e] [] p3) p4 :: rest) scope [("__class__", cc)] dV kV doc pm an (.ref c) ct), osl⟩)
    (env := envF ⟨x, qual, params, [], scope, [("__class__", cc)], c⟩ f s.heap.objs.size) hks hkc (by decide +kernel) rfl (K1 _ _ lk) rfl hp rfl (K1 _ _ lc) dc hv2 hfile htop ?_
  obtain ⟨mb, hb1, hb2⟩ := I.mod.blt
  refine PySem.W.ks_loadName_global NS.kind hks (PySem.Calls.loadGlobal_builtin (env := envF ⟨x, qual, params, [], scope, [("__class__", cc)], c⟩ f s.heap.objs.size) (I.mod.glob.keeps I.bk) S.nS (hb1.keeps I.bk) ((hb2 _ (by decide)).trans (by decide +kernel)) ⟨rfl, ?_⟩)
  refine wpAny_loadName_free NS.kind hkc rfl ⟨oc2, K1 _ _ lcc, dcc⟩ ?_
  obtain ⟨m, hnm, hloc⟩ := I.loc
  have hN0 : N[0]? = some ar.arg := by
    have hpre := NS.pre
    have h0 : 0 < ps.length := (List.getElem?_eq_some_iff.mp hp0).1
    have z : (ps ++ [("__class__" : Str)])[0]? = some ar.arg := by rw [List.getElem?_append_left h0]; exact hp0
    rw [← hpre, List.getElem?_take_of_lt (by omega)] at z
    exact z
  obtain ⟨u, ru, hlk⟩ := hloc 0 ar.arg (.ref a) hN0 hva0 (.inl hka)
  obtain rfl : u = Value.ref a := ru
  have hma : m ar.arg = some (.ref a) := by
    rcases hlk with ⟨_, z⟩ | ⟨z, _⟩
    · exact z
    · have z2 : scope.names.lookup ar.arg = some .cell ∨ scope.names.lookup ar.arg = some .free := z
      rw [hka] at z2
      rcases z2 with z2 | z2 <;> cases z2
  refine wpAny_loadName_local NS.kind hka hnm hma ?_
  refine ks_wpAny_isType_cls (K1 _ _ hC) rfl ⟨rfl, ?_⟩
  refine ks_wpAny_call_super (K1 _ _ hC) rfl hoa rfl (fun c e => by cases e) (PySem.W.looks_mroIn K1 S.sC) (fun h₂ hso k2 => ?_)
  · -- the bound __init__
    have I2 := I.kept (t' := s.toks + (ps.zip us).length) k2
    have K2 : K.In h₂ := I2.kIn
    have hcl : PySem.W.clsIn K C = some { name := nm, bases := bs, mro := .ref C :: bm, ns := N0, qualname := q, hasDict := true, slotNames := sn, subclasses := sub, abstract := ab, collection := col, hasDel := false } := by unfold PySem.W.clsIn; rw [hC] <;> rfl
    have hsup := S.sup
    unfold PySem.W.ks_superIn at hsup
    rw [hcl] at hsup
    have IA : PySem.W.InstAt h₂ a ({ cls := .ref C, dict := none, data := .fields #[.ref t1, .none, .none, .none, .bool false, .none] } : Obj) C none := ⟨k2 _ _ hoa, rfl, rfl, trivial⟩
    refine PySem.W.kxs_getMethod PySem.W.kxs_ValueError hso (PySem.W.looks_opaque K2 S.nop) (l₀ := .ref C :: bm) (fun A Q E s k q => wpAny_bind ((PySem.W.looks_clsIn K2 hcl) A _ E s k (wpAny_pure q))) rfl K2 hsup (IA.type.andThen (PySem.W.looks_subIn K2 S.sB)) (PySem.W.ks_ne K2 IA hcl) (by decide +kernel) ?_
    have I3 := I2.kept (t' := s.toks + (ps.zip us).length + 1) (h' := h₂.push (PySem.W.kxs_mw "ValueError.__init__" a)) (fun b o e => Heap.get?_push_of_some _ e)
    have hu : (h₂.push (PySem.W.kxs_mw "ValueError.__init__" a)).get? h₂.objs.size = some (PySem.W.kxs_mw "ValueError.__init__" a) := Heap.get?_push_at rfl rfl
    have Ip := inv_pin I3 hu (I2.hok.fresh (Nat.le_refl _)) (Nat.ne_of_gt I2.lt) (I2.nofs (Nat.le_refl _)) (fun v z => by cases z)
    refine PySem.W.kxs_callWith (i := "ValueError.__init__") (x := a) (by rw [hse]; rfl) ?_
    rw [hse]
    refine PySem.Calls.evalArgs_plain ?_
    have pa : PA (ncx CX P w K mg base N ⟨x, qual, params, [], scope, [("__class__", cc)], c⟩ f A outer s H E) [e] (tCons te tNil) := pa_cons (hs := hse) de pa_nil
    have run := pa.run p3 [(h₂.objs.size, PySem.W.kxs_mw "ValueError.__init__" a)] _ _ H (fun ws H1 => ws.length ≤ 1 ∧ H1 a = some (exo a C none) ∧ tr { nx := fun _ H' => Q .non H', rt := Q } (startF N vs [some (.ref C)]) H1) Ip hq
    have hse2 := hse
    refine thn (Q := AP (ncx CX P w K mg base N ⟨x, qual, params, [], scope, [("__class__", cc)], c⟩ f A outer s H E) [(h₂.objs.size, PySem.W.kxs_mw "ValueError.__init__" a)] (startF N vs [some (V.ref C)]) (fun ws H1 => ws.length ≤ 1 ∧ H1 a = some (exo a C none) ∧ tr { nx := fun _ H' => Q .non H', rt := Q } (startF N vs [some (.ref C)]) H1)) ?_ (fun us' s2 z => ?_)
    · have z := run
      rw [show (ncx CX P w K mg base N ⟨x, qual, params, [], scope, [("__class__", cc)], c⟩ f A outer s H E).env = envF ⟨x, qual, params, [], scope, [("__class__", cc)], c⟩ f s.heap.objs.size from rfl, hse] at z
      exact z
    obtain ⟨ws, H2, J, rw', l1, ha2, q2⟩ := z
    obtain ⟨hus, _⟩ := J.pin (h₂.objs.size, PySem.W.kxs_mw "ValueError.__init__" a) (List.mem_append.mpr (.inr (by simp)))
    refine ⟨hus, ?_⟩
    obtain ⟨t2, hoa2⟩ := exo_at J.hok ha2
    have hlen : us'.length ≤ sizeLine := by
      have := rw'.length
      rw [sizeLine_eq]; omega
    have KJ := J.kIn
    obtain ⟨hp2, g2, d2, tk2, os2⟩ := s2
    refine call_mw (KJ _ _ hC) hoa2 hus (by simpa using hlen) fun h' t1 k' hx => ?_
    have J2 := J.write (t' := tk2) (x := a) (e := a) (o := exo a C none) (by rw [ha2]; exact True.intro) (.inl rfl) k' ⟨_, hx⟩ (exo_ok hx)
    have eu : upd H2 a (exo a C none) = H2 := by
      funext b
      by_cases hb : b = a
      · rw [hb, upd_same, ha2]
      · rw [upd_ne hb]
    rw [eu] at J2
    refine wpAt_of_wpAny ?_
    refine wpAny_mono (dr.run _ _ _ _ _ J2 q2) (fun fl s' hs => ?_) fun e s' hs => hs
    have fin : ∀ {σ' : L2.St} {H' : Hp} {v : V} {u : Value}, Inv (ncx CX P w K mg base N ⟨x, qual, params, [], scope, [("__class__", cc)], c⟩ f A outer s H E) [(h₂.objs.size, PySem.W.kxs_mw "ValueError.__init__" a)] σ' H' s' → L2.RelV v u → Q v H' → CE outer P w H s Q u s' :=
      fun {σ' H' v u} J rv q => ⟨v, H', J.os, J.bare, J.base, J.hok, rv, q⟩
    cases fl with
    | ret u =>
      obtain ⟨v, σ', H', J, rv, q⟩ := hs
      exact fin J rv q
    | next =>
      obtain ⟨σ', H', J, q⟩ := hs
      exact fin (v := V.non) (u := Value.none) J rfl q
    | brk =>
      obtain ⟨_, _, _, q⟩ := hs
      exact False.elim q
    | cont =>
      obtain ⟨_, _, _, q⟩ := hs
      exact False.elim q
end
end Cm
namespace Cm
open PySem PySem.Spec PyProof.Rows
open L2 hiding Same
/-! ### {x!r}, whatever is under way -/
section
open Sem (wp)
theorem list_head_any {M : Model} {A : Around} {E : Value → Shared → Prop} {s : Shared} {Q : Fin → Shared → Prop} {a : Addr} {o : Obj} {x : Value} {l : List Value} {n} {b : Nat}
    (hget : s.heap.get? a = some o) (hd : o.data = .seq (x :: l).toArray n)
    (h2 : ∀ u tk, Q (.done (.ret (.str "[...]" u))) { s with toks := tk })
    (h : wpAny M A (do again (.builtin "list.__repr__.loop" ⟨[.ref a, rawInt 0, ← newList [], rawInt b], []⟩)) Q E s) : wpAny M A (Builtin.listReprAt b ⟨[.ref a], []⟩) Q E s := by
  intro Γ p hΓ
  have h1 := h Γ p hΓ
  have h3 : wpAny M A (do rule "list.__repr__.in-itself"; retStr ("[...]" : Str)) Q E s := by
    refine wpAny_bind (wpAny_rule ?_)
    refine wpAny_bind (wpAny_mkStr (wpAny_pure ?_) (by decide +kernel))
    exact h2 _ _
  have h4 := h3 Γ p hΓ
  unfold Builtin.listReprAt
  simp [slotArgs, Builtin.List.listItems, seqItems?, Sem.wp_load_of (h := hget), hd, PySem.stack]
  show wp M Γ (if (Γ.below.any _) = true then _ else _) _ _ p s
  split
  · exact h4
  · exact h1
end
section
variable {prog : Program} {w : World} {A : Around} {E : Value → Shared → Prop} {s : Shared} {a : Addr} {oa : Obj} {x : Value} {l : List Value} {na : Nat} {ts : List Str}
theorem call_list_any {Q : Value → Shared → Prop} (hTy : s.TypeIs (.ref a) "list")
    (ha : s.heap.get? a = some oa) (hda : oa.data = .seq (x :: l).toArray na) (hlen : ts.length = (x :: l).toArray.size)
    (hT : ∀ (i : Nat) (y : Value), (x :: l).toArray[i]? = some y → ∃ t, ts[i]? = some t ∧ ReprIs prog w y t)
    (hQ : ∀ h' m u tk, m.length ≤ (listText ts).length + 5 → (∀ b o, s.heap.get? b = some o → h'.get? b = some o) → Q (.str m u) { s with heap := h', toks := tk })
    (hsz : (listText ts).length ≤ sizeLine) :
    wpAny (model prog w) A (call (.builtin "list.__repr__") [.ref a]) Q E s := by
  refine wpAny_call (codeAny_call_builtin F.slot_list_repr.plain F.entry_list_repr (F.slot_list_repr.check _ _ _ _ _ _ _ _ hTy (F.args_list_repr_1 _) ?_))
  refine list_head_any (A := A.in1) ha hda (fun u tk => hQ s.heap _ _ _ (Nat.le_trans (by decide +kernel) (Nat.le_add_left _ _)) fun _ _ z => z) ?_
  refine wpAny_bind (m := newList []) (wpAny_newObj_type ?_)
  refine wpAny_pure ⟨F.quiet_list_repr_loop _, ?_⟩
  refine codeAny_list_repr_start (P := s.heap.objs.size) (Nat.ne_of_lt (Heap.lt_size ha)) hlen hT (Heap.get?_push_of_some _ ha) hda (Heap.get?_push_size _ rfl) (fun h' u tk hk => ?_) (by omega)
  exact hQ h' _ u tk (Nat.le_add_right _ _) fun b o e => hk b o (Nat.ne_of_lt (Heap.lt_size e)) (Heap.get?_push_of_some _ e)
end
/-! ### odd values -/
inductive OdK
  | str (z : Str) | non | zero | tru | tup | lst
def OdAt (K : PySem.W.Frag) (H : Hp) (v : V) : OdK → Prop
  | .str z => v = .str z ∧ z.length ≤ 1000 ∧ ∀ c ∈ z.cps.toList, c < 128
  | .non => v = .non
  | .zero => v = .int 0
  | .tru => v = .bl true
  | .tup => ∃ a, v = .ref a ∧ H a = some (.tup [.str "asks"])
  | .lst => ∃ a, v = .ref a ∧ H a = some (.lst [.str "free"])
def tFmtO (K : PySem.W.Frag) (te : TE) : TE := fun σ H Q => te σ H fun x H1 => (∃ k, OdAt K H1 x k) ∧ ∀ m : Str, m.length ≤ 11000 → Q (.str m) H1
theorem small {n : Nat} (h : n ≤ 11000) : n ≤ sizeLine := Nat.le_trans h (by decide)
theorem pe_fmtRO {X : Cx} {e : Expr} {te : TE} {pos : Pos} {k : Nat} (hr : Room k X.A) (he : PE X e te) : PE X (.FormattedValue e 114 none pos) (tFmtO X.K te) := by
  refine ⟨fun pins s σ H Q I h => ?_⟩
  refine wpAny_FormattedValue_repr (thn (he.run pins s σ H _ I h) fun v s1 hv => ?_)
  obtain ⟨x, H1, I1, r1, ⟨k, ho⟩, q⟩ := hv
  have hu := hr.units
  have fin : ∀ (m : Str) (u : Tok) (s2 : Shared), m.length ≤ 11000 → Inv X pins σ H1 s2 → wpAny (model X.prog X.w) X.A (formatField (.str m u) Str.empty) (EP X pins σ Q) X.xe s2 := fun m u s2 hm J =>
    wpAny_formatField_str ⟨.str m, H1, J, ⟨_, rfl⟩, q m hm⟩ ⟨.str m, H1, J.tok _, ⟨_, rfl⟩, q m hm⟩ (small hm)
  cases k with
  | str z =>
    obtain ⟨rfl, hz, hc⟩ := ho
    obtain ⟨t, rfl⟩ := r1
    have h1 := StrLaws.reprText_len z fun c h => Nat.lt_of_lt_of_le (hc c h) (by decide)
    exact pyReprObj_str (fin _ _ _ (by omega) (I1.tok _)) (small (by omega))
  | non =>
    obtain rfl : x = .non := ho
    obtain rfl : v = Value.none := r1
    exact pyReprObj_none (fin _ _ _ (by decide +kernel) (I1.tok _))
  | zero =>
    obtain rfl : x = .int 0 := ho
    obtain ⟨t, rfl⟩ := r1
    exact pyReprObj_int (by decide +kernel) (fin _ _ _ (by decide +kernel) (I1.tok _))
  | tru =>
    obtain rfl : x = .bl true := ho
    obtain rfl : v = Value.bool true := r1
    exact pyReprObj_bool (fin _ _ _ (by decide +kernel) (I1.tok _))
  | tup =>
    obtain ⟨a, rfl, ha⟩ := ho
    obtain rfl : v = Value.ref a := r1
    obtain ⟨its, rv, ⟨o, ho, hcl, n, hd⟩, _⟩ := I1.tuple (SqT.of ha)
    have rv2 : Vals ([("asks" : Str)].map V.str) its := rv
    refine wpAny_pyReprObj_slot (by omega) ⟨o, ho, hcl⟩ F.slot_tuple_repr (fmt_tuple_repr (ts := [("asks" : Str)].map reprText) ho hcl hd (repr_all rv2 fun y hy => ?_) (by decide +kernel) fun m u tk hm => ⟨m, u, rfl, fin m u _ ?_ (I1.tok _)⟩)
    · have e : y = "asks" := by simpa using hy
      rw [e]; decide +kernel
    · have : (tupleText ([("asks" : Str)].map reprText)).length ≤ 100 := by decide +kernel
      omega
  | lst =>
    obtain ⟨a, rfl, ha⟩ := ho
    obtain rfl : v = Value.ref a := r1
    obtain ⟨its, rv, ⟨o, n, ho, hcl, _, hd⟩, _⟩ := I1.list (SqL.of ha)
    obtain ⟨u1, rfl, t, rfl⟩ := vals1 rv
    refine wpAny_pyReprObj_slot (by omega) ⟨o, ho, hcl⟩ F.slot_list_repr.toG (call_list_any (ts := [("free" : Str)].map reprText) ⟨o, ho, hcl⟩ ho hd rfl (fun i y hy => ?_) (fun h' m u tk hm hk => ⟨m, u, rfl, fin m u _ ?_ (I1.kept hk)⟩) (by decide +kernel))
    · cases i with
      | zero =>
        have e : Value.str "free" t = y := by simpa using hy
        subst e
        exact ⟨_, rfl, ReprIs.str "free" t (by decide +kernel)⟩
      | succ i => simp at hy
    · have : (listText ([("free" : Str)].map reprText)).length ≤ 100 := by decide +kernel
      omega
end Cm
namespace Cm
open PySem PySem.Spec PyProof.Rows
open L2 hiding Same
open NdefX
/-! ### what the written part says of an own error's class and of its __init__ -/
def oexB (K : PySem.W.Frag) (C : Addr) : Bool := match K.lookup C with
  | some ⟨.type "type", _, .cls cd, sl⟩ => (match cd.mro, sl.toList with
    | .ref C' :: bm, [_, _, _, _, some (.builtin n), _] => C' == C && n == "ValueError.__new__" && !cd.hasDel && cd.hasDict && PySem.HandSPX.refsVE bm
    | _, _ => false)
  | _ => false
theorem oexB_ok {K : PySem.W.Frag} {C : Addr} (q : oexB K C = true) : ∃ nm q N bs bm sn sub ab col dd k0 k1 k2 k3 k5, K.lookup C = some (excClassObj nm q C N bs bm true sn sub ab col dd k0 k1 k2 k3 k5 "ValueError.__new__") ∧ PySem.HandSPX.refsVE bm = true := by
  unfold oexB at q
  split at q
  · rename_i dd cd sl ho
    split at q
    · rename_i C' bm k0 k1 k2 k3 n k5 hm hs
      simp only [Bool.and_eq_true, beq_iff_eq, Bool.not_eq_true'] at q
      obtain ⟨⟨⟨⟨rfl, rfl⟩, hdel⟩, hd⟩, ht⟩ := q
      obtain ⟨nm, bs, mro, ns, qn, hd', sn, sub, ab, col, del⟩ := cd
      dsimp only at hm hdel hd
      subst hm hdel hd
      have hsl : sl = #[k0, k1, k2, k3, some (.builtin "ValueError.__new__"), k5] := by
        obtain ⟨l⟩ := sl
        simp only at hs
        rw [hs]
      subst hsl
      exact ⟨nm, qn, ns, bs, bm, sn, sub, ab, col, dd, k0, k1, k2, k3, k5, ho, ht⟩
    · cases q
  · cases q
abbrev FnWS : Type := Option (Str × Str × Arguments × FuncBody × Scope × Addr × List Str × Addr)
def fnWS (K : PySem.W.Frag) (f : Addr) : FnWS := match K.lookup f with
  | some ⟨_, _, .func fd, _⟩ => some (fd.name, fd.qualname, fd.params, fd.body, fd.scope, fd.globals, fd.closure.map (·.1), fd.builtins)
  | _ => none
def codeB (file : Str) (K : PySem.W.Frag) (c : Addr) : Bool := match K.lookup c with
  | some o => (match o.data with
    | .fields vs => (match (vs[2]? : Option Value) with
      | some (Value.str f _) => file == f
      | _ => false)
    | _ => false)
  | _ => false
def cellB (K : PySem.W.Frag) (C cc : Addr) : Bool := match K.lookup cc with
  | some o => (match o.data with
    | .cell (some (.ref D)) => D == C
    | _ => false)
  | _ => false
def supB (file : Str) (K : PySem.W.Frag) (C f : Addr) (qual : Str) : Bool := match K.lookup f with
  | some ⟨_, _, .func fd, _⟩ => (match fd.code with
    | .ref c => PySem.W.codeIn K (.ref c) qual && codeB file K c
    | _ => false) && (match fd.closure with
    | [(_, cc)] => cellB K C cc
    | _ => false)
  | _ => false
theorem codeB_ok {file : Str} {K : PySem.W.Frag} {c : Addr} (h : codeB file K c = true) : ∃ (co : Obj) (vs : Array Value) (f : Str) (tf : Tok), K.lookup c = some co ∧ co.data = .fields vs ∧ vs[2]? = some (.str f tf) ∧ (file == f) = true := by
  unfold codeB at h
  split at h
  · rename_i o ho
    split at h
    · rename_i vs hv
      split at h
      · rename_i f t ht
        exact ⟨o, vs, f, t, ho, hv, ht, h⟩
      · cases h
    · cases h
  · cases h
theorem cellB_ok {K : PySem.W.Frag} {C cc : Addr} (h : cellB K C cc = true) : ∃ o, K.lookup cc = some o ∧ o.data = .cell (some (.ref C)) := by
  unfold cellB at h
  split at h
  · rename_i o ho
    split at h
    · rename_i D hD
      have e : D = C := beq_iff_eq.mp h
      subst e
      exact ⟨o, ho, hD⟩
    · cases h
  · cases h
/-- the facts of one own error over ValueError: its class, its __init__ -/
structure ExB (K : PySem.W.Frag) (C f : Addr) : Prop where
  o : oexB K C = true
  sa : PySem.W.findIn K (.ref C) "__setattr__" = some (some (.builtin "object.__setattr__"))
  exC : PySem.W.subIn K (.ref C) (.type "BaseException") = some true
  tyC : PySem.W.typeIn K (.ref C) = some (.type "type")
  kC : PySem.W.keepIn K (.ref C) = true
  iC : PySem.W.findIn K (.ref C) "__init__" = some (some (.ref f))
  tI : PySem.W.typeIn K (.ref f) = some (.type "function")
  sup : PySem.W.ks_superIn K C C "__init__" = some (some (.builtin "ValueError.__init__"))
  nop : PySem.W.nsIn K cStatics "thirdparty.any" = some none
  sB : PySem.W.subIn K (.ref C) (.type "ValueError") = some true
  sC : PySem.W.mroIn K C (.ref C) = some true
  xf : xfB K C = true
  em : PySem.W.exmOne K (.ref C) (.ref C) = some true
  cc : PySem.W.findIn K (.ref C) "__class__" = some (some (.builtin "object.__class__"))
  mo : PySem.W.mroIn K C (.type "object") = some true
def exB (K : PySem.W.Frag) (C f : Addr) : List Bool := [oexB K C,
  decide (PySem.W.findIn K (.ref C) "__setattr__" = some (some (.builtin "object.__setattr__"))),
  decide (PySem.W.subIn K (.ref C) (.type "BaseException") = some true),
  decide (PySem.W.typeIn K (.ref C) = some (.type "type")),
  PySem.W.keepIn K (.ref C),
  decide (PySem.W.findIn K (.ref C) "__init__" = some (some (.ref f))),
  decide (PySem.W.typeIn K (.ref f) = some (.type "function")),
  decide (PySem.W.ks_superIn K C C "__init__" = some (some (.builtin "ValueError.__init__"))),
  decide (PySem.W.nsIn K cStatics "thirdparty.any" = some none),
  decide (PySem.W.subIn K (.ref C) (.type "ValueError") = some true),
  decide (PySem.W.mroIn K C (.ref C) = some true),
  xfB K C,
  decide (PySem.W.exmOne K (.ref C) (.ref C) = some true),
  decide (PySem.W.findIn K (.ref C) "__class__" = some (some (.builtin "object.__class__"))),
  decide (PySem.W.mroIn K C (.type "object") = some true)]
theorem exB_ok {K : PySem.W.Frag} {C f : Addr} (h : (exB K C f).all id = true) : ExB K C f := by
  have g : ∀ (i : Nat) {b : Bool}, (exB K C f)[i]? = some b → b = true := fun i b e => List.all_eq_true.mp h b (List.mem_of_getElem? e)
  exact ⟨g 0 rfl, of_decide_eq_true (g 1 rfl), of_decide_eq_true (g 2 rfl), of_decide_eq_true (g 3 rfl), g 4 rfl, of_decide_eq_true (g 5 rfl), of_decide_eq_true (g 6 rfl), of_decide_eq_true (g 7 rfl), of_decide_eq_true (g 8 rfl), of_decide_eq_true (g 9 rfl),
    of_decide_eq_true (g 10 rfl), g 11 rfl, of_decide_eq_true (g 12 rfl), of_decide_eq_true (g 13 rfl), of_decide_eq_true (g 14 rfl)⟩
theorem ExB.oex {K : PySem.W.Frag} {C f : Addr} (h : ExB K C f) : OexC K C := ⟨oexB_ok h.o, h.sa, h.exC, h.tyC, h.kC⟩
/-- the def of the __init__ -/
theorem supC_of {P : Program} {K : PySem.W.Frag} {mg : Str → Option Value} {C f : Addr} {x qual : Str} {params : Arguments} {body : List Stmt} {scope : Scope} (X : ExB K C f) (w : fnWS K f = some (x, qual, params, FuncBody.stmts body, scope, mainGlobals, [("__class__" : Str)], builtinsNs))
    (b : supB P.main.file K C f qual = true) (nS : mg "super" = none) : ∃ (cc c : Addr) (fd : FuncData), SupC P K mg C f cc c x qual params body scope fd := by
  unfold fnWS at w
  unfold supB at b
  cases q : K.lookup f with
  | none => rw [q] at b; cases b
  | some o =>
    obtain ⟨oc, od, dt, osl⟩ := o
    rw [q] at w b
    cases dt with
    | func fd =>
      obtain ⟨n1, n2, n3, n4, n5, n6, n7, n8, n9, n10, n11, n12, n13, n14, n15⟩ := fd
      have e2 : (some (n1, n2, n3, n4, n5, n6, n7.map (·.1), n15) : FnWS) = some (x, qual, params, FuncBody.stmts body, scope, mainGlobals, [("__class__" : Str)], builtinsNs) := w
      simp only [Option.some.injEq, Prod.mk.injEq] at e2
      obtain ⟨h1, h2, h3, h4, h5, h6, h7, h8⟩ := e2
      subst h1 h2 h3 h4 h5 h6 h8
      dsimp only at b
      obtain ⟨b3, b4⟩ := Bool.and_eq_true_iff.mp b
      cases n7 with
      | nil => cases b4
      | cons z n7 =>
        cases n7 with
        | cons z2 n7 => cases b4
        | nil =>
          obtain ⟨y, cc⟩ := z
          have ey : y = "__class__" := by simpa using h7
          subst ey
          cases n13 with
          | ref c =>
            obtain ⟨b5, b6⟩ := Bool.and_eq_true_iff.mp b3
            exact ⟨cc, c, _, ⟨⟨n8, n9, n10, n11, n12, n14, rfl⟩, ⟨oc, od, osl, q⟩, b5, codeB_ok b6, cellB_ok b4, X.sup, X.nop, X.sB, X.sC, nS, X.oex⟩⟩
          | _ => cases b3
    | _ => cases b
end Cm
namespace PySem.W
open PySem PySem.Spec PySem.Calls PyProof.Rows
section
variable {prog : Program} {w : World} {A : Around} {E : Value → Shared → Prop} {s : Shared} {K : Frag} {x D : Addr} {ox : Obj}
theorem findObj_dataO {C : Addr} {od : Option Obj} {name : Str} {a g : Value} (hc : (clsIn K C).isSome = true) (ha : findIn K (.ref C) name = some (some a)) (hg : specialIn K a "__get__" = some (some g)) (ht : takesIn K a = some true) : findObj K C od name = some (.bind g a) := by
  obtain ⟨cd, hc⟩ := Option.isSome_iff_exists.mp hc
  unfold findObj
  rw [hc, Option.bind_some, ha, Option.bind_some]
  simp [hg, ht]
theorem kin_classO {od : Option Obj} {Q : Option Value → Shared → Prop} (hga : findIn K (.ref D) "__getattribute__" = some (some (.builtin "BaseException.__getattribute__"))) (hgt : findIn K (.ref D) "__getattr__" = some none) (hsub : subIn K (.ref D) (.type "BaseException") = some true)
    (hdct : hasDictIn K D = true) (ha : findIn K (.ref D) "__class__" = some (some (.builtin "object.__class__")))
    (hn : specialIn K (.builtin "object.__class__") "__get__" = some (some (.builtin "getset_descriptor.__get__"))) (htk : takesIn K (.builtin "object.__class__") = some true) (hm : mroIn K D (.type "object") = some true)
    (X : K.In s.heap) (I : InstAt s.heap x ox D od) (h : Q (some (.ref D)) { s with toks := s.toks + 1 }) : wpAny (model prog w) A (getAttr? (.ref x) "__class__") Q E s := by
  have hf : findObj K D od "__class__" = some (.bind (.builtin "getset_descriptor.__get__") (.builtin "object.__class__")) := findObj_dataO (by obtain ⟨cd, hc, _⟩ := any_some hdct; rw [hc]; rfl) ha hn htk
  obtain ⟨hp, g, d, t, os⟩ := s
  have L0 := I.type (M := model prog w)
  have L1 := looks_findIn (M := model prog w) X hga
  have L2 := looks_findIn (M := model prog w) X hgt
  have L3 := looks_find (M := model prog w) X I hf
  have sub : Looks (model prog w) hp (isInstance (.ref x) (.type "BaseException")) true := L0.andThen (looks_subIn X hsub)
  have hx0 : (false && onTheHeap (Value.builtin "BaseException.__getattribute__")) = false := rfl
  have hx2 : (Value.builtin "BaseException.__getattribute__" == Value.builtin "object.__getattribute__") = false := by decide +kernel
  have hx1 : (onTheHeap (Value.ref D) && Value.builtin "BaseException.__getattribute__" == Value.builtin "object.__getattribute__") = false := by rw [hx2]; rfl
  unfold getAttr? getAttrBy? getAttrBy
  refine wpAny_bind (wpAny_mkText (wpAny_bind (wpAny_attempt (wpAny_holding (wpAny_bind (L0.at (wpAny_bind (L1.at ?_))))))))
  show wpAny _ _ (if (onTheHeap (Value.ref D) && Value.builtin "BaseException.__getattribute__" == Value.builtin "object.__getattribute__") = true then _ else _) _ _ _
  rw [hx1, if_neg Bool.false_ne_true]
  unfold getAttrByItsOwn hookBefore
  refine wpAny_bind ?_
  rw [if_pos (show onTheHeap (Value.ref D) = true from rfl)]
  refine L2.at ?_
  refine wpAny_bind (wpAny_attempt (wpAny_holding ?_))
  unfold callGetattribute
  rw [hx0, if_neg Bool.false_ne_true]
  unfold boundAndCalled
  rw [PySem.F.excAttr_ValueError.ga.bind (.ref x)]
  refine wpAny_bind (wpAny_pure ?_)
  show wpAny _ _ (call (.builtin "BaseException.__getattribute__") [.ref x, .str "__class__" t]) _ _ _
  refine wpAny_call (codeAny_call_builtin PySem.F.excAttr_ValueError.ga.plain PySem.F.entry_bexc_ga ?_)
  refine @check_slot (model prog w) _ _ ⟨hp, g, d, t + 1, os⟩ "BaseException.__getattribute__" "BaseException" "__getattribute__" (.ref x) [.str "__class__" t] [] _ (by decide +kernel) (by decide +kernel) sub (PySem.F.args_bexc_ga (.ref x) (.str "__class__" t)) ?_
  unfold Builtin.«object.__getattribute__»
  refine wpAny_bind (wpAny_of_eq (a := ((Value.ref x : Value), [Value.str "__class__" t])) (by first | rfl | (simp only [slotArgs]; rfl)) ?_)
  refine wpAny_bind (wpAny_pure (wpAny_bind (L0.at (wpAny_bind (L3.at ?_)))))
  show wpAny _ _ (holding [Value.builtin "object.__class__"] (call (.builtin "getset_descriptor.__get__") [.builtin "object.__class__", .ref x, .ref D]) >>= ret) _ _ _
  refine wpAny_bind (wpAny_holding (wpAny_call (class_get (s := ⟨hp, g, d, t + 1, os⟩) (ox := ox) (od := od) X I hm ?_)))
  refine wpAny_pure ?_
  show wpAny _ _ (handedOut (.ref D)) _ _ _
  rw [handedOut_of (v := .ref D) rfl]
  first
    | exact wpAny_pure (wpAny_pure h)
    | exact wpAny_pure h
    | exact wpAny_pure (wpAny_bind (wpAny_pure (wpAny_pure h)))
theorem kitx_excO {od : Option Obj} (hga : findIn K (.ref D) "__getattribute__" = some (some (.builtin "BaseException.__getattribute__"))) (hgt : findIn K (.ref D) "__getattr__" = some none) (hsub : subIn K (.ref D) (.type "BaseException") = some true) (hdct : hasDictIn K D = true) (ha : findIn K (.ref D) "__class__" = some (some (.builtin "object.__class__")))
    (hn : specialIn K (.builtin "object.__class__") "__get__" = some (some (.builtin "getset_descriptor.__get__"))) (htk : takesIn K (.builtin "object.__class__") = some true) (hm : mroIn K D (.type "object") = some true) :
    KitX K (.ref x) (.ref D) (fun h => InstAt h x ox D od) where
  ty := fun _ _ _ I => I.type
  it := fun _ _ X _ => by
    obtain ⟨cdD, hcD, _⟩ := any_some hdct
    unfold clsIn at hcD
    split at hcD
    · rename_i c' d' cd' sl' ho
      intro A' Q' E' s' k q
      unfold isType loadHead
      exact wpAny_bind (wpAny_loadPart (k _ _ (X _ _ ho)) (wpAny_pure q))
    · cases hcD
  ne := fun h tp dd its n sl X htp => by
    obtain ⟨cdD, hcD, _⟩ := any_some hdct
    refine Bool.eq_false_iff.mpr fun q => ?_
    have e : D = tp := Value.ref.inj (beq_iff_eq.mp q)
    subst e
    unfold clsIn at hcD
    split at hcD
    · rename_i c' d' cd' sl' ho
      have z := (X _ _ ho).symm.trans htp
      cases z
    · cases hcD
  ca := fun X I k => kin_classO hga hgt hsub hdct ha hn htk hm X I k
end
end PySem.W
namespace Cm
open PySem PySem.Spec PyProof.Rows
open L2 hiding Same
/-! ### isinstance of a caught error that has fields -/
def rIsF (K : PySem.W.Frag) (D a : Addr) (cls : Value) (d : Option Addr) : List V → Hp → VK → Prop := fun xs H Q => ∃ (c : V) (cv : Value) (b : Bool) (dd : Addr) (fs : List (Str × V)), cls = .ref D ∧ xs = [.ref a, c] ∧ (∀ u, RelV c u → u = cv) ∧ PySem.W.kitOne K (.ref D) cv = some b ∧ d = some dd ∧ H dd = some (.xd fs) ∧ Q (.bl b) H
theorem call_isF {X : Cx} {a D : Addr} {oe : Obj} {cls : Value} {d : Option Addr} {pn : List (Addr × Obj)} (C : ExcC X.K D) (hz : Zc cls d oe) (hf : ∃ vs, oe.data = .fields vs) : CallR (X.suite a ((a, oe) :: pn)) (.builtin "isinstance") (rIsF X.K D a cls d) := by
  intro pins s σ H xs us Q I r h
  obtain ⟨c, cv, b, dd, fs, rfl, rfl, hcv, e, rfl, hd, q⟩ := h
  cases r with
  | cons rx rr =>
    cases rr with
    | cons rt rr =>
      cases rr
      cases rx
      have ec := hcv _ rt
      subst ec
      obtain ⟨hget, _⟩ := I.pin (a, oe) (List.mem_append.mpr (.inl List.mem_cons_self))
      obtain ⟨vs, hv⟩ := hf
      have hx : ObjOk X.prog X.w H s.heap dd (.xd fs) := I.hok dd _ hd
      obtain ⟨mA, hns, _⟩ := hx
      obtain ⟨od, ho, _⟩ := lookIn_ns hns
      have J : PySem.W.InstAt s.heap a oe D (some od) := ⟨hget, hz.1, by unfold PySem.W.notCls; rw [hv] <;> rfl, by rw [hz.2]; exact ho⟩
      exact PySem.W.kia_one (PySem.W.kitx_excO C.hg C.hk C.hs C.hd C.ha C.hn C.ht C.hm) I.kIn J e (fun z => nomatch z) fun tk => ⟨.bl b, H, I.kept (t' := tk) fun _ _ z => z, rfl, q⟩
theorem passes_len {X : Cx} {W : WX} {E : XK} (tk : Takes X W) (hW : ∀ cls d σ H, σ.length = X.N.length → E cls d H → W cls d σ H) : Passes (CX X.prog X.w) X E :=
  fun pins σ H s e s' I c => tk _ _ (XE.of_call I (fun cls d H' h => hW cls d σ H' I.len h) c)
/-! ### a call of a local name that holds a class; of a classmethod without arguments -/
section
variable {X : Cx} {CX : CXT} {k i : Nat} {C f : Addr} {fd : FuncData} {ps : List Str} {sp : Sp} {ds : List Value} {dvs : List V} {E : XK} {x : Str} {e : Expr} {es : List Expr} {p pos : Pos} {t : TA}
def tMakeL (i : Nat) (C : Addr) (sp : Sp) (dvs : List V) (E : XK) (t : TA) : TE := fun σ H Q => σ[i]? = some (some (.ref C)) ∧ tMake C sp dvs E t σ H Q
theorem pe_makeL (M : Mk X.K C f) (F : FnOk X.prog X.w X.K X.mg X.base CX k f fd ps sp) (hr : Room (k + 1) X.A) (hN : X.N[i]? = some x) (hv : Vis X.env.scope x) (hb : Binds X.K fd ps ds) (hd : Vals dvs ds) (hx : Passes CX X E)
    (ha : PA X (e :: es) t) (hdb : (x == ("__debug__" : Str)) = false := by decide) (hcd : (x == ("__classdict__" : Str)) = false := by decide)
    (he : starEach (e :: es) X.env = (false, eval e X.env) :: starEach es X.env := by rfl) (hpl : (backTo pos (starEach es X.env)).any (·.1) = false := by rfl) :
    PE X (.Call (.Name x p) (e :: es) [] pos) (tMakeL i C sp dvs E t) := by
  refine ⟨fun pins s σ H Q I h => ?_⟩
  obtain ⟨hs, ht⟩ := h
  refine wpAny_Call_Name_kw (thn ((pe_var (pos := p) hN hv hdb hcd).run pins s σ H (fun v H1 => v = .ref C ∧ H1 = H) I ⟨.ref C, hs, rfl, rfl⟩) fun u s1 ⟨v, H1, I1, r1, q1⟩ => ?_)
  obtain ⟨rfl, rfl⟩ := q1
  cases r1
  refine PySem.W.callWith_K (h₀ := X.base) I1.ok.mod.kin M.kp (thn (ha.run pos pins s1 σ _ _ I1 ht) fun us s2 ⟨vs, H2, I2, r, q⟩ => ⟨I2.kIn, ?_⟩) he hpl
  exact run_make M F hr hb hd hx I2 r q
end
section
variable {X : Cx} {CX : CXT} {k : Nat} {C p g : Addr} {mc : Value} {sp : Sp} {E : XK} {o : Expr} {m : Str} {pos apos : Pos} {ta : TE} {pl : Sem Bool}
theorem pe_cmeth0 (he : PE X o ta) (r : ClX.CRead X.K C mc) (c : ClX.CMet X.K C mc m p g) (F : FnR X.prog X.w X.K X.mg X.base CX k g sp) (hr : Room k X.A) (hx : Passes CX X E)
    (ht : eval (.Call (.Attribute o m apos) [] [] pos) X.env = (do
      let ov ← eval o X.env
      standAt apos.atName
      let (f, first) ← holding [ov] (getMethod ov m pl)
      callWith pos f first (backTo pos (starEach [] X.env)) (backToKw pos (keywordEach [] X.env))) := by rfl) :
    PE X (.Call (.Attribute o m apos) [] [] pos) (ClX.tCMeth C sp E ta tNil) := by
  refine ⟨fun pins s σ H Q I h => ?_⟩
  refine PySem.W.methodCall_KW (pl := pl) (thn (he.run pins s σ H _ I h) fun u s1 ⟨x, H1, I1, rx, ex, q⟩ => ?_) ht
  subst ex
  obtain rfl : u = Value.ref C := rx
  refine ClX.getmethcm_ok I1 r c fun s2 I2 => ?_
  exact PySem.W.callWith_M0 (first := []) ⟨ClX.pin_at I2, I2.kIn⟩ c.fi (ClX.run_cm (us := []) (vs := []) F hr hx I2 .nil q)
end
end Cm
namespace Cm
open PySem PySem.Spec PyProof.Rows
open L2 hiding Same
/-! ### constants and classmethods of a class -/
def valA (K : PySem.W.Frag) (C : Addr) (mc : Value) (f : Str) : Addr := match PySem.W.findCls K (.ref C) mc f with
  | some (.val (.ref a)) => a
  | _ => 0
def valB (K : PySem.W.Frag) (C : Addr) (mc : Value) (f : Str) : Bool := match PySem.W.findCls K (.ref C) mc f with
  | some (.val (.ref _)) => true
  | _ => false
theorem valB_ok {K : PySem.W.Frag} {C : Addr} {mc : Value} {f : Str} (h : valB K C mc f = true) : ClX.CVal K C mc f (.ref (valA K C mc f)) (.ref (valA K C mc f)) := by
  unfold valB at h
  unfold valA
  split at h
  · rename_i a e
    refine ⟨?_, rfl⟩
    rw [e]
  · cases h
def cmP (K : PySem.W.Frag) (C : Addr) (mc : Value) (m : Str) : Addr := match PySem.W.findCls K (.ref C) mc m with
  | some (.get _ (.ref p) _ _) => p
  | _ => 0
def cmG (K : PySem.W.Frag) (C : Addr) (mc : Value) (m : Str) : Addr := match PySem.W.recIn K (cmP K C mc m) "classmethod" with
  | some (.ref g :: _) => g
  | _ => 0
def cmB (K : PySem.W.Frag) (C : Addr) (mc : Value) (m : Str) : Bool := (match PySem.W.findCls K (.ref C) mc m with
  | some (.get (.builtin b) (.ref _) .none (.ref D)) => b == "classmethod.__get__" && D == C
  | _ => false) && ((match PySem.W.recIn K (cmP K C mc m) "classmethod" with
  | some (.ref _ :: _) => true
  | _ => false) && PySem.W.fnIn K (cmG K C mc m))
theorem cmB_ok {K : PySem.W.Frag} {C : Addr} {mc : Value} {m : Str} (h : cmB K C mc m = true) : ClX.CMet K C mc m (cmP K C mc m) (cmG K C mc m) := by
  unfold cmB at h
  obtain ⟨h1, h⟩ := Bool.and_eq_true_iff.mp h
  obtain ⟨h2, h3⟩ := Bool.and_eq_true_iff.mp h
  refine ⟨?_, ?_, h3⟩
  · unfold cmP
    split at h1
    · rename_i b p D e
      obtain ⟨e1, e2⟩ := Bool.and_eq_true_iff.mp h1
      have e1 := beq_iff_eq.mp e1
      have e2 := beq_iff_eq.mp e2
      subst e1 e2
      rw [e]
    · cases h1
  · unfold cmG
    split at h2
    · rename_i g r e
      rw [e]
      exact ⟨r, rfl⟩
    · cases h2
/-- a tuple of texts -/
def tsB (K : PySem.W.Frag) (a : Addr) (ts : List Str) : Bool := match K.lookup a with
  | some ⟨.type c, _, .seq its _, _⟩ => c == "tuple" && (decide (its.size ≤ sizeLine) && He.relAll (ts.map V.str) its.toList)
  | _ => false
theorem tsB_ok {K : PySem.W.Frag} {a : Addr} {ts : List Str} (h : tsB K a ts = true) (H : Hp) : SqT K H a (ts.map V.str) := by
  unfold tsB at h
  split at h
  · rename_i c d its n sl e
    obtain ⟨h1, h⟩ := Bool.and_eq_true_iff.mp h
    obtain ⟨h2, h3⟩ := Bool.and_eq_true_iff.mp h
    exact .inr ⟨_, its, n, e, congrArg Value.type (beq_iff_eq.mp h1), rfl, of_decide_eq_true h2, He.relAll_ok h3⟩
  · cases h
/-! ### def of(cls, *names) -/
def starB (K : PySem.W.Frag) (f : Addr) (qual : Str) : Bool := match K.lookup f with
  | some ⟨_, _, .func fd, _⟩ => PySem.W.codeIn K fd.code qual && fd.defaults == .none
  | _ => false
theorem star_of {K : PySem.W.Frag} {f : Addr} {x qual : Str} {params : Arguments} {body : List Stmt} {scope : Scope} (w : fnWS K f = some (x, qual, params, FuncBody.stmts body, scope, mainGlobals, [], builtinsNs)) (b : starB K f qual = true) :
    ∃ (oc : Value) (od : Option Addr) (kV doc pm : Value) (an : Option Addr) (cdv ct : Value) (osl : Array (Option Value)), K.lookup f = some ⟨oc, od, .func (PySem.W.fnOf x qual params body scope .none kV doc pm an cdv ct), osl⟩ ∧ PySem.W.codeIn K cdv qual = true := by
  unfold fnWS at w
  unfold starB at b
  cases q : K.lookup f with
  | none => rw [q] at b; cases b
  | some o =>
    obtain ⟨oc, od, dt, osl⟩ := o
    rw [q] at w b
    cases dt with
    | func fd =>
      obtain ⟨n1, n2, n3, n4, n5, n6, n7, n8, n9, n10, n11, n12, n13, n14, n15⟩ := fd
      have e2 : (some (n1, n2, n3, n4, n5, n6, n7.map (·.1), n15) : FnWS) = some (x, qual, params, FuncBody.stmts body, scope, mainGlobals, [], builtinsNs) := w
      simp only [Option.some.injEq, Prod.mk.injEq] at e2
      obtain ⟨h1, h2, h3, h4, h5, h6, h7, h8⟩ := e2
      subst h1 h2 h3 h4 h5 h6 h8
      dsimp only at b
      obtain ⟨b3, b4⟩ := Bool.and_eq_true_iff.mp b
      have b5 := beq_iff_eq.mp b4
      subst b5
      cases n7 with
      | nil => exact ⟨oc, od, n9, n10, n11, n12, n13, n14, osl, rfl, b3⟩
      | cons z n7 => cases h7
    | _ => cases b
def dfN (K : PySem.W.Frag) (f : Addr) : Bool := match K.lookup f with
  | some ⟨_, _, .func fd, _⟩ => fd.defaults == .none
  | _ => false
theorem dfN_ok {K : PySem.W.Frag} {f : Addr} {oc : Value} {od : Option Addr} {fd : FuncData} {osl : Array (Option Value)} (lk : K.lookup f = some ⟨oc, od, .func fd, osl⟩) (h : dfN K f = true) : fd.defaults = .none := by
  unfold dfN at h
  rw [lk] at h
  exact beq_iff_eq.mp h
/-! ### x not in t, of any depth -/
def rNotInT (K : PySem.W.Frag) : R2 := fun x y H Q => ∃ d ds, Dp K H x d ∧ Dp K H y (.tuple ds) ∧ SeqAt.shaped d = true ∧ SeqAt.shaped (.tuple ds) = true ∧ Q (.bl (!ds.any fun z => PyData.eqv z d)) H
theorem op_notInT {X : Cx} (hu : X.A.units + 65 < cLine) : OpR X (compareOp .NotIn) (rNotInT X.K) := by
  intro pins s σ H x y v u Q I rx ry h
  obtain ⟨d, ds, hd, he, sd, se, q⟩ := h
  obtain ⟨as, r1⟩ := Dp.reads I d x v hd rx
  obtain ⟨bs, r2⟩ := Dp.reads I (.tuple ds) y u he ry
  exact SeqAt.notIn_tuple_reads r2 r1 (SeqAt.canLay_of_shaped se) (SeqAt.canLay_of_shaped sd) (room_in_shaped sd hu) ⟨.bl _, H, I, rfl, q⟩
end Cm
namespace Cm
open PySem PySem.Spec PyProof.Rows
open L2 hiding Same
theorem u65 {k : Nat} {A : Around} (r : Room k A) : A.units + 65 < cLine := by have := r.un; omega
theorem pe_cal0 {X : Cx} {j k : Nat} {x : Str} {sp : Sp} {p pos : Pos} (c : Cal X.prog X.w X.K X.mg X.base k x sp) (hr : Room j X.A) (hk : k ≤ j) (hg : Gl X x := by rfl) (hd : (x == ("__debug__" : Str)) = false := by decide) :
    PE X (.Call (.Name x p) [] [] pos) (tCall sp [] E0 tNil) := by
  obtain ⟨f, fd, ps, F, b, g, kp⟩ := c
  exact pe_call0 F (hr.mono hk) hg g kp b .nil pass0 hd
/-! ### a walk over a list or a tuple -/
theorem PI.or2 {X : Cx} {tg iter : Expr} {t1 t2 : TI} (h1 : PI X tg iter t1) (h2 : PI X tg iter t2) : PI X tg iter (fun σ H R => t1 σ H R ∨ t2 σ H R) :=
  ⟨fun pins s σ H R I h => h.elim (h1.run pins s σ H R I) (h2.run pins s σ H R I)⟩
def iSeq (K : PySem.W.Frag) (tl : TE) : TI := fun σ H R => iList K tl σ H R ∨ iTup K tl σ H R
theorem pi_seq {X : Cx} {tg l : Expr} {tl : TE} (hl : PE X l tl) : PI X tg l (iSeq X.K tl) := PI.or2 (pi_list hl) (pi_tup hl)
def Sq (K : PySem.W.Frag) (H : Hp) (a : Addr) (xs : List V) : Prop := SqL K H a xs ∨ SqT K H a xs
theorem for_seq {K : PySem.W.Frag} {a : Addr} {xs : List V} {g : TG} {tb : TS} {tl : TE} {D : Ends} {σ : L2.St} {H : Hp} (e : ∀ Q : VK, Q (.ref a) H → tl σ H Q) (hn : Sq K H a xs) (Pv : Nat → L2.St → Hp → Prop) (h0 : Pv 0 σ H)
    (hl : ∀ i σ H', i ≤ xs.length → Pv i σ H' → (SqL K H a xs → SqL K H' a xs) ∧ (SqT K H a xs → SqT K H' a xs))
    (hs : ∀ i x σ H, xs[i]? = some x → Pv i σ H → g x σ H fun σ2 H2 => tb { D with nx := Pv (i + 1), ct := Pv (i + 1), bk := D.nx } σ2 H2) (hd : ∀ σ H, Pv xs.length σ H → D.nx σ H) : tFor (iSeq K tl) g tb D σ H := by
  rcases hn with hn | hn
  · exact .inl (e _ ⟨a, rfl, ⟨xs, hn⟩, for_list Pv h0 (fun i σ H' hi p => (hl i σ H' hi p).1 hn) hs hd⟩)
  · exact .inr (e _ ⟨a, rfl, ⟨xs, hn⟩, for_tup Pv h0 (fun i σ H' hi p => (hl i σ H' hi p).2 hn) hs hd⟩)
theorem Same.st {K : PySem.W.Frag} {a : Addr} {H H' : Hp} {xs : List V} (k : Same H H') (h : SqT K H a xs) : SqT K H' a xs :=
  h.elim (fun h => .inl (h.elim (fun h => .inl (k _ _ h)) fun ⟨o, h⟩ => .inr ⟨o, k _ _ h⟩)) .inr
theorem Sq.same {K : PySem.W.Frag} {a : Addr} {H H' : Hp} {xs : List V} (h : Sq K H a xs) (k : Same H H') : Sq K H' a xs := h.elim (fun h => .inl (k.sl h)) fun h => .inr (k.st h)
/-! ### texts in lists -/
theorem flat_strs (ts : List Str) : (ts.map V.str).all flatV = true := by
  rw [List.all_eq_true]
  intro x hx
  obtain ⟨i, _, rfl⟩ := List.mem_map.mp hx
  rfl
theorem inV_strs (n : Str) (ts : List Str) : inV (.str n) (ts.map V.str) = decide (n ∈ ts) := by
  unfold inV
  rw [List.any_map]
  apply Bool.eq_iff_iff.mpr
  rw [List.any_eq_true, decide_eq_true_iff]
  exact ⟨fun ⟨x, hx, e⟩ => by have e2 : x = n := by simpa [eqV] using e
                              subst e2; exact hx, fun h => ⟨n, h, by simp [eqV]⟩⟩
theorem strs_at {ts : List Str} {i : Nat} {x : V} (h : (ts.map V.str)[i]? = some x) : ∃ hi : i < ts.length, x = .str ts[i] := by
  rw [List.getElem?_map] at h
  cases e : ts[i]? with
  | none => rw [e] at h; cases h
  | some n =>
    rw [e] at h
    obtain ⟨hi, e2⟩ := List.getElem?_eq_some_iff.mp e
    exact ⟨hi, by rw [e2]; exact (Option.some.inj h).symm⟩
theorem take_filter {ts : List Str} {p : Str → Bool} {i : Nat} (hi : i < ts.length) : (ts.take (i + 1)).filter p = if p ts[i] = true then (ts.take i).filter p ++ [ts[i]] else (ts.take i).filter p := by
  rw [List.take_add_one, List.getElem?_eq_getElem hi]
  show ((ts.take i) ++ [ts[i]]).filter p = _
  rw [List.filter_append]
  by_cases h : p ts[i] = true
  · rw [if_pos h, List.filter_cons_of_pos h, List.filter_nil]
  · rw [if_neg h, List.filter_cons_of_neg h, List.filter_nil, List.append_nil]
theorem filt_len {ts : List Str} {p : Str → Bool} {i n : Nat} (h : ts.length ≤ n) : ((ts.take i).filter p).length ≤ n := by
  have := List.length_filter_le p (ts.take i)
  have := List.length_take_le' i ts
  omega
theorem dp_strs {K : PySem.W.Frag} {H : Hp} : ∀ ts : List Str, DpAll K H (ts.map V.str) (ts.map PyData.str)
  | [] => .nil
  | n :: ns => .cons (.str n) (dp_strs ns)
theorem shp_strAll : ∀ ts : List Str, (∀ z ∈ ts, PyData.strOk z = true) → PyData.canLayAll0 (ts.map PyData.str) = true ∧ PyData.depthAll (ts.map PyData.str) = 0
  | [], _ => ⟨rfl, rfl⟩
  | n :: ns, hk => by
    obtain ⟨h1, h2⟩ := shp_strAll ns fun z hz => hk z (List.mem_cons_of_mem _ hz)
    exact ⟨by show (PyData.canLay0 (.str n) && PyData.canLayAll0 (ns.map PyData.str)) = true; rw [h1]; simp [PyData.canLay0, hk n List.mem_cons_self], by show max (PyData.depth (.str n)) (PyData.depthAll (ns.map PyData.str)) = 0; rw [h2]; rfl⟩
theorem shp_str {z : Str} (h : PyData.strOk z = true) : SeqAt.shaped (.str z) = true := by
  show ((PyData.str z).canLay0 && decide ((PyData.str z).depth ≤ 64)) = true
  simp [PyData.canLay0, PyData.depth, h]
theorem shp_strs {ts : List Str} (hk : ∀ z ∈ ts, PyData.strOk z = true) : SeqAt.shaped (.list (ts.map PyData.str)) = true := by
  obtain ⟨h1, h2⟩ := shp_strAll ts hk
  show ((PyData.list (ts.map PyData.str)).canLay0 && decide ((PyData.list (ts.map PyData.str)).depth ≤ 64)) = true
  simp only [PyData.canLay0, PyData.depth, h1, h2, Bool.true_and, decide_eq_true_eq]
  omega
theorem shp_strsT {ts : List Str} (hk : ∀ z ∈ ts, PyData.strOk z = true) : SeqAt.shaped (.tuple (ts.map PyData.str)) = true := by
  obtain ⟨h1, h2⟩ := shp_strAll ts hk
  show ((PyData.tuple (ts.map PyData.str)).canLay0 && decide ((PyData.tuple (ts.map PyData.str)).depth ≤ 64)) = true
  simp only [PyData.canLay0, PyData.depth, h1, h2, Bool.true_and, decide_eq_true_eq]
  omega
theorem eqvA_strs : ∀ xs ys : List Str, PyData.eqvAll (xs.map PyData.str) (ys.map PyData.str) = decide (xs = ys)
  | [], [] => by simp [PyData.eqvAll]
  | [], y :: ys => by simp [PyData.eqvAll]
  | x :: xs, [] => by simp [PyData.eqvAll]
  | x :: xs, y :: ys => by
    have h := eqvA_strs xs ys
    show (PyData.eqv (.str x) (.str y) && PyData.eqvAll (xs.map PyData.str) (ys.map PyData.str)) = _
    rw [h]
    have e : PyData.eqv (.str x) (.str y) = decide (x = y) := by
      simp only [PyData.eqv]
      by_cases h : x = y <;> simp [h]
    rw [e]
    by_cases h1 : x = y <;> by_cases h2 : xs = ys <;> simp [h1, h2]
theorem eqv_strs (xs ys : List Str) : PyData.eqv (.list (xs.map PyData.str)) (.list (ys.map PyData.str)) = decide (xs = ys) := by
  simp only [PyData.eqv]; exact eqvA_strs xs ys
theorem eqv_strsT (xs ys : List Str) : PyData.eqv (.tuple (xs.map PyData.str)) (.tuple (ys.map PyData.str)) = decide (xs = ys) := by
  simp only [PyData.eqv]; exact eqvA_strs xs ys
theorem any_strs (n : Str) (ts : List Str) : ((ts.map PyData.str).any fun z => PyData.eqv z (.str n)) = decide (n ∈ ts) := by
  rw [List.any_map]
  apply Bool.eq_iff_iff.mpr
  rw [List.any_eq_true, decide_eq_true_iff]
  have e : ∀ x, PyData.eqv (.str x) (.str n) = decide (x = n) := fun x => by
    simp only [PyData.eqv]
    by_cases h : x = n <;> simp [h]
  exact ⟨fun ⟨x, hx, q⟩ => by
    have q2 : x = n := by
      have := q
      simp only [Function.comp, e, decide_eq_true_eq] at this
      exact this
    subst q2; exact hx, fun h => ⟨n, h, by simp only [Function.comp, e, decide_true]⟩⟩
end Cm
namespace Cm
open PySem PySem.Spec PyProof.Rows
open L2 hiding Same
section
variable {X : Cx} {j k : Nat} {m : Str} {C : Addr} {sp : Sp} {e o : Expr} {es : List Expr} {pos apos : Pos} {t : TA} {ta : TE}
theorem pe_mcalA {pl : Sem Bool} (c : MCal X.prog X.w X.K X.mg X.base k C m sp) (hr : Room j X.A) (hk : k ≤ j) (ho : PE X o ta) (ha : PA X (e :: es) t)
    (hst : starEach (e :: es) X.env = (false, eval e X.env) :: starEach es X.env := by rfl) (hpl : (backTo pos (starEach es X.env)).any (·.1) = false := by rfl)
    (ht : eval (.Call (.Attribute o m apos) (e :: es) [] pos) X.env = (do
      let ov ← eval o X.env
      standAt apos.atName
      let (f, first) ← holding [ov] (getMethod ov m pl)
      callWith pos f first (backTo pos (starEach (e :: es) X.env)) (backToKw pos (keywordEach [] X.env))) := by rfl) : PE X (.Call (.Attribute o m apos) (e :: es) [] pos) (tMeth C m sp [] E0 ta t) := by
  obtain ⟨cl, f, fd, ps, F, b, M⟩ := c
  exact pe_meth (pl := pl) ho cl M F (hr.mono hk) b .nil pass0 ha hst hpl ht
/-- x == t, by x's own __eq__, t a tuple -/
def rOwnGT (P : Program) (w : World) (K : PySem.W.Frag) (mg : Str → Option Value) (base : Heap) (k : Nat) : R2 := fun x y H Q =>
  ∃ a C dx fs sp t xs, x = .ref a ∧ y = .ref t ∧ H a = some (.ins C dx fs) ∧ SqT K H t xs ∧ MCal P w K mg base k C "__eq__" sp ∧ PySem.W.notFirst K C (.type "tuple") = true ∧ sp [x, y] H Q E0
theorem op_ownGT (hr : Room j X.A) (hk : k ≤ j) : OpR X (compareOp .Eq) (rOwnGT X.prog X.w X.K X.mg X.base k) := by
  intro pins s σ H x y v u Q I rx ry h
  obtain ⟨a, C, dx, fs, sp, t, xs, ex, ey, ha, ht, ⟨c, f, fd, ps, F, b, M⟩, hn, q⟩ := h
  subst ex ey
  cases (show v = Value.ref a from rx)
  cases (show u = Value.ref t from ry)
  obtain ⟨mA, O, _⟩ := ins_get I.hok ha
  obtain ⟨od, J, _⟩ := O.look
  obtain ⟨mm, hF⟩ := I.fr
  obtain ⟨its, rv, ⟨o, ho, hc, _⟩, _⟩ := I.tuple ht
  have hb : PySem.W.Looks (model X.prog X.w) s.heap (typeOf (.ref t)) (.type "tuple") := by
    have z := (PySem.W.Looks.ld (M := model X.prog X.w) (part := none) ho)
    intro A Q E s k q
    exact wpAny_typeOf_ref (k _ _ ho) (by rw [hc]; exact q)
  show wpAny _ X.A (richCompare .Eq (.ref a) (.ref t)) _ _ s
  refine PySem.W.cmp_K (op := .Eq) hr.units0 hF I.ok.mod.kin J hb hn M.at_ M.fn ?_
  refine wpAny_mono (run_fn (us := [.ref a, .ref t]) (vs := [.ref a, .ref t]) F (hr.mono hk) b .nil pass0 I (.cons rfl (.cons rfl .nil)) q) ?_ fun _ _ z => z
  rintro r s' ⟨z, H', I', rz, qz⟩
  exact SlX.cmpback rz ⟨z, H', I', rz, qz⟩
end
theorem cutT (xs : List V) (c : Nat) : cutV xs none (some (c : Int)) = xs.take c := by
  unfold cutV
  rw [HT.sIx_none, HT.sIx_nat, List.drop_zero, Nat.sub_zero]
  by_cases h : c ≤ xs.length
  · rw [Nat.min_eq_left h]
  · rw [Nat.min_eq_right (by omega), List.take_length, List.take_of_length_le (by omega)]
theorem cutD (xs : List V) (c : Nat) : cutV xs (some (c : Int)) none = xs.drop c := by
  unfold cutV
  rw [HT.sIx_none, HT.sIx_nat]
  by_cases h : c ≤ xs.length
  · rw [Nat.min_eq_left h, List.take_of_length_le (by rw [List.length_drop]; omega)]
  · rw [Nat.min_eq_right (by omega), Nat.sub_self, List.take_zero, List.drop_of_length_le (by omega)]
end Cm
/-! the bag that laws draw from -/
namespace Cm
open PySem PySem.Spec PyProof.Rows
open L2 hiding Same
def Bag (H : Hp) (p : Addr) : Prop := ∃ b m : Int, H p = some (.lst [V.int b, V.int m]) ∧ 0 ≤ b ∧ 0 ≤ m
theorem Bag.kp {H H' : Hp} {p q : Addr} (h : Bag H p) (k : Kp q H H') (n : p ≠ q) : Bag H' p := let ⟨b, m, e, r⟩ := h; ⟨b, m, k _ _ n e, r⟩
theorem Bag.same {H H' : Hp} {p : Addr} (h : Bag H p) (k : Same H H') : Bag H' p := let ⟨b, m, e, r⟩ := h; ⟨b, m, k _ _ e, r⟩
theorem Bag.ne {H : Hp} {p q : Addr} (h : Bag H p) (k : H q = none) : p ≠ q := let ⟨_, _, e, _⟩ := h; ne_of_none e k
theorem Bag.ne_tup {H : Hp} {p q : Addr} {xs : List V} (h : Bag H p) (e : H q = some (.tup xs)) : q ≠ p := by
  rintro rfl
  obtain ⟨b, m, e2, _⟩ := h
  rw [e] at e2
  cases e2
theorem Bag.ne_dT {H : Hp} {p q : Addr} {xs} (h : Bag H p) (e : H q = some (.dT xs)) : q ≠ p := by
  rintro rfl
  obtain ⟨b, m, e2, _⟩ := h
  rw [e] at e2
  cases e2
theorem Bag.ne_ins {H : Hp} {p q : Addr} {c d xs} (h : Bag H p) (e : H q = some (.ins c d xs)) : q ≠ p := by
  rintro rfl
  obtain ⟨b, m, e2, _⟩ := h
  rw [e] at e2
  cases e2
theorem cd {m : Int} (h0 : 0 < m) (h : m ≤ 1000000000) : CDivW 0 m :=
  ⟨h0, Nat.lt_of_lt_of_le (PySem.Flt.log2_lt_of (k := 30) (by decide) (show m.natAbs < 2 ^ 30 by omega)) (by decide)⟩
theorem cut_intsE (ns : List Int) (lo hi : Option Int) : ∃ ms : List Int, cutV (ns.map V.int) lo hi = ms.map V.int ∧ ms.length ≤ ns.length := by
  have h := cutV_length (ns.map V.int) lo hi
  unfold cutV at h ⊢
  rw [← List.map_drop, ← List.map_take] at h ⊢
  exact ⟨_, rfl, by simpa using h⟩
def spBag (K : PySem.W.Frag) : Sp := fun vs H Q _ => ∃ (a : Addr) (ns : List Int) (i : Int), vs = [.ref a, .int i] ∧ SqL K H a (ns.map V.int) ∧ 0 ≤ i ∧ i < 100 ∧ ∀ p H', H p = none → Same H H' → Bag H' p → Q (.ref p) H'
def spTake : Sp := fun vs H Q _ => ∃ p m, vs = [.ref p, .int m] ∧ Bag H p ∧ 0 < m ∧ m ≤ 1000000000 ∧ ∀ r H', 0 ≤ r → r < m → Kp p H H' → Bag H' p → Q (.int r) H'
def spOf (K : PySem.W.Frag) : Sp := fun vs H Q _ => ∃ p q xs, vs = [.ref p, .ref q] ∧ H q = some (.lst xs) ∧ 0 < xs.length ∧ xs.length ≤ 1000 ∧ Bag H p ∧ p ≠ q ∧ ∀ v H', v ∈ xs → Kp p H H' → Bag H' p → Q v H'
end Cm
namespace K47
open PySem PySem.Spec PyProof.Rows Cm
open L2 hiding Same
section
variable {P : Program} {w : World} {K : PySem.W.Frag} {mg : Str → Option Value} {base : Heap} {sa : Addr} {sx : List Int}
theorem ok_l_bag (T : Tx K mg sa sx) : Cal P w K mg base 1 "_law_bag" (spBag K) := by
  obtain ⟨fd, F⟩ := f_l_bag T
  refine ⟨_, fd, ["_law_script", "_law_at"], fnok F sc_l_bag (fun vs H Q E h => ?_) (fun cdv A outer s H vs Q E hr h => ?_), F.bindsN fun _ _ _ _ _ _ us hl => match us, hl with | [_, _], _ => rfl, g__law_bag T, F.kp⟩
  · obtain ⟨a, ns, i, rfl, _⟩ := h; rfl
  · obtain ⟨a, ns, i, rfl, hS, i0, i1, k⟩ := h
    refine ⟨_, (pss_cons (ps_set (i := 2) sc_l_bag.nd rfl (by first | exact Or.inl rfl | exact Or.inr rfl) (pe_ifExp (pt_cmpR op_lt (pv 1) (pe_callB (id := "len") call_len_seq rfl (n_len T) (by decide +kernel) (pa_cons (pv 0) pa_nil)) (nomark _)) (pe_ix ix_list (pv 0) (pv 1) (fun _ _ => rfl)) pe_int))
    (pss_cons (ps_set (i := 3) sc_l_bag.nd rfl (by first | exact Or.inl rfl | exact Or.inr rfl) (pe_op op_add (pe_op op_mul pe_int (pv 1)) pe_int))
    (pss_cons (ps_for PassesOwn.never rfl (pi_enum rfl (n_enumerate T) (pa_cons (pe_slice sl_list (pv 0) po_none (po_some pe_int)) pa_nil)) (pg_tup (by rfl) (pgs_cons (pg_name (i := 4) sc_l_bag.nd rfl (by first | exact Or.inl rfl | exact Or.inr rfl)) (pgs_cons (pg_name (i := 5) sc_l_bag.nd rfl (by first | exact Or.inl rfl | exact Or.inr rfl)) pgs_nil)))
      (pss_one (ps_set (i := 3) sc_l_bag.nd rfl (by first | exact Or.inl rfl | exact Or.inr rfl) (pe_op op_mod (pe_callTy (T := "int") call_int1 rfl (n_int T) (by decide +kernel) (pa_cons (pe_op op_add (pe_op op_add (pe_op op_mul (pv 3) pe_int) (pe_op op_mod (pe_callTy (T := "int") call_int1 rfl (n_int T) (by decide +kernel) (pa_cons (pv 5) pa_nil)) pe_int)) (pe_op op_mul pe_int (pv 4))) pa_nil)) pe_int))))
    (pss_one (ps_ret (pe_lst (pa_cons (pe_ifExp (pt_cmpR op_ge (pe_callB (id := "abs") call_abs rfl (n_abs T) (by decide +kernel) (pa_cons (pv 2) pa_nil)) (pe_op op_pow pe_int pe_int) (nomark _)) (pe_callB (id := "abs") call_abs rfl (n_abs T) (by decide +kernel) (pa_cons (pv 2) pa_nil)) pe_int) (pa_cons (pv 3) pa_nil)))))))), ?_⟩
    refine ⟨_, rfl, _, rfl, a, _, rfl, .inl hS, _, _, rfl, rfl, _, rfl, dC (fun hi => have hi2 : i.toNat < ns.length := (by rw [List.length_map] at hi; omega); ⟨_, rfl, _, rfl, a, _, i, V.int (ns[i.toNat]'hi2), rfl, rfl, hS, at_of (j := i.toNat) (by omega) (by simp [hi2]), ?_⟩) (fun hi => ?_)⟩
    all_goals
      refine ⟨_, rfl, _, _, rfl, rfl, .inl ⟨by decide, by decide⟩, _, _, rfl, rfl, ?_⟩
      refine ⟨_, rfl, _, rfl, a, _, rfl, hS, fun L hL => ⟨L, _, rfl, SqL.of upd_same, ?_⟩⟩
      obtain ⟨ms, em, _⟩ := cut_intsE ns none (some 40)
      rw [em]
      refine for_it (walk_enum (K := K) (a := L) (xs := ms.map V.int)) (fun j σ H' => ∃ (c m : Int) (k4 k5 : Option V), σ = [some (.ref a), some (.int i), some (.int c), some (.int m), k4, k5] ∧ 0 ≤ m ∧ Same H H' ∧ H' L = some (.lst (ms.map V.int))) ⟨_, _, none, none, rfl, by omega, Same.new hL, upd_same⟩ (fun j σ H' _ ⟨_, _, _, _, _, _, _, z⟩ => SqL.of z) ?_ ?_
      · rintro j x σ G G' hj ⟨c, m, k4, k5, rfl, m0, sG, gL⟩ ⟨Tp, x1, x2, rfl, hT, rfl, ex1, ex2⟩
        cases (Option.some.inj ex1)
        have ex3 : (ms.map V.int)[j]? = some x2 := ex2
        obtain ⟨hj3, rfl⟩ := map_at ex3
        refine ⟨Tp, _, rfl, SqT.of upd_same, rfl, _, _, rfl, _, _, rfl, rfl, ?_⟩
        refine ⟨_, rfl, _, _, rfl, rfl, .inr ⟨by decide, by decide⟩, _, rfl, .inl ⟨_, rfl, _, _, rfl, rfl, (by show (0 : Int) < 2147483399; decide), _, _, rfl, rfl, _, rfl, _, _, rfl, rfl, .inl ⟨by decide, by decide⟩, _, _, rfl, rfl, .inl ⟨_, rfl, _, _, rfl, rfl, (by show (0 : Int) < 2147483399; decide), ?_⟩⟩⟩
        exact ⟨_, _, _, _, rfl, Int.emod_nonneg _ (by decide), sG.mut (sG.free hT), (upd_ne (ne_of_none gL hT)).trans gL⟩
      · rintro σ G ⟨c, m, k4, k5, rfl, m0, sG, gL⟩
        refine ⟨_, rfl, _, rfl, _, _, rfl, rfl, ⟨by decide, by decide, by decide⟩, _, _, rfl, rfl, _, rfl, dC (fun hc => ?_) (fun hc => ?_)⟩
        · refine ⟨_, rfl, _, rfl, _, rfl, sz1 (by simp), fun q hq => ?_⟩
          exact k q _ (sG.free hq) (sG.mut (sG.free hq)) ⟨_, m, upd_same, by split <;> omega, m0⟩
        · refine ⟨_, rfl, sz1 (by simp), fun q hq => ?_⟩
          exact k q _ (sG.free hq) (sG.mut (sG.free hq)) ⟨0, m, upd_same, Int.le_refl _, m0⟩
theorem ok_l_take (T : Tx K mg sa sx) : Cal P w K mg base 1 "_law_take" spTake := by
  obtain ⟨fd, F⟩ := f_l_take T
  refine ⟨_, fd, ["_law_bag_here", "_law_many"], fnok F sc_l_take (fun vs H Q E h => ?_) (fun cdv A outer s H vs Q E hr h => ?_), F.bindsN fun _ _ _ _ _ _ us hl => match us, hl with | [_, _], _ => rfl, g__law_take T, F.kp⟩
  · obtain ⟨p, m, rfl, _⟩ := h; rfl
  · obtain ⟨p, m, rfl, ⟨b, x, hp, b0, x0⟩, m0, m1, k⟩ := h
    refine ⟨_, (pss_cons (ps_if (pt_cmpR op_gt (pe_ix ix_list (pv 0) pe_int (fun _ _ => rfl)) pe_int (nomark _)) (pss_cons (ps_set (i := 2) sc_l_take.nd rfl (by first | exact Or.inl rfl | exact Or.inr rfl) (pe_op op_mod (pe_callTy (T := "int") call_int1 rfl (n_int T) (by decide +kernel) (pa_cons (pe_ix ix_list (pv 0) pe_int (fun _ _ => rfl)) pa_nil)) (pv 1)))
      (pss_cons (ps_asg (pe_op op_fdivW (pe_ix ix_list (pv 0) pe_int (fun _ _ => rfl)) (pv 1)) (pg_sub (pv 0) pe_int set_list))
      (pss_one (ps_ret (pv 2))))) pss_nil)
    (pss_cons (ps_asg (pe_op op_mod (pe_callTy (T := "int") call_int1 rfl (n_int T) (by decide +kernel) (pa_cons (pe_op op_add (pe_op op_mul (pe_ix ix_list (pv 0) pe_int (fun _ _ => rfl)) pe_int) pe_int) pa_nil)) pe_int) (pg_sub (pv 0) pe_int set_list))
    (pss_one (ps_ret (pe_op op_mod (pe_op op_fdivW (pe_op op_mod (pe_callTy (T := "int") call_int1 rfl (n_int T) (by decide +kernel) (pa_cons (pe_op op_mul (pe_op op_fdivW (pe_ix ix_list (pv 0) pe_int (fun _ _ => rfl)) pe_int) pe_int) pa_nil)) pe_int) pe_int) (pv 1)))))), ?_⟩
    have ix : ∀ {H' : Hp} {xs : List V}, H' p = some (.lst xs) → SqL K H' p xs := fun h => SqL.of h
    refine ⟨_, rfl, p, _, 0, _, rfl, rfl, ix hp, rfl, _, _, rfl, rfl, _, rfl, dC (fun hb => ?_) (fun hb => ?_)⟩
    · refine ⟨_, rfl, p, _, 0, _, rfl, rfl, ix hp, rfl, .inl ⟨_, rfl, _, rfl, _, _, rfl, rfl, m0, ?_⟩⟩
      refine ⟨_, rfl, p, _, 0, _, rfl, rfl, ix hp, rfl, _, rfl, _, _, rfl, rfl, cd m0 m1, _, rfl, p, _, 0, 0, rfl, rfl, hp, rfl, ?_⟩
      exact ⟨_, rfl, k _ _ (Int.emod_nonneg _ (by omega)) (Int.emod_lt_of_pos _ m0) Kp.refl.at ⟨_, _, upd_same, Int.ediv_nonneg b0 (by omega), x0⟩⟩
    · refine ⟨_, rfl, p, _, 1, _, rfl, rfl, ix hp, rfl, _, _, rfl, rfl, .inr ⟨by decide, by decide⟩, _, _, rfl, rfl, .inl ⟨_, rfl, _, _, rfl, rfl, (by show (0 : Int) < 2147483629; decide), _, rfl, p, _, 1, 1, rfl, rfl, hp, rfl, ?_⟩⟩
      refine ⟨_, rfl, p, _, 1, _, rfl, rfl, ix upd_same, rfl, _, _, rfl, rfl, cd (by decide) (by decide), _, _, rfl, rfl, .inr ⟨by decide, by decide⟩, .inl ⟨_, rfl, _, _, rfl, rfl, (by show (0 : Int) < 2147483647; decide), _, _, rfl, rfl, cd (by decide) (by decide), _, rfl, _, _, rfl, rfl, m0, ?_⟩⟩
      exact k _ _ (Int.emod_nonneg _ (by omega)) (Int.emod_lt_of_pos _ m0) Kp.refl.at ⟨_, _, upd_same, b0, Int.emod_nonneg _ (by decide)⟩
theorem ok_l_of (T : Tx K mg sa sx) : Cal P w K mg base 2 "_law_of" (spOf K) := by
  obtain ⟨fd, F⟩ := f_l_of T
  refine ⟨_, fd, ["_law_bag_here", "_law_some"], fnok F sc_l_of (fun vs H Q E h => ?_) (fun cdv A outer s H vs Q E hr h => ?_), F.bindsN fun _ _ _ _ _ _ us hl => match us, hl with | [_, _], _ => rfl, g__law_of T, F.kp⟩
  · obtain ⟨p, q, xs, rfl, _⟩ := h; rfl
  · obtain ⟨p, q, xs, rfl, hq, x0, x1, hB, n, k⟩ := h
    refine ⟨_, (pss_one (ps_ret (pe_ix ix_list (pv 1) (pe_cal (ok_l_take T) hr (by decide) (pa_cons (pv 0) (pa_cons (pe_callB (id := "len") call_len_seq rfl (n_len T) (by decide +kernel) (pa_cons (pv 1) pa_nil)) pa_nil))) (fun _ _ => rfl)))), ?_⟩
    refine ⟨_, rfl, _, rfl, _, rfl, q, _, rfl, .inl (SqL.of hq), p, (xs.length : Int), rfl, hB, by omega, by omega, fun r H1 r0 r1 k1 b1 => ?_⟩
    have hr2 : r.toNat < xs.length := by omega
    exact ⟨q, xs, r, xs[r.toNat], rfl, rfl, SqL.of (k1 _ _ (Ne.symm n) hq), at_of (j := r.toNat) (by omega) (by simp [hr2]), k _ _ (List.getElem_mem hr2) k1 b1⟩
end
end K47
namespace K47
open PySem PySem.Spec PyProof.Rows Cm
open L2 hiding Same
theorem wk_range {lo : Int} {n : Nat} {H0 : Hp} {Qd : Hp → Prop} {F : V → Hp → (Hp → Prop) → Prop} (Pv : Nat → Hp → Prop) (h0 : Pv 0 H0) (hs : ∀ i H, i < n → Pv i H → F (.int (lo + i)) H (Pv (i + 1))) (hd : ∀ H, Pv n H → Qd H) :
    ∃ W : Nat → Nat → Hp → Prop, (∃ m, W 0 m H0) ∧ ∀ i m H, W i m H →
      ((Itr lo n).stop i H ∧ Qd H) ∨ ((Itr lo n).go i H ∧ ∃ Nx : Hp → Prop, (∀ H', Nx H' → ∃ m', m' < m ∧ W (i + 1) m' H') ∧ ∀ x H', (Itr lo n).yld i H x H' → F x H' Nx) := by
  refine ⟨fun i m H => m = n - i ∧ i ≤ n ∧ Pv i H, ⟨n, by simp, Nat.zero_le _, h0⟩, ?_⟩
  rintro i m H ⟨rfl, hi, p⟩
  by_cases hlt : i < n
  · refine .inr ⟨hlt, Pv (i + 1), fun H' p' => ⟨n - (i + 1), by omega, rfl, hlt, p'⟩, fun x H' y => ?_⟩
    obtain ⟨rfl, rfl⟩ := y
    exact hs i _ hlt p
  · have e : i = n := by omega
    subst e
    exact .inl ⟨Nat.le_refl _, hd H p⟩
theorem lock_same {H H' : Hp} {d : Addr} {u f : HO} (hd : H d = some u) (s : Same (upd H d f) H') : Same H (upd H' d u) := fun b o h => by
  by_cases e : b = d
  · subst e
    rw [hd] at h
    rw [upd_same, h]
  · rw [upd_ne e]
    exact s b o (by rw [upd_ne e]; exact h)
theorem tk_filter {xs : List IL} {p : IL → Bool} {i : Nat} {x : IL} (h : xs[i]? = some x) : (xs.take (i + 1)).filter p = (xs.take i).filter p ++ (if p x = true then [x] else []) := by
  rw [List.take_add_one, h, List.filter_append]
  show _ ++ List.filter p [x] = _
  rw [List.filter_cons, List.filter_nil]
theorem trK_len (c x y : Int) (n : Nat) : (trK c x y n).length = n := by unfold trK; simp
theorem trJ_len {c x : Int} (hc : c ≤ 4) (hx : 0 ≤ x) : ∀ n, (trJ c x n).length ≤ 4 * n
  | 0 => by simp [trJ]
  | n + 1 => by
    rw [trJ_succ, List.length_append, trK_len]
    have := trJ_len hc hx n
    unfold nK
    omega
theorem trI_len {c : Int} (hc : c ≤ 4) : ∀ n, (trI c n).length ≤ 16 * n
  | 0 => by simp [trI]
  | n + 1 => by
    rw [trI_succ, List.length_append]
    have h1 := trI_len hc n
    have h2 := trJ_len (x := 0 + (n : Int)) hc (by omega) (nJ c (0 + (n : Int)))
    unfold nJ at h2 ⊢
    omega
def spBroken : Sp := fun vs H Q _ => ∃ (d : Addr) (m : Int) (q : QL), vs = [.ref d] ∧ M4 m ∧ H d = some (.dT (dq q)) ∧ QOk m q ∧ ∀ a H', Same H H' → H a = none → TsAt H' a (due m q) → Q (.ref a) H'
section
variable {P : Program} {w : World} {K : PySem.W.Frag} {mg : Str → Option Value} {base : Heap} {sa : Addr} {sx : List Int}
theorem dget {H : Hp} {d b : Addr} {q : QL} {m : Int} {p : IL} (hd : H d = some (.dT (dq q))) (ok : QOk m q) (hp : p ∈ prs m) (hb : H b = some (.tup (p.map V.int))) : DGet H d (.ref b) (some (.bl (val q p))) := by
  rw [← val_in (ok.mem hp)]
  exact DGet.t hd (by rw [hb, List.map_map]; rfl)
theorem ok_broken (T : Tx K mg sa sx) : Cal P w K mg base 1 "broken" spBroken := by
  obtain ⟨fd, F⟩ := f_broken T
  refine ⟨_, fd, ["quiet"], fnok F sc_broken (fun vs H Q E h => ?_) (fun cdv A outer s H vs Q E hr h => ?_), F.bindsN fun _ _ _ _ _ _ us hl => match us, hl with | [_], _ => rfl, g_broken T, F.kp⟩
  · obtain ⟨d, m, q, rfl, _⟩ := h; rfl
  · obtain ⟨d, m, q, rfl, h4, hd, ok, k⟩ := h
    refine ⟨_, (pss_cons (ps_set (i := 1) sc_broken.nd rfl (by first | exact Or.inl rfl | exact Or.inr rfl) (pe_callBK (call_maxD rfl hr.units) rfl (n_max T) (by decide +kernel) (pa_cons (pe_lock (pe_lc (own := [("_", 2), ("j", 3)]) (g := gTup K 2 (gCons (gName 2) (gCons (gName 3) gNil))) rfl sc_broken.nd (pi_keys (pv 0)) (blkOk_by (own := [("_", 2), ("j", 3)]) (N := ["quiet", "count", "_", "j", "chains", "i", "k"]) (sc := defScope s_broken) (by decide +kernel)) (fun _ _ _ _ _ => pg_tup (by rfl) (pgs_cons (pg_name (i := 2) sc_broken.nd rfl (Or.inl rfl)) (pgs_cons (pg_name (i := 3) sc_broken.nd rfl (Or.inl rfl)) pgs_nil))) (fun _ _ _ _ _ => pts_nil) (fun _ _ _ _ _ => (pe_op op_add (pv 3) pe_int)))) pa_nil) (pk_cons pe_int pk_nil)))
    (pss_cons (ps_setLcC (i := 4) (own := [("i", 5), ("j", 3), ("k", 6)]) (us := [3, 6]) (g := gName 5) rfl sc_broken.nd rfl rfl (sw_true rfl rfl rfl (by decide +kernel)) (pi_range1 rfl (n_range T) (pa_cons (pv 1) pa_nil)) (blkOk_by (own := [("i", 5), ("j", 3), ("k", 6)]) (N := ["quiet", "count", "_", "j", "chains", "i", "k"]) (sc := defScope s_broken) (by decide +kernel)) turn3_0 (by decide) (fun _ _ _ _ _ => (pg_name (i := 5) sc_broken.nd rfl (Or.inl rfl))) (fun _ _ _ _ _ => pts_nil)
    (fun _ _ _ _ _ _ => cl_mid (vs := [3, 6]) (us := [6]) rfl rfl turn3_1 (fun _ => rfl) start3_1 (pi_range2 rfl (n_range T) (pa_cons (pe_op op_add (pv 5) pe_int) (pa_cons (pv 1) pa_nil))) (pg_name (i := 3) sc_broken.nd rfl (Or.inl rfl)) pts_nil (by decide)
      (cl_end (vs := [6]) rfl rfl turn3_2 start3_2 (pi_range2 rfl (n_range T) (pa_cons (pe_op op_add (pv 3) pe_int) (pa_cons (pv 1) pa_nil))) (pg_name (i := 6) sc_broken.nd rfl (Or.inl rfl)) pts_nil (pe_tup (pa_cons (pv 5) (pa_cons (pv 3) (pa_cons (pv 6) pa_nil)))))))
    (pss_one (ps_ret (pe_lc (own := [("i", 5), ("j", 3), ("k", 6)]) (g := gTup K 3 (gCons (gName 5) (gCons (gName 3) (gCons (gName 6) gNil)))) rfl sc_broken.nd (pi_list (pv 4)) (blkOk_by (own := [("i", 5), ("j", 3), ("k", 6)]) (N := ["quiet", "count", "_", "j", "chains", "i", "k"]) (sc := defScope s_broken) (by decide +kernel)) (fun _ _ _ _ _ => pg_tup (by rfl) (pgs_cons (pg_name (i := 5) sc_broken.nd rfl (Or.inl rfl)) (pgs_cons (pg_name (i := 3) sc_broken.nd rfl (Or.inl rfl)) (pgs_cons (pg_name (i := 6) sc_broken.nd rfl (Or.inl rfl)) pgs_nil)))) (fun _ _ _ _ _ => pts_one (PW.pt (pw_and (pt_val (pe_dget (hu_of hr) (pv 0) (pe_tup (pa_cons (pv 5) (pa_cons (pv 3) pa_nil))) (fun _ _ => rfl))) (pw_and (pt_val (pe_dget (hu_of hr) (pv 0) (pe_tup (pa_cons (pv 3) (pa_cons (pv 6) pa_nil))) (fun _ _ => rfl))) (pw_and1 (pt_not (pt_val (pe_dget (hu_of hr) (pv 0) (pe_tup (pa_cons (pv 5) (pa_cons (pv 6) pa_nil))) (fun _ _ => rfl))))))))) (fun _ _ _ _ _ => (pe_tup (pa_cons (pv 5) (pa_cons (pv 3) (pa_cons (pv 6) pa_nil)))))))))), ?_⟩
    have mp := h4.pos
    refine ⟨d, _, hd, trivial, fun od => ⟨_, rfl, d, od, rfl, .inr ⟨_, upd_same, fun D hD => ?_⟩⟩⟩
    refine lc_it (walk_keysT (d := d) (o := od) (kvs := dq q)) (fun i H' => Same (upd H d (.frz od (.dT (dq q)))) H' ∧ H' D = some (.lst (((q.take i).map fun e => e.1.getD 1 0 + 1).map V.int))) ⟨Same.new hD, upd_same⟩ (fun i H' _ ⟨sm, _⟩ => sm _ _ upd_same) ?_ ?_
    · rintro i x H' G hi ⟨sm, hS⟩ ⟨rfl, kk, v, qa, he, rfl, hq⟩
      unfold dq at he
      rw [List.getElem?_map] at he
      cases eq1 : q[i]? with
      | none => rw [eq1] at he; cases he
      | some e =>
        rw [eq1] at he
        cases Option.some.inj he
        obtain ⟨x, y, exy⟩ := prs_two h4 e.1 (ok.mem_iff.mp (List.mem_map.mpr ⟨e, List.mem_of_getElem? eq1, rfl⟩))
        have hq2 : G qa = some (.tup [V.int x, V.int y]) := by rw [hq, exy]; rfl
        refine ⟨qa, _, rfl, SqT.of hq2, rfl, _, _, rfl, _, _, rfl, rfl, rfl, _, rfl, _, _, rfl, rfl, _, hS, sz2 ?_, sm.mut hD, ?_⟩
        · have := ok.len h4
          simp
          omega
        · rw [upd_same, List.take_add_one, eq1, List.map_append, List.map_append]
          simp [exy]
    · rintro H' ⟨sm, hS⟩
      have s1 := lock_same (f := .frz od (.dT (dq q))) hd sm
      have nD : D ≠ d := fun z => by rw [z, upd_same] at hD; cases hD
      refine ⟨sm _ _ upd_same, D, _, _, rfl, rfl, SqL.of ((upd_ne nD).trans hS), ?_⟩
      rw [dq_len, List.take_length]
      generalize hH2 : upd H' d (.dT (dq q)) = H2 at s1
      have hd2 := s1 _ _ hd
      have hi1 : ∀ e ∈ q, e.1 ∈ prs m := fun e he => ok.mem_iff.mp (List.mem_map.mpr ⟨e, he, rfl⟩)
      refine ⟨fun e => ?g1, fun x hx hle => ?g2⟩
      case' g1 =>
        have qe : q = [] := by simpa using e
        have me : m = 1 := by
          rcases prs_max h4 with ⟨_, z⟩ | ⟨⟨p, hp, _⟩, _, _⟩
          · exact z
          · have := ok.mem hp
            rw [qe] at this
            cases this
        obtain ⟨x, hx0⟩ : ∃ x : Int, x = 0 := ⟨0, rfl⟩
        rw [← hx0]
        have x0 : 0 ≤ x := by omega
        have x4 : x ≤ 4 := by omega
        have hT : trI x x.toNat = trs m := by
          have := trs_eq h4
          rw [if_pos me] at this
          rw [hx0]; exact this
      case' g2 =>
        have me : m ≠ 1 ∧ x = m := by
          obtain ⟨e, he, rfl⟩ := List.mem_map.mp hx
          rcases prs_max h4 with ⟨z, _⟩ | ⟨⟨p, hp, i, rfl⟩, hmx, n1⟩
          · have := hi1 e he
            rw [z] at this
            cases this
          · refine ⟨n1, ?_⟩
            obtain ⟨a, b, eab⟩ := prs_two h4 e.1 (hi1 e he)
            have h1 := hmx e.1 (hi1 e he) a b eab
            obtain ⟨e2, he2, e2p⟩ := List.mem_map.mp (ok.mem hp)
            have h2 := hle _ (List.mem_map.mpr ⟨e2, he2, rfl⟩)
            rw [e2p] at h2
            rw [eab] at h2 ⊢
            simp at h2 ⊢
            omega
        have x0 : 0 ≤ x := by omega
        have x4 : x ≤ 4 := by omega
        have hT : trI x x.toNat = trs m := by
          have := trs_eq h4
          rw [if_neg me.1] at this
          rw [me.2]; exact this
      all_goals
        refine ⟨_, rfl, x, rfl, by omega, by omega, fun C hC => ?_⟩
        refine wk_range (lo := 0) (n := x.toNat) (fun i H' => Same H2 H' ∧ TsAt H' C (trI x i)) ⟨Same.new hC, TsAt.new⟩ ?_ ?_
        · rintro i G hi ⟨sm1, ts1⟩
          refine ⟨rfl, _, rfl, _, _, rfl, rfl, _, rfl, _, _, rfl, ⟨by omega, by omega, by omega, by omega⟩, ?_⟩
          refine wk_range (n := nJ x (0 + (i : Int))) (fun j H' => Same H2 H' ∧ TsAt H' C (trI x i ++ trJ x (0 + (i : Int)) j)) ⟨sm1, by rw [show trJ x (0 + (i : Int)) 0 = [] from rfl, List.append_nil]; exact ts1⟩ ?_ ?_
          · rintro j G1 hj ⟨sm2, ts2⟩
            have hj' := hj
            unfold nJ at hj'
            refine ⟨rfl, _, rfl, _, _, rfl, rfl, _, rfl, _, _, rfl, ⟨by omega, by omega, by omega, by omega⟩, ?_⟩
            refine wk_range (n := nK x ((0 + (i : Int)) + 1 + (j : Int))) (fun k H' => Same H2 H' ∧ TsAt H' C (trI x i ++ trJ x (0 + (i : Int)) j ++ trK x (0 + (i : Int)) ((0 + (i : Int)) + 1 + (j : Int)) k)) ⟨sm2, by rw [show trK x (0 + (i : Int)) ((0 + (i : Int)) + 1 + (j : Int)) 0 = [] from rfl, List.append_nil]; exact ts2⟩ ?_ ?_
            · rintro k G2 hk ⟨sm3, ts3⟩
              have ts3' := ts3
              obtain ⟨l, hl, el, _⟩ := ts3'
              have len : (rfs l).length ≤ 1000 := by
                rw [rfs_len, ← List.length_map (f := fun e : Addr × IL => e.2), el, List.length_append, List.length_append, trK_len]
                have h1 := trI_len x4 i
                have h2 := trJ_len (x := 0 + (i : Int)) x4 (by omega) j
                unfold nK at hk
                unfold nJ at hj
                omega
              refine ⟨rfl, _, rfl, _, rfl, _, rfl, sz1 (by simp), fun t ht => ⟨_, (upd_ne (ne_of_none hl ht)).trans hl, sz2 (by omega), ?_, ?_⟩⟩
              · exact (sm3.trans (Same.new ht)).mut hC
              · rw [trK_succ, ← List.append_assoc]
                exact (ts3.same (Same.new ht)).app ((upd_ne (ne_of_none hl ht)).trans hl) upd_same
            · rintro G2 ⟨sm3, ts3⟩
              refine ⟨sm3, ?_⟩
              rw [trJ_succ, ← List.append_assoc]
              exact ts3
          · rintro G1 ⟨sm2, ts2⟩
            refine ⟨sm2, ?_⟩
            rw [trI_succ]
            exact ts2
        · rintro H3 ⟨s3, ts⟩
          rw [hT] at ts
          have s13 := s1.trans s3
          have hd3 := s13 _ _ hd
          obtain ⟨l, hl, el, l3⟩ := id ts
          refine ⟨_, rfl, C, rfl, ⟨_, SqL.of hl⟩, fun R hR => ?_⟩
          refine lc_list (K := K) (a := C) (xs := rfs l) (fun i H' => Same H3 H' ∧ TsAt H' R (((trs m).take i).filter (pred q))) ⟨Same.new hR, TsAt.new⟩ (fun i H' _ ⟨sm, _⟩ => SqL.of (sm _ _ hl)) ?_ ?_
          · rintro i y G hi ⟨sm, tr⟩
            obtain ⟨b, v, rfl, hv, hb⟩ := (ts.same sm).at (sm _ _ hl) hi
            obtain ⟨vi, vj, vk, rfl, m1, m2, m3⟩ := trs_in h4 v (List.mem_of_getElem? hv)
            have hdG := sm _ _ hd3
            refine ⟨b, _, rfl, SqT.of hb, rfl, _, _, rfl, _, _, rfl, _, _, rfl, rfl, rfl, _, rfl, _, rfl, _, rfl, sz1 (by simp), fun t1 ht1 => ⟨d, _, rfl, dget (p := [vi, vj]) ((upd_ne (ne_of_none hdG ht1)).trans hdG) ok m1 upd_same, _, rfl, ?_⟩⟩
            have skip : ∀ {G' : Hp}, Same G G' → pred q [vi, vj, vk] = false → Same H3 G' ∧ TsAt G' R (((trs m).take (i + 1)).filter (pred q)) := fun {G'} sg hp => by
              rw [tk_filter hv, hp, if_neg (by simp), List.append_nil]
              exact ⟨sm.trans sg, tr.same sg⟩
            have sg1 := Same.new ht1 (o := .tup [V.int vi, V.int vj])
            refine bC (fun c1 => ?_) (fun c1 => ?_)
            · have hd1 := sg1 _ _ hdG
              refine ⟨_, rfl, _, rfl, _, rfl, sz1 (by simp), fun t2 ht2 => ⟨d, _, rfl, dget (p := [vj, vk]) ((upd_ne (ne_of_none hd1 ht2)).trans hd1) ok m2 upd_same, _, rfl, ?_⟩⟩
              have sg2 := sg1.trans (Same.new ht2 (o := .tup [V.int vj, V.int vk]))
              have hd2' := sg2 _ _ hdG
              refine bC (fun c2 => ?_) (fun c2 => ?_)
              · refine ⟨_, rfl, _, rfl, _, rfl, sz1 (by simp), fun t3 ht3 => ⟨d, _, rfl, dget (p := [vi, vk]) ((upd_ne (ne_of_none hd2' ht3)).trans hd2') ok m3 upd_same, _, rfl, ?_⟩⟩
                have sg3 := sg2.trans (Same.new ht3 (o := .tup [V.int vi, V.int vk]))
                refine bC (fun c3 => ?_) (fun c3 => ?_)
                · refine ⟨_, rfl, _, rfl, _, rfl, sz1 (by simp), fun t4 ht4 => ?_⟩
                  have sg4 := sg3.trans (Same.new ht4 (o := .tup [V.int vi, V.int vj, V.int vk]))
                  have tr4 := tr.same sg4
                  obtain ⟨l4, hl4, el4, _⟩ := id tr4
                  refine ⟨_, hl4, sz2 ?_, (sm.trans sg4).mut hR, ?_⟩
                  · rw [rfs_len, ← List.length_map (f := fun e : Addr × IL => e.2), el4]
                    have h1 := List.length_filter_le (pred q) ((trs m).take i)
                    have h2 := trs_len h4
                    rw [List.length_take] at h1
                    omega
                  · rw [tk_filter hv, show pred q [vi, vj, vk] = true by show (val q [vi, vj] && (val q [vj, vk] && !val q [vi, vk])) = true; rw [c1, c2, c3]; rfl, if_pos rfl]
                    exact tr4.app hl4 upd_same
                · refine skip sg3 ?_
                  show (val q [vi, vj] && (val q [vj, vk] && !val q [vi, vk])) = false
                  rw [c3]; simp
              · refine skip sg2 ?_
                show (val q [vi, vj] && (val q [vj, vk] && !val q [vi, vk])) = false
                rw [c2]; simp
            · refine skip sg1 ?_
              show (val q [vi, vj] && (val q [vj, vk] && !val q [vi, vk])) = false
              rw [c1]; simp
          · rintro H4 ⟨s4, tr⟩
            rw [rfs_len, show l.length = (trs m).length by rw [← el, List.length_map], List.take_length] at tr
            exact k _ _ (s13.trans s4) (s13.free hR) tr
end
end K47
namespace K47
open PySem PySem.Spec PyProof.Rows Cm
open L2 hiding Same
def spDue : Sp := fun vs H Q _ => ∃ (d : Addr) (m : Int) (q : QL), vs = [.ref d, .int m] ∧ M4 m ∧ H d = some (.dT (dq q)) ∧ QOk m q ∧ ∀ a H', Same H H' → H a = none → TsAt H' a (due m q) → Q (.ref a) H'
theorem M4.sq {m : Int} (h : M4 m) : 0 < m * m ∧ m * m ≤ 16 ∧ 0 < m * m * m ∧ m * m * m ≤ 64 := by rcases h with rfl | rfl | rfl | rfl <;> decide
theorem dueN_len {m : Int} (h4 : M4 m) (q : QL) {n : Nat} (hn : n ≤ (m * m * m).toNat) : (dueN m q n).length ≤ 64 := by
  have h1 := List.length_filter_le (pred q) (trsN m n)
  have h2 := List.length_filter_le lt3 ((List.range n).map (dec3 m))
  rw [List.length_map, List.length_range] at h2
  have := h4.sq
  unfold dueN
  unfold trsN at h1 ⊢
  omega
section
variable {P : Program} {w : World} {K : PySem.W.Frag} {mg : Str → Option Value} {base : Heap} {sa : Addr} {sx : List Int}
theorem ok_l_due (T : Tx K mg sa sx) : Cal P w K mg base 1 "_law_due" spDue := by
  obtain ⟨fd, F⟩ := f_l_due T
  refine ⟨_, fd, ["_law_quiet", "_law_many"], fnok F sc_l_due (fun vs H Q E h => ?_) (fun cdv A outer s H vs Q E hr h => ?_), F.bindsN fun _ _ _ _ _ _ us hl => match us, hl with | [_, _], _ => rfl, g__law_due T, F.kp⟩
  · obtain ⟨d, m, q, rfl, _⟩ := h; rfl
  · obtain ⟨d, m, q, rfl, h4, hd, ok, k⟩ := h
    refine ⟨_, (pss_cons (ps_set (i := 2) sc_l_due.nd rfl (by first | exact Or.inl rfl | exact Or.inr rfl) (pe_lst pa_nil))
    (pss_cons (ps_for PassesOwn.never rfl (pi_range1 rfl (n_range T) (pa_cons (pe_op op_mul (pe_op op_mul (pv 1) (pv 1)) (pv 1)) pa_nil)) (pg_name (i := 3) sc_l_due.nd rfl (by first | exact Or.inl rfl | exact Or.inr rfl))
      (pss_cons (ps_par3 (i := 4) (j := 5) (l := 6) rfl sc_l_due.nd rfl rfl rfl (by decide) (by decide) (by decide) rfl rfl rfl (pa_cons (pe_op op_fdivW (pv 3) (pe_op op_mul (pv 1) (pv 1))) (pa_cons (pe_op op_mod (pe_op op_fdivW (pv 3) (pv 1)) (pv 1)) (pa_cons (pe_op op_mod (pv 3) (pv 1)) pa_nil))) (by rfl))
      (pss_one (ps_if (PW.pt (pw_and (pt_chain op_lt op_lt (pv 4) (pv 5) (pv 6)) (pw_and (pt_val (pe_dget (hu_of hr) (pv 0) (pe_tup (pa_cons (pv 4) (pa_cons (pv 5) pa_nil))) (fun _ _ => rfl))) (pw_and (pt_val (pe_dget (hu_of hr) (pv 0) (pe_tup (pa_cons (pv 5) (pa_cons (pv 6) pa_nil))) (fun _ _ => rfl))) (pw_and1 (pt_not (pt_val (pe_dget (hu_of hr) (pv 0) (pe_tup (pa_cons (pv 4) (pa_cons (pv 6) pa_nil))) (fun _ _ => rfl))))))))) (pss_one (ps_expr (pe_bm PySem.F.plainAttrs_list PySem.F.slot_list_append PySem.F.type_list_append mt_append (pv 2) (pa_cons (pe_tup (pa_cons (pv 4) (pa_cons (pv 5) (pa_cons (pv 6) pa_nil)))) pa_nil)))) pss_nil))))
    (pss_one (ps_ret (pv 2))))), ?_⟩
    have mp := h4.pos
    have mq := h4.sq
    refine ⟨sz1 (by simp), fun l hl => ⟨_, rfl, _, rfl, _, _, rfl, rfl, .inl ⟨by omega, by omega⟩, _, rfl, _, _, rfl, rfl, .inl ⟨by omega, by omega⟩, _, rfl, by omega, by omega, ?_⟩⟩
    refine for_range (lo := 0) (n := (m * m * m).toNat) (fun n σ H' => ∃ v3 v4 v5 v6, σ = [some (.ref d), some (.int m), some (.ref l), v3, v4, v5, v6] ∧ Same H H' ∧ TsAt H' l (dueN m q n)) ⟨none, none, none, none, rfl, Same.new hl, TsAt.new⟩ ?_ ?_
    · rintro n σ G hn ⟨v3, v4, v5, v6, rfl, sm, ts⟩
      refine ⟨_, rfl, _, rfl, _, rfl, _, _, rfl, rfl, .inl ⟨by omega, by omega⟩, _, _, rfl, rfl, cd mq.1 (by omega), ?_⟩
      refine ⟨_, rfl, _, rfl, _, _, rfl, rfl, cd mp.1 (by omega), _, rfl, _, _, rfl, rfl, mp.1, ?_⟩
      refine ⟨_, rfl, _, rfl, _, _, rfl, rfl, mp.1, V.int ((0 + (n : Int)) / (m * m)), V.int ((0 + (n : Int)) / m % m), V.int ((0 + (n : Int)) % m), rfl, ?_⟩
      have skip : ∀ {G' : Hp}, Same G G' → (lt3 (dec3 m n) && pred q (dec3 m n)) = false → Same H G' ∧ TsAt G' l (dueN m q (n + 1)) := fun {G'} sg hp => by
        rw [dueN_succ, hp, if_neg (by simp), List.append_nil]
        exact ⟨sm.trans sg, ts.same sg⟩
      have stop : ∀ {G' : Hp}, Same G G' → (lt3 (dec3 m n) && pred q (dec3 m n)) = false → ∃ v3' v4' v5' v6', [some (V.ref d), some (.int m), some (.ref l), some (.int (0 + (n : Int))), some (.int ((0 + (n : Int)) / (m * m))), some (.int ((0 + (n : Int)) / m % m)), some (.int ((0 + (n : Int)) % m))] = [some (V.ref d), some (.int m), some (.ref l), v3', v4', v5', v6'] ∧ Same H G' ∧ TsAt G' l (dueN m q (n + 1)) := fun sg hp => ⟨_, _, _, _, rfl, skip sg hp⟩
      refine ⟨_, rfl, _, rfl, _, _, rfl, rfl, _, rfl, dC (fun c1 => ?_) (fun c1 => ?_)⟩
      · refine ⟨_, rfl, _, _, rfl, rfl, _, rfl, dC (fun c2 => ?_) (fun c2 => ?_)⟩
        · have lt : lt3 (dec3 m n) = true := by
            show (decide _ && decide _) = true
            rw [decide_eq_true c1, decide_eq_true c2]; rfl
          obtain ⟨i, j, k', e, m1, m2, m3⟩ := trs_in h4 _ (dec_in h4 n hn lt)
          have pe : pred q (dec3 m n) = (val q [i, j] && (val q [j, k'] && !val q [i, k'])) := by rw [e]; rfl
          have de := e
          simp only [dec3, List.cons.injEq, and_true] at e
          obtain ⟨e1, e2, e3⟩ := e
          rw [e1, e2, e3] at stop ⊢
          have hdG := sm _ _ hd
          refine ⟨_, rfl, _, rfl, _, rfl, sz1 (by simp), fun t1 ht1 => ⟨d, _, rfl, dget (p := [i, j]) ((upd_ne (ne_of_none hdG ht1)).trans hdG) ok m1 upd_same, _, rfl, ?_⟩⟩
          have sg1 := Same.new ht1 (o := .tup [V.int i, V.int j])
          refine bC (fun b1 => ?_) (fun b1 => ?_)
          · have hd1 := sg1 _ _ hdG
            refine ⟨_, rfl, _, rfl, _, rfl, sz1 (by simp), fun t2 ht2 => ⟨d, _, rfl, dget (p := [j, k']) ((upd_ne (ne_of_none hd1 ht2)).trans hd1) ok m2 upd_same, _, rfl, ?_⟩⟩
            have sg2 := sg1.trans (Same.new ht2 (o := .tup [V.int j, V.int k']))
            have hd2' := sg2 _ _ hdG
            refine bC (fun b2 => ?_) (fun b2 => ?_)
            · refine ⟨_, rfl, _, rfl, _, rfl, sz1 (by simp), fun t3 ht3 => ⟨d, _, rfl, dget (p := [i, k']) ((upd_ne (ne_of_none hd2' ht3)).trans hd2') ok m3 upd_same, _, rfl, ?_⟩⟩
              have sg3 := sg2.trans (Same.new ht3 (o := .tup [V.int i, V.int k']))
              refine bC (fun b3 => ?_) (fun b3 => ?_)
              · obtain ⟨l4, hl4, el4, _⟩ := id (ts.same sg3)
                have len4 : (rfs l4).length ≤ 64 := by
                  rw [rfs_len, ← List.length_map (f := fun e : Addr × IL => e.2), el4]
                  exact dueN_len h4 q (Nat.le_of_lt hn)
                refine ⟨_, rfl, .inl ⟨rfl, _, SqL.of hl4⟩, _, rfl, _, rfl, _, rfl, sz1 (by simp), fun t4 ht4 => ?_⟩
                have sg4 := sg3.trans (Same.new ht4 (o := .tup [V.int i, V.int j, V.int k']))
                refine ⟨l, _, _, rfl, rfl, (upd_ne (ne_of_none hl4 ht4)).trans hl4, sz2 (by omega), ?_⟩
                refine ⟨_, _, _, _, rfl, (sm.trans sg4).mut hl, ?_⟩
                rw [dueN_succ, lt, pe, b1, b2, b3]
                show TsAt _ _ (_ ++ [dec3 m n])
                rw [de]
                exact (ts.same sg4).app ((upd_ne (ne_of_none hl4 ht4)).trans hl4) upd_same
              · exact stop sg3 (by rw [pe, b3]; simp)
            · exact stop sg2 (by rw [pe, b2]; simp)
          · exact stop sg1 (by rw [pe, b1]; simp)
        · refine stop (Cm.Same.refl _) ?_
          have : lt3 (dec3 m n) = false := by
            show (decide _ && decide _) = false
            rw [decide_eq_false c2]; simp
          rw [this]; rfl
      · refine ⟨_, rfl, stop (Cm.Same.refl _) ?_⟩
        have : lt3 (dec3 m n) = false := by
          show (decide _ && decide _) = false
          rw [decide_eq_false c1]; simp
        rw [this]; rfl
    · rintro σ G ⟨v3, v4, v5, v6, rfl, sm, ts⟩
      exact ⟨_, rfl, k _ _ sm hl ts⟩
end
end K47
namespace K47
open PySem PySem.Spec PyProof.Rows Cm
open L2 hiding Same
theorem Kp.mut {p q : Addr} {H H' : Hp} {o : HO} (a : Kp p H H') (h : H q = none) : Kp p H (upd H' q o) := fun c u n e => by
  rw [upd_ne (ne_of_none e h)]; exact a c u n e
theorem Kp.of {p : Addr} {H H' : Hp} (s : Same H H') : Kp p H H' := fun c u _ e => s c u e
theorem TsAt.kp {H H' : Hp} {a p : Addr} {ts : List IL} (s : Kp p H H') (n : a ≠ p) (hp : ∀ xs, H p ≠ some (.tup xs)) (h : TsAt H a ts) : TsAt H' a ts :=
  let ⟨l, h1, h2, h3⟩ := h; ⟨l, s _ _ n h1, h2, fun e he => s _ _ (fun z => hp _ (z ▸ h3 e he)) (h3 e he)⟩
theorem TsAt.upd {H : Hp} {a p : Addr} {o : HO} {ts : List IL} (n : a ≠ p) (hp : ∀ xs, H p ≠ some (.tup xs)) (h : TsAt H a ts) : TsAt (upd H p o) a ts :=
  h.kp (p := p) (fun c u n e => by rw [upd_ne n]; exact e) n hp
theorem er_map {α β : Type} (f : α → β) : ∀ (xs : List α) (k : Nat), (xs.map f).eraseIdx k = (xs.eraseIdx k).map f
  | [], _ => rfl
  | _ :: _, 0 => rfl
  | x :: xs, k + 1 => congrArg (f x :: ·) (er_map f xs k)
theorem er_perm {α : Type} {v : α} : ∀ {xs : List α} {k : Nat}, xs[k]? = some v → (v :: xs.eraseIdx k).Perm xs
  | [], _, h => by simp at h
  | x :: xs, 0, h => by
    have : x = v := by simpa using h
    subst this
    exact List.Perm.refl _
  | x :: xs, k + 1, h => by
    have h : xs[k]? = some v := by simpa using h
    exact (List.Perm.swap x v _).trans ((er_perm h).cons x)
theorem look_at : ∀ {q : QL} {i : Nat} {e : IL × Bool}, (q.map (·.1)).Nodup → q[i]? = some e → q.lookup e.1 = some e.2
  | [], _, _, _, h => by simp at h
  | x :: q, 0, e, _, h => by
    have : x = e := by simpa using h
    subst this
    rw [List.lookup_cons, beq_self_eq_true]
  | x :: q, k + 1, e, nd, h => by
    have h : q[k]? = some e := by simpa using h
    have nd := List.nodup_cons.mp nd
    rw [List.lookup_cons]
    have : (e.1 == x.1) = false := by
      rw [beq_eq_false_iff_ne]
      intro z
      exact nd.1 (List.mem_map.mpr ⟨e, List.mem_of_getElem? h, z⟩)
    rw [this]
    exact look_at nd.2 h
theorem paired_mono {α β : Type} {F G : α → β → Prop} (k : ∀ a b, F a b → G a b) : ∀ {xs : List α} {ys : List β}, Paired F xs ys → Paired G xs ys
  | _, _, .nil => .nil
  | _, _, .cons h t => .cons (k _ _ h) (paired_mono k t)
theorem fil_take {q : QL} {i : Nat} {e : IL × Bool} (h : q[i]? = some e) : ((q.take (i + 1)).filter (·.2)).map (·.1) = ((q.take i).filter (·.2)).map (·.1) ++ (if e.2 = true then [e.1] else []) := by
  rw [List.take_add_one, h, List.filter_append, List.map_append]
  congr 1
  cases h2 : e.2 <;> simp [h2]
theorem TsAt.erase {H : Hp} {a : Addr} {ts : List IL} {xs : List V} (h : TsAt H a ts) (e : H a = some (.lst xs)) (k : Nat) : TsAt (L2.upd H a (.lst (xs.eraseIdx k))) a (ts.eraseIdx k) := by
  obtain ⟨l, h1, rfl, h3⟩ := h
  rw [e] at h1
  cases h1
  have na : ∀ b ys, H b = some (.tup ys) → b ≠ a := fun b ys hb z => by rw [z, e] at hb; cases hb
  refine ⟨l.eraseIdx k, by rw [upd_same]; unfold rfs; rw [er_map], by rw [er_map], fun q hq => ?_⟩
  have hq := List.mem_of_mem_eraseIdx hq
  rw [upd_ne (na _ _ (h3 q hq))]; exact h3 q hq
/-- the items of the dict -/
def ditm (q : QL) : List PyData := q.map fun e => .tuple [.tuple (e.1.map .int), .bool e.2]
theorem dp_items {K : PySem.W.Frag} {H : Hp} : ∀ (L : List (Addr × Addr)) (q : QL), Paired (fun (z : Addr × Addr) (q : List L2.Key × V) => H z.1 = some (.tup [.ref z.2, q.2]) ∧ H z.2 = some (.tup (q.1.map kV))) L (dq q) →
    DpAll K H (L.map fun z => V.ref z.1) (ditm q)
  | [], [], _ => .nil
  | z :: L, e :: q, h => by
    cases h with
    | cons h t =>
      refine .cons (.tup (SqT.of h.1) (.cons (.tup (SqT.of h.2) ?_) (.cons (.bl _) .nil))) (dp_items L q t)
      show DpAll K H ((e.1.map Sum.inl).map kV) (e.1.map .int)
      rw [List.map_map]
      exact dpAll_ints _
  | [], _ :: _, h => by cases h
  | _ :: _, [], h => by cases h
theorem lay_ditm : ∀ q : QL, PyData.canLayAll0 (ditm q) = true ∧ PyData.depthAll (ditm q) ≤ 2
  | [] => ⟨rfl, Nat.zero_le _⟩
  | e :: q => by
    obtain ⟨h1, h2⟩ := lay_ditm q
    constructor
    · show (PyData.canLay0 (.tuple [.tuple (e.1.map .int), .bool e.2]) && PyData.canLayAll0 (ditm q)) = true
      rw [PyData.canLay0, PyData.canLayAll0, PyData.canLay0, lay_ints, h1]; rfl
    · show max (PyData.tuple [.tuple (e.1.map .int), .bool e.2]).depth (PyData.depthAll (ditm q)) ≤ 2
      rw [PyData.depth, PyData.depthAll, PyData.depth, depth_ints]
      have : PyData.depthAll [PyData.bool e.2] = 0 := rfl
      rw [this]
      omega
theorem canlay_ditm (q : QL) : (PyData.list (ditm q)).canLay0 = true := by
  rw [PyData.canLay0]; exact (lay_ditm q).1
theorem shp_ditm (q : QL) : SeqAt.shaped (.list (ditm q)) = true := by
  obtain ⟨h1, h2⟩ := lay_ditm q
  unfold SeqAt.shaped
  rw [PyData.canLay0, h1, PyData.depth]
  have : PyData.depthAll (ditm q) + 1 ≤ 64 := by omega
  simpa using this
theorem eqv_ditm (q : QL) : PyData.eqv (.list (ditm q)) (.list (ditm q)) = true := SeqAt.eqv_refl _ (canlay_ditm q)
noncomputable def lenAt (l : Addr) (G : Hp) : Nat := match G l with
  | some (.lst xs) => xs.length
  | _ => 0
section
variable {P : Program} {w : World} {K : PySem.W.Frag} {mg : Str → Option Value} {base : Heap} {sa : Addr} {sx : List Int}
theorem Tx.cast (T : Tx K mg sa sx) (a : Addr) (x : List Int) : Tx K mg a x := by
  cases T
  constructor <;> assumption
def spLaw (K : PySem.W.Frag) : Sp := fun vs H Q _ => ∃ (a : Addr) (ns : List Int), vs = [.ref a] ∧ SqL K H a (ns.map V.int) ∧ ∀ H', Q (.bl true) H'
theorem ok_law (T0 : Tx K mg sa sx) {fd : FuncData} (F : FunD K "law" "law" (defArgs s_law) (defBody s_law) (defScope s_law) [] [] (He.ga K "law") fd) : FnOk P w K mg base CX0 6 (He.ga K "law") fd ["_law_script"] (spLaw K) := by
  refine fnok F sc_law (fun vs H Q E h => ?_) (fun cdv A outer s H vs Q E hr h => ?_)
  · obtain ⟨a, ns, rfl, _⟩ := h; rfl
  · obtain ⟨a, ns, rfl, hS, k⟩ := h
    have T : Tx K mg a ns := T0.cast a ns
    refine ⟨_, (pss_cons (ps_for PassesOwn.never rfl (pi_range1 rfl (n_range T) (pa_cons (pe_callB (id := "max") (call_max2 rfl) rfl (n_max T) (by decide +kernel) (pa_cons pe_int (pa_cons (pe_callB (id := "min") (call_min2 rfl) rfl (n_min T) (by decide +kernel) (pa_cons pe_int (pa_cons (pe_callB (id := "len") call_len_seq rfl (n_len T) (by decide +kernel) (pa_cons (pv 0) pa_nil)) pa_nil))) pa_nil))) pa_nil)) (pg_name (i := 1) sc_law.nd rfl (by first | exact Or.inl rfl | exact Or.inr rfl))
      (pss_cons (ps_set (i := 2) sc_law.nd rfl (by first | exact Or.inl rfl | exact Or.inr rfl) (pe_cal (ok_l_bag T) hr (by decide) (pa_cons (pv 0) (pa_cons (pv 1) pa_nil))))
      (pss_cons (ps_set (i := 3) sc_law.nd rfl (by first | exact Or.inl rfl | exact Or.inr rfl) (pe_op op_add pe_int (pe_cal (ok_l_take T) hr (by decide) (pa_cons (pv 2) (pa_cons pe_int pa_nil)))))
      (pss_cons (ps_par (i := 4) (j := 5) rfl sc_law.nd rfl rfl (by decide) rfl rfl (pa_cons (pe_lst pa_nil) (pa_cons pe_dnewT pa_nil)) (by rfl))
      (pss_cons (ps_for PassesOwn.never rfl (pi_range1 rfl (n_range T) (pa_cons (pe_op op_mul (pv 3) (pv 3)) pa_nil)) (pg_name (i := 6) sc_law.nd rfl (by first | exact Or.inl rfl | exact Or.inr rfl))
        (pss_one (ps_if (pt_cmpR op_lt (pe_op op_fdivW (pv 6) (pv 3)) (pe_op op_mod (pv 6) (pv 3)) (nomark _)) (pss_one (ps_expr (pe_bm PySem.F.plainAttrs_list PySem.F.slot_list_append PySem.F.type_list_append mt_append (pv 4) (pa_cons (pe_tup (pa_cons (pe_op op_fdivW (pv 6) (pv 3)) (pa_cons (pe_op op_mod (pv 6) (pv 3)) pa_nil))) pa_nil)))) pss_nil)))
      (pss_cons (ps_while PassesOwn.never (pt_cmpR (op_neD hr.units) (pv 4) (pe_lst pa_nil) (nomark _))
        (pss_one (ps_dput (hu_of hr) (pv 5) (pe_bm PySem.F.plainAttrs_list PySem.F.slot_list_pop PySem.F.type_list_pop mt_popAt (pv 4) (pa_cons (pe_cal (ok_l_take T) hr (by decide) (pa_cons (pv 2) (pa_cons (pe_callB (id := "len") call_len_seq rfl (n_len T) (by decide +kernel) (pa_cons (pv 4) pa_nil)) pa_nil))) pa_nil)) (pe_cmpR op_gt (pe_cal (ok_l_take T) hr (by decide) (pa_cons (pv 2) (pa_cons pe_int pa_nil))) pe_int (nomark _)) rfl)))
      (pss_cons (ps_asg (pe_tup (pa_cons (pe_callTy (T := "dict") (call_dictT (hu2_of hr)) rfl (n_dict T) (by decide +kernel) (pa_cons (pv 5) pa_nil)) (pa_cons (pe_cal (ok_l_due T) hr (by decide) (pa_cons (pv 5) (pa_cons (pv 3) pa_nil))) pa_nil))) (pg_tup (by rfl) (pgs_cons (pg_name (i := 7) sc_law.nd rfl (by first | exact Or.inl rfl | exact Or.inr rfl)) (pgs_cons (pg_name (i := 8) sc_law.nd rfl (by first | exact Or.inl rfl | exact Or.inr rfl)) pgs_nil))))
      (pss_cons (ps_set (i := 9) sc_law.nd rfl (by first | exact Or.inl rfl | exact Or.inr rfl) (pe_cal (ok_broken T) hr (by decide) (pa_cons (pv 5) pa_nil)))
      (pss_cons (ps_if (PW.pt (pw_or (pt_not (pt_val (pe_callB (id := "isinstance") (r := rIsi K) call_isi rfl (n_isinstance T) (by decide +kernel) (pa_cons (pv 9) (pa_cons (pe_bltn (v := .ty "list") rfl (n_list T) (by decide +kernel) rfl) pa_nil))))) (pw_or (pt_cmpR (op_neD hr.units) (pv 9) (pv 8) (nomark _)) (pw_or1 (pt_cmpR (op_neD hr.units) (pe_listItemsT rfl (pv 5) rfl (n_list T) (by decide +kernel)) (pe_listItemsT rfl (pv 7) rfl (n_list T) (by decide +kernel)) (nomark _)))))) (pss_one (ps_ret pe_bl)) pss_nil)
      (pss_cons (ps_if (pt_cmpR (op_neD hr.units) (pe_lc (own := [("_law_one", 10)]) (g := gName 10) rfl sc_law.nd (pi_list (pv 9)) (blkOk_by (own := [("_law_one", 10)]) (N := ["_law_script", "_law_at", "_law_bag_here", "_law_many", "_law_left", "_law_quiet", "_law_code", "_law_kept", "_law_due_here", "_law_told", "_law_one", "_law_some", "_law_pair"]) (sc := defScope s_law) (by decide +kernel)) (fun _ _ _ _ _ => pg_name (i := 10) sc_law.nd rfl (Or.inl rfl)) (fun _ _ _ _ _ => (pts_one (pt_not (pt_val (pe_callB (id := "isinstance") (r := rIsi K) call_isi rfl (n_isinstance T) (by decide +kernel) (pa_cons (pv 10) (pa_cons (pe_bltn (v := .ty "tuple") rfl (n_tuple T) (by decide +kernel) rfl) pa_nil))))))) (fun _ _ _ _ _ => (pv 10))) (pe_lst pa_nil) (nomark _)) (pss_one (ps_ret pe_bl)) pss_nil)
      (pss_cons (ps_expr (pe_bm PySem.F.plainAttrs_list PySem.F.slot_list_append PySem.F.type_list_append mt_append (pv 9) (pa_cons (pe_tup (pa_cons pe_int (pa_cons pe_int (pa_cons pe_int pa_nil)))) pa_nil)))
      (pss_cons (ps_if (pt_cmpR (op_neD hr.units) (pe_cal (ok_broken T) hr (by decide) (pa_cons (pe_callTy (T := "dict") (call_dictT (hu2_of hr)) rfl (n_dict T) (by decide +kernel) (pa_cons (pv 7) pa_nil)) pa_nil)) (pv 8) (nomark _)) (pss_one (ps_ret pe_bl)) pss_nil)
      (pss_cons (ps_lock (ps_setLc (i := 11) (own := [("_law_pair", 12)]) (g := gName 12) rfl sc_law.nd rfl rfl (sw_true rfl rfl rfl (by decide +kernel)) (pi_keys (pv 7)) (blkOk_by (own := [("_law_pair", 12)]) (N := ["_law_script", "_law_at", "_law_bag_here", "_law_many", "_law_left", "_law_quiet", "_law_code", "_law_kept", "_law_due_here", "_law_told", "_law_one", "_law_some", "_law_pair"]) (sc := defScope s_law) (by decide +kernel)) (fun _ _ _ _ _ => pg_name (i := 12) sc_law.nd rfl (Or.inl rfl)) (fun _ _ _ _ _ => pts_one (pt_val (pe_dget (hu_of hr) (pv 7) (pv 12) (fun _ _ => rfl)))) (fun _ _ _ _ _ => pv 12)))
      (pss_one (ps_if (pt_cmpR (op_neD hr.units) (pv 11) (pe_lst pa_nil) (nomark _)) (pss_cons (ps_set (i := 12) sc_law.nd rfl (by first | exact Or.inl rfl | exact Or.inr rfl) (pe_cal (ok_l_of T) hr (by decide) (pa_cons (pv 2) (pa_cons (pv 11) pa_nil))))
        (pss_cons (ps_dput (hu_of hr) (pv 5) (pv 12) pe_bl rfl)
        (pss_one (ps_if (pt_cmpR (op_neD hr.units) (pe_cal (ok_broken T) hr (by decide) (pa_cons (pv 5) pa_nil)) (pe_cal (ok_l_due T) hr (by decide) (pa_cons (pv 5) (pa_cons (pv 3) pa_nil))) (nomark _)) (pss_one (ps_ret pe_bl)) pss_nil)))) pss_nil)))))))))))))))
    (pss_one (ps_ret pe_bl))), ?_⟩
    refine ⟨_, rfl, a, _, rfl, .inl hS, _, _, rfl, _, _, rfl, ?_⟩
    generalize hn : (if (if (((List.map V.int ns).length : Nat) : Int) < 6 then (((List.map V.int ns).length : Nat) : Int) else 6) > 1 then (if (((List.map V.int ns).length : Nat) : Int) < 6 then (((List.map V.int ns).length : Nat) : Int) else 6) else 1) = N
    have N0 : 0 ≤ N ∧ N ≤ 6 := by split at hn <;> split at hn <;> omega
    refine ⟨_, rfl, by omega, by omega, ?_⟩
    refine for_range (lo := 0) (n := N.toNat) (fun _ σ H' => (∃ v1 v2 v3 v4 v5 v6 v7 v8 v9 v10 v11 v12 : Option V, σ = [some (.ref a), v1, v2, v3, v4, v5, v6, v7, v8, v9, v10, v11, v12]) ∧ SqL K H' a (ns.map V.int)) ⟨⟨_, _, _, _, _, _, _, _, _, _, _, _, rfl⟩, hS⟩ ?_ ?_
    case refine_2 =>
      rintro σ H' ⟨⟨_, _, _, _, _, _, _, _, _, _, _, _, rfl⟩, _⟩
      exact k _
    rintro i σ H0 hi ⟨⟨v1, v2, v3, v4, v5, v6, v7, v8, v9, v10, v11, v12, rfl⟩, hS⟩
    refine ⟨_, rfl, _, rfl, a, ns, _, rfl, hS, by omega, by omega, fun p H1 hp s1 b1 => ?_⟩
    have hA := sq_new hS hp
    have hS1 : SqL K H1 a (ns.map V.int) := hA.elim (fun n => Kp.sl (p := p) (Kp.of s1) n hS) (fun z => z _)
    have keepS : ∀ {G : Hp}, Kp p H1 G → SqL K G a (ns.map V.int) := fun kk => hA.elim (fun n => kk.sl n hS1) (fun z => z _)
    -- how many
    refine ⟨_, rfl, p, 4, rfl, b1, by decide, by decide, fun m0 H2 m1 m2 k2 b2 => ?_⟩
    refine ⟨_, _, rfl, rfl, ?_⟩
    show gName 3 (V.int (1 + m0)) _ _ _
    have h4 := m4 m1 m2
    generalize 1 + m0 = m at h4 ⊢
    have mp := h4.pos
    have mq := h4.sq
    refine ⟨sz1 (by simp), fun l hl d hd => ⟨_, _, rfl, ?_⟩⟩
    have hd2 : H2 d = none := (Same.new hl).free hd
    have ndl : d ≠ l := fun z => by rw [z, upd_same] at hd; cases hd
    have npl : l ≠ p := fun z => by obtain ⟨_, _, e, _⟩ := b2; rw [← z, hl] at e; cases e
    have npd : d ≠ p := fun z => by obtain ⟨_, _, e, _⟩ := b2; rw [← z, hd2] at e; cases e
    have fr1 : ∀ {x : Addr}, H2 x = none → H1 x = none := fun {x} hx => by
      by_cases z : x = p
      · obtain ⟨_, _, e, _⟩ := b2; rw [z, e] at hx; cases hx
      · cases e : H1 x with
        | none => rfl
        | some o => have := k2 _ _ z e; rw [hx] at this; cases this
    refine ⟨_, rfl, _, rfl, _, _, rfl, rfl, .inl ⟨by omega, by omega⟩, _, rfl, by omega, by omega, ?_⟩
    refine for_range (lo := 0) (n := (m * m).toNat) (fun n σ G => ∃ v6 : Option V, σ = [some (.ref a), some (.int (0 + (i : Int))), some (.ref p), some (.int m), some (.ref l), some (.ref d), v6, v7, v8, v9, v10, v11, v12] ∧ Same H2 G ∧ TsAt G l (prsN m n) ∧ G d = some (.dT []))
      ⟨v6, rfl, (Same.new hl).mut hd2, (TsAt.new (H := H2) (a := l)).same (Same.new hd), upd_same⟩ ?_ ?_
    · rintro n σ G hn ⟨v6, rfl, sm, ts, hd0⟩
      refine ⟨_, rfl, _, rfl, _, _, rfl, rfl, cd mp.1 (by omega), _, rfl, _, rfl, _, _, rfl, rfl, mp.1, _, _, rfl, rfl, _, rfl, dC (fun c => ?_) (fun c => ?_)⟩
      · obtain ⟨l4, hl4, el4, _⟩ := id ts
        have len4 : (rfs l4).length ≤ 64 := by
          rw [rfs_len, ← List.length_map (f := fun e : Addr × IL => e.2), el4]
          unfold prsN
          have h1 := List.length_filter_le lt2 ((List.range n).map (dec2 m))
          rw [List.length_map, List.length_range] at h1
          omega
        refine ⟨_, rfl, .inl ⟨rfl, _, SqL.of hl4⟩, _, rfl, _, rfl, _, _, rfl, rfl, cd mp.1 (by omega), _, rfl, _, rfl, _, _, rfl, rfl, mp.1, sz1 (by simp), fun t ht => ?_⟩
        refine ⟨l, _, _, rfl, rfl, (upd_ne (ne_of_none hl4 ht)).trans hl4, sz2 (by omega), ?_⟩
        refine ⟨_, rfl, (sm.trans (Same.new ht)).mut hl, ?_, ?_⟩
        · rw [prsN_succ, if_pos (by show decide _ = true; exact decide_eq_true c)]
          exact (ts.same (Same.new ht)).app ((upd_ne (ne_of_none hl4 ht)).trans hl4) upd_same
        · rw [upd_ne ndl, upd_ne (ne_of_none hd0 ht)]; exact hd0
      · refine ⟨_, rfl, sm, ?_, hd0⟩
        rw [prsN_succ, if_neg (by show ¬ decide _ = true; exact fun z => c (of_decide_eq_true z)), List.append_nil]
        exact ts
    rintro σ H3 ⟨v6, rfl, s3, ts3, hd3⟩
    have ts3 : TsAt H3 l (prs m) := ts3
    have b3 := b2.same s3
    have k3 : Kp p H1 H3 := k2.trans (Kp.of s3)
    have hl1 := fr1 hl
    have hd1 := fr1 hd2
    clear hd
    -- the dict, in drawn order
    refine while_by (fun σ G => ∃ (v6 : Option V) (rest : List IL) (q : QL), σ = [some (.ref a), some (.int (0 + (i : Int))), some (.ref p), some (.int m), some (.ref l), some (.ref d), v6, v7, v8, v9, v10, v11, v12] ∧ Kp p H1 G ∧ Bag G p ∧ TsAt G l rest ∧ G d = some (.dT (dq q)) ∧ (q.map (·.1) ++ rest).Perm (prs m))
      (fun _ G => lenAt l G) ⟨v6, _, [], rfl, k3, b3, ts3, hd3, List.Perm.refl _⟩ ?_ ?_
    case refine_2.refine_1.refine_2.refine_2 =>
      rintro σ G Q1 Q2 hh ⟨v, e1, z, f⟩
      refine ⟨v, e1, z, fun q hq => ?_⟩
      obtain ⟨x, y, a1, a2, a3, a4, b, e4, q⟩ := f q hq
      exact ⟨x, y, a1, a2, a3, a4, b, e4, hh _ _ q⟩
    rintro σ G ⟨v6, rest, q, rfl, kG, bG, ts, hdG, pm⟩
    refine ⟨_, rfl, sz1 (by simp), fun e0 he0 => ?_⟩
    have sE := Same.new he0 (o := .lst [])
    refine ⟨_, _, dp_ts (ts.same sE), dp_ts (TsAt.new (H := G) (a := e0)), shp_ts _, shp_ts _, _, rfl, ?_⟩
    rw [show dts [] = [] from rfl, eqv_ts0]
    generalize hGE : upd G e0 (.lst []) = G1 at sE
    refine uC (fun c => ?_) (fun c => ?_)
    · -- one more pair
      have ts1 := ts.same sE
      have hd1' := sE _ _ hdG
      have kE : Kp p H1 G1 := kG.trans (Kp.of sE)
      have bE := bG.same sE
      have lt6 : rest.length ≤ 6 := by
        have h1 := pm.length_eq
        have h2 := prs_len h4
        rw [List.length_append] at h1
        omega
      have lq6 : q.length ≤ 6 := by
        have h1 := pm.length_eq
        have h2 := prs_len h4
        rw [List.length_append, List.length_map] at h1
        omega
      have l0 : 0 < rest.length := List.length_pos_iff.mpr c
      refine ⟨_, rfl, p, 3, rfl, bE, by decide, by decide, fun r Ha r0 r1 ka ba => ⟨_, _, rfl, rfl, ?_⟩⟩
      have tsa := ts1.kp ka npl (fun xs z => by obtain ⟨_, _, e, _⟩ := bE; rw [e] at z; cases z)
      have hda := ka _ _ npd hd1'
      obtain ⟨xs, hxs⟩ : ∃ xs, Ha l = some (.lst xs) := let ⟨_, e, _⟩ := tsa; ⟨_, e⟩
      have lxs := tsa.len hxs
      refine ⟨_, rfl, _, rfl, .inl ⟨rfl, _, SqL.of hxs⟩, _, rfl, _, rfl, l, _, rfl, .inl (SqL.of hxs), p, _, rfl, ba, by omega, by omega, fun j Hb j0 j1 kb bb => ?_⟩
      have tsb := tsa.kp kb npl (fun xs z => by obtain ⟨_, _, e, _⟩ := ba; rw [e] at z; cases z)
      have hdb := kb _ _ npd hda
      have hxb := kb _ _ npl hxs
      have jl : j.toNat < xs.length := by omega
      obtain ⟨b, v, hy, hv, hb⟩ := tsb.at hxb (i := j.toNat) (List.getElem?_eq_getElem jl)
      refine ⟨l, xs, j, j.toNat, xs[j.toNat], rfl, rfl, hxb, by omega, by omega, seqIndex_of j0 j1, List.getElem?_eq_getElem jl, ?_⟩
      have nbl : b ≠ l := fun z => by rw [z, hxb] at hb; cases hb
      have nbd : b ≠ d := fun z => by rw [z, hdb] at hb; cases hb
      have hb2 := (upd_ne nbl (o := .lst (xs.eraseIdx j.toNat))).trans hb
      have hd2' := (upd_ne ndl (o := .lst (xs.eraseIdx j.toNat))).trans hdb
      have vm : v ∈ rest := List.mem_of_getElem? hv
      refine ⟨d, upd (upd Hb l (.lst (xs.eraseIdx j.toNat))) d (.dT (putK (dq q) (v.map Sum.inl) (V.bl (decide (0 < r))))), rfl, ?_⟩
      rw [hy]
      refine ⟨DPut.t (k := v.map Sum.inl) hd2' (by rw [hb2, List.map_map]; rfl) (sz2 (by rw [dq_len]; omega)), ?_⟩
      have pm2 : (v :: rest.eraseIdx j.toNat).Perm rest := by
        exact er_perm hv
      have nin : v ∉ q.map (·.1) := fun z => by
        have nd := pm.nodup_iff.mpr (prs_nodup h4)
        exact (List.nodup_append.mp nd).2.2 v z v vm rfl
      refine ⟨⟨v6, rest.eraseIdx j.toNat, q ++ [(v, decide (0 < r))], rfl, ?_, ?_, ?_, ?_, ?_⟩, ?_⟩
      · exact Kp.mut (Kp.mut ((kE.trans ka).trans kb) hl1) hd1
      · obtain ⟨x, y, e, z⟩ := bb
        exact ⟨x, y, by rw [upd_ne (Ne.symm npd), upd_ne (Ne.symm npl)]; exact e, z⟩
      · exact (tsb.erase hxb j.toNat).upd (Ne.symm ndl) (fun ys z => by rw [hd2'] at z; cases z)
      · rw [upd_same, put_new nin]
      · rw [List.map_append, List.append_assoc]
        exact (List.Perm.append_left _ pm2).trans pm
      · show lenAt l _ < lenAt l G
        obtain ⟨ls, e, _⟩ := id ts
        have lg := ts.len e
        unfold lenAt
        rw [upd_ne (Ne.symm ndl), upd_same, e]
        show (xs.eraseIdx j.toNat).length < (rfs ls).length
        rw [List.length_eraseIdx_of_lt jl]
        omega
    · -- the dict is whole
      subst c
      rw [List.append_nil] at pm
      have ok : QOk m q := pm
      have ql := ok.len h4
      have kE : Kp p H1 G1 := kG.trans (Kp.of sE)
      have bE := bG.same sE
      have hdE := sE _ _ hdG
      clear hGE sE ts hdG bG kG
      refine ⟨_, rfl, d, dq q, rfl, .inl hdE, ok.apart h4, fun kp hkp => ?_⟩
      have s1 := Same.new hkp (o := .dT (dq q))
      refine ⟨_, rfl, _, rfl, d, m, q, rfl, h4, s1 _ _ hdE, ok, fun du G2 s2 hdu tdu => ?_⟩
      refine ⟨sz1 (by simp), fun t ht => ?_⟩
      have s12 := s1.trans s2
      have s13 := s12.trans (Same.new ht (o := .tup [V.ref kp, V.ref du]))
      have hk2 := s2 kp (.dT (dq q)) upd_same
      have hk3 := (Same.new ht (o := .tup [V.ref kp, V.ref du])) _ _ hk2
      have tdu3 := tdu.same (Same.new ht (o := .tup [V.ref kp, V.ref du]))
      refine ⟨t, _, rfl, SqT.of upd_same, rfl, _, _, rfl, _, _, rfl, rfl, ?_⟩
      -- told
      have hd3 := s13 _ _ hdE
      refine ⟨_, rfl, d, m, q, rfl, h4, hd3, ok, fun tl G4 s4 htl ttl => ?_⟩
      have s14 := s13.trans s4
      have hd4 := s4 _ _ hd3
      have hk4 := s4 _ _ hk3
      have tdu4 := tdu3.same s4
      obtain ⟨lt, hlt, elt, _⟩ := id ttl
      refine ⟨_, rfl, _, .ty "list", _, .type "list", true, rfl, .ty _, .base (.lst hlt), kit_ty (by decide +kernel), true, rfl, iteF ?_⟩
      refine ⟨_, rfl, _, rfl, _, _, dp_ts ttl, dp_ts tdu4, shp_ts _, shp_ts _, _, rfl, ?_⟩
      rw [eqv_ts]
      refine iteF ?_
      refine ⟨_, rfl, d, dq q, rfl, hd4, fun G5 P5 L5 s5 hP5 hl5 pr5 => ⟨_, rfl, kp, dq q, rfl, s5 _ _ hk4, fun G6 P6 L6 s6 hP6 hl6 pr6 => ⟨_, _, .lst (SqL.of (s6 _ _ hl5)) (dp_items L5 q (paired_mono (fun _ _ h => ⟨s6 _ _ h.1, s6 _ _ h.2⟩) pr5)), .lst (SqL.of hl6) (dp_items L6 q pr6), shp_ditm _, shp_ditm _, _, rfl, ?_⟩⟩⟩
      rw [eqv_ditm]
      refine iteF ?_
      have s46 : Same G4 G6 := Cm.Same.trans s5 s6
      have hlt6 := s46 _ _ hlt
      have ttl6 := ttl.same s46
      -- all are tuples
      refine ⟨_, rfl, tl, rfl, ⟨_, SqL.of hlt6⟩, fun D hDn => ?_⟩
      refine lc_list (K := K) (a := tl) (xs := rfs lt) (fun i H' => Same G6 H' ∧ H' D = some (.lst [])) ⟨Same.new hDn, upd_same⟩ (fun i H' _ ⟨sm, _⟩ => SqL.of (sm _ _ hlt6)) ?_ ?_
      · rintro i x H' hi ⟨sm, hS⟩
        obtain ⟨b, v, rfl, hv, hb⟩ := (ttl6.same sm).at (sm _ _ hlt6) hi
        exact ⟨rfl, _, rfl, _, .ty "tuple", _, .type "tuple", true, rfl, .ty _, .base (.tup hb), kit_ty (by decide +kernel), true, rfl, sm, hS⟩
      rintro G7 ⟨s67, hD7⟩
      refine ⟨sz1 (by simp), fun e1 he1 => ⟨_, _, .lst (SqL.of ((Same.new he1) _ _ hD7)) .nil, .lst (SqL.of upd_same) .nil, rfl, rfl, _, rfl, iteF ?_⟩⟩
      have s48 := (s46.trans s67).trans (Same.new he1 (o := .lst []))
      generalize upd G7 e1 (.lst []) = G8 at s48
      -- what was told is changed
      have hlt8 := s48 _ _ hlt
      have lt4 : (rfs lt).length ≤ 64 := by
        rw [rfs_len, ← List.length_map (f := fun e : Addr × IL => e.2), elt]
        exact dueN_len h4 q (Nat.le_refl _)
      refine ⟨_, rfl, .inl ⟨rfl, _, SqL.of hlt8⟩, sz1 (by simp), fun t2 ht2 => ⟨tl, _, _, rfl, rfl, (Same.new ht2) _ _ hlt8, sz2 (by omega), ?_⟩⟩
      have s18 : Same G1 G8 := s14.trans s48
      have htl1 : G1 tl = none := s13.free htl
      have s19 : Same G1 (upd (upd G8 t2 (.tup [V.int 0, V.int 0, V.int 0])) tl (.lst (rfs lt ++ [.ref t2]))) := (s18.trans (Same.new ht2)).mut htl1
      have nkt : kp ≠ tl := ne_of_none hk3 htl
      have ndt : d ≠ tl := ne_of_none hd3 htl
      have s49 : Same (upd G2 t (.tup [V.ref kp, V.ref du])) (upd (upd G8 t2 (.tup [V.int 0, V.int 0, V.int 0])) tl (.lst (rfs lt ++ [.ref t2]))) := ((s4.trans s48).trans (Same.new ht2)).mut htl
      generalize upd (upd G8 t2 (.tup [V.int 0, V.int 0, V.int 0])) tl (.lst (rfs lt ++ [.ref t2])) = G9 at s19 s49 ⊢
      have hk9 := s49 _ _ hk3
      have tdu9 := tdu3.same s49
      -- the copy
      refine ⟨_, rfl, kp, dq q, rfl, .inl hk9, ok.apart h4, fun c hc => ⟨c, m, q, rfl, h4, upd_same, ok, fun r G10 s10 _ tr => ⟨_, rfl, _, _, dp_ts tr, dp_ts (tdu9.same ((Same.new hc).trans s10)), shp_ts _, shp_ts _, _, rfl, ?_⟩⟩⟩
      rw [eqv_ts]
      refine iteF ?_
      have s9t := (Same.new hc (o := .dT (dq q))).trans s10
      have hk10 := s9t _ _ hk9
      have s110 := s19.trans s9t
      -- the quiet ones
      refine ⟨kp, _, hk10, trivial, fun od => ⟨_, rfl, kp, od, rfl, .inr ⟨_, upd_same, fun D2 hD2 => ?_⟩⟩⟩
      refine lc_it (walk_keysT (d := kp) (o := od) (kvs := dq q)) (fun i H' => Same (upd G10 kp (.frz od (.dT (dq q)))) H' ∧ TsAt H' D2 (((q.take i).filter (·.2)).map (·.1))) ⟨Same.new hD2, TsAt.new⟩ (fun i H' _ ⟨sm, _⟩ => sm _ _ upd_same) ?_ ?_
      · rintro j x H' G hj ⟨sm, tsD⟩ ⟨rfl, kk, v, qa, he, rfl, hq⟩
        unfold dq at he
        rw [List.getElem?_map] at he
        cases eq1 : q[j]? with
        | none => rw [eq1] at he; cases he
        | some e =>
          rw [eq1] at he
          cases Option.some.inj he
          have hq2 : G qa = some (.tup (e.1.map V.int)) := by rw [hq, List.map_map]; rfl
          have ein : e.1 ∈ prs m := ok.mem_iff.mp (List.mem_map.mpr ⟨e, List.mem_of_getElem? eq1, rfl⟩)
          have ev : val q e.1 = e.2 := by
            unfold val
            rw [look_at (ok.nodup_iff.mpr (prs_nodup h4)) eq1]; rfl
          refine ⟨rfl, _, rfl, _, rfl, kp, _, rfl, .inr ⟨dq q, e.1.map Sum.inl, qa, .inr ⟨od, sm _ _ upd_same⟩, rfl, hq, (val_in (ok.mem ein)).symm⟩, _, rfl, ?_⟩
          rw [ev]
          refine bC (fun c => ?_) (fun c => ?_)
          · obtain ⟨lD, hlD, elD, _⟩ := id tsD
            refine ⟨_, rfl, _, hlD, sz2 ?_, sm.mut hD2, ?_⟩
            · rw [rfs_len, ← List.length_map (f := fun e : Addr × IL => e.2), elD, List.length_map]
              have h1 := List.length_filter_le (fun e : IL × Bool => e.2) (q.take j)
              rw [List.length_take] at h1
              omega
            · rw [fil_take eq1, if_pos c]
              exact tsD.app hlD hq2
          · refine ⟨sm, ?_⟩
            rw [fil_take eq1, if_neg (by rw [c]; simp), List.append_nil]
            exact tsD
      rintro G11 ⟨s11, tsD⟩
      have s12' := lock_same (f := .frz od (.dT (dq q))) hk10 s11
      have nDk : D2 ≠ kp := fun z => by rw [z, upd_same] at hD2; cases hD2
      have hD10 : G10 D2 = none := by rw [upd_ne nDk] at hD2; exact hD2
      rw [dq_len, List.take_length] at tsD
      have nfk : ∀ ys, G11 kp ≠ some (.tup ys) := fun ys z => by rw [s11 _ _ upd_same] at z; cases z
      have tsS := tsD.upd (o := .dT (dq q)) nDk nfk
      refine ⟨s11 _ _ upd_same, ?_⟩
      generalize upd G11 kp (.dT (dq q)) = G12 at s12' tsS ⊢
      have s1z := s110.trans s12'
      have kz : Kp p H1 G12 := kE.trans (Kp.of s1z)
      refine ⟨_, rfl, sz1 (by simp), fun e2 he2 => ?_⟩
      have sE2 := Same.new he2 (o := .lst [])
      refine ⟨_, _, dp_ts (tsS.same sE2), dp_ts (TsAt.new (H := G12) (a := e2)), shp_ts _, shp_ts _, _, rfl, ?_⟩
      rw [show dts [] = [] from rfl, eqv_ts0]
      generalize upd G12 e2 (.lst []) = G13 at sE2
      have kz2 := kz.trans (Kp.of sE2)
      refine uC (fun c => ?_) (fun c => ?_)
      · have tsS2 := tsS.same sE2
        obtain ⟨lS, hlS, elS, htS⟩ := id tsS2
        have b13 := (bE.same s1z).same sE2
        have lS1 : (rfs lS).length = ((q.filter (·.2)).map (·.1)).length := by rw [rfs_len, ← elS, List.length_map]
        have lS2 : ((q.filter (·.2)).map (·.1)).length ≤ 6 := by
          rw [List.length_map]
          have := List.length_filter_le (fun e : IL × Bool => e.2) q
          omega
        have lS3 := List.length_pos_iff.mpr c
        have nSp : p ≠ D2 := fun z => by obtain ⟨_, _, e, _⟩ := bE; rw [z] at e; rw [s110.free hD10] at e; cases e
        refine ⟨_, rfl, _, rfl, p, D2, rfs lS, rfl, hlS, by omega, by omega, b13, nSp, fun v G14 hv k14 b14 => ?_⟩
        obtain ⟨e, he, rfl⟩ := List.mem_map.mp hv
        have het := htS e he
        have npe : e.1 ≠ p := fun z => by obtain ⟨_, _, e4, _⟩ := b13; rw [z, e4] at het; cases het
        have het14 := k14 _ _ npe het
        have hd14 := k14 _ _ npd (sE2 _ _ (s1z _ _ hdE))
        have ein : e.2 ∈ q.map (·.1) := by
          have : e.2 ∈ lS.map (·.2) := List.mem_map.mpr ⟨e, he, rfl⟩
          rw [elS] at this
          obtain ⟨y, hy, hy2⟩ := List.mem_map.mp this
          exact List.mem_map.mpr ⟨y, (List.mem_filter.mp hy).1, hy2⟩
        refine ⟨_, rfl, _, rfl, d, upd G14 d (.dT (putK (dq q) (e.2.map Sum.inl) (V.bl false))), rfl, DPut.t (k := e.2.map Sum.inl) (b := e.1) hd14 (by rw [het14, List.map_map]; rfl) (sz2 (by rw [dq_len]; omega)), ?_⟩
        rw [put_set ein]
        have okS := setQ_ok ok e.2 false
        refine ⟨_, rfl, d, m, setQ q e.2 false, rfl, h4, upd_same, okS, fun r1 G15 s15 _ tr1 => ?_⟩
        refine ⟨_, rfl, _, rfl, d, m, setQ q e.2 false, rfl, h4, s15 _ _ upd_same, okS, fun r2 G16 s16 _ tr2 => ?_⟩
        refine ⟨_, _, dp_ts (tr1.same s16), dp_ts tr2, shp_ts _, shp_ts _, _, rfl, ?_⟩
        rw [eqv_ts]
        refine iteF ?_
        exact ⟨⟨_, _, _, _, _, _, _, _, _, _, _, _, rfl⟩, keepS (((Kp.mut (kz2.trans k14) hd1).trans (Kp.of s15)).trans (Kp.of s16))⟩
      · exact ⟨⟨_, _, _, _, _, _, _, _, _, _, _, _, rfl⟩, keepS kz2⟩
end
end K47
open PySem PySem.W PySem.Calls PyProof.Rows
theorem PySem.Challenge.cw_quietedition_k47_chains_of_quiet_steps_holds : PySem.Challenge.rw_quietedition_k47_chains_of_quiet_steps.Holds := by
  w_on; o_law
  refine HandSHeadRun.head_any (r := OpenLaw.row PySem.Challenge.rw_quietedition_k47_chains_of_quiet_steps) (q := view (OpenLaw.row PySem.Challenge.rw_quietedition_k47_chains_of_quiet_steps).prog [7]) (H := K47.hkz 2) (ob := K47.ob) (M := 700) (loose := K47.loose) (d := HandSHeadRun.topDef (OpenLaw.row PySem.Challenge.rw_quietedition_k47_chains_of_quiet_steps).prog 7) (kwd := []) K47.ob_eq
    (by kernel_rfl) (fun s => by kernel_rfl) K47.run (by kernel_rfl) (by kernel_rfl) (by kernel_rfl) (by rfl) (by first | assumption | decide +kernel) (by decide +kernel) ⟨rfl, rfl, rfl, rfl, rfl, by decide +kernel⟩ ?hw ?hc
  case hw => w_witness2
  case hc =>
    refine L2.walk_ofE (l := PySem.Challenge.rw_quietedition_k47_chains_of_quiet_steps) (n := 63) (k := 6) (x := "_law_script") (CX := L2.CX0) rfl (by decide) (by kernel_rfl) ⟨rfl, by decide, by decide⟩ ?F (fun _ _ _ _ z => z)
    intro w mg fa h Y G g0
    obtain ⟨K, KX, c, ck⟩ := Y
    have gl : mg ("law" : PySem.Str) = some (.ref fa) := by
      have nm : (HandSHeadRun.topDef (OpenLaw.row PySem.Challenge.rw_quietedition_k47_chains_of_quiet_steps).prog 7).name = ("law" : PySem.Str) := by kernel_rfl
      rw [← nm]
      exact g0
    have T : K47.Tx K mg (0 : Addr) [] := K47.tx_of KX G c ck
    obtain ⟨fd, F⟩ := K47.f_law T
    cases gl.symm.trans (K47.g_law T)
    have b := L2.FunD.bindsA (ps := ["_law_script"]) F fun _ _ _ _ _ _ us hl => match us, hl with | [_], _ => rfl
    exact ⟨K, fd, K47.spLaw K, KX, fun s v => b s [v] rfl, fun _ a ns _ _ q => ⟨a, ns, rfl, q, fun _ => rfl⟩, fun _ _ _ => K47.ok_law T F⟩
