import PyProof.Rows.All
import Wide.All
import OpenK.AllK
import Wide.FinOn
import KE.KStateDown
import HandS.ForMost
import HandS.FStr
import HandS.IsInst
import HandS.Wide
import HandS.SlotsOwn
import HandS.Defaults
import HandS.Head0
import HandS.Head1
import HandS.Head2
import HandS.HeadEnd
import HandS.HeadHook1
import HandS.HeadHook2
import HandS.SetKeys
import HandS.SortKw
import KE.DataMinMax
import HandS.ExcInit
import HandS.ExcField
import HandS.ExcIs
import HandS.Nested
import KE.KExcSuper
import KE.KSuper
import HandS.FStrTup
import PyProof.ReprHeads
import HandS.ClsMeth
import HandS.Star
import HandS.Deep
import HandS.TupAny
import HandS.Text
import HandS.StrMore
import KE.IntTextLaws
import HandS.HeadHook3
import KE.GoesMore
import HandS.Walk
import HandS.ForExc
import KE.KOpsOwn
import HandS.OwnIter
import KE.KDictIter
import PyProof.TupleIter
import PyProof.WalksMore
import PySem.Challenge.RW_quietedition_k88_errors_and_long_units
import HandS.Zip
import HandS.Comp
import HandS.DictComp
import PyProof.DictCompW
import HandS.Conv
import KE.DatumOrd
import HandS.GenBody
import HandS.GenYield
import HandS.GenCall
import HandS.GenList
import PyProof.GenComp
import PyProof.StrBlockL
import HandS.RaiseMore
set_option Elab.async false
set_option linter.all false
set_option maxRecDepth 100000
set_option maxHeartbeats 0
namespace Cm
open PySem PySem.Spec PyProof.Rows L2

/-! ### defs, methods, makers of the module, each as one fact -/
/-- the module's name x is a def that keeps sp at level k -/
def Cal (P : Program) (w : World) (K : PySem.W.Frag) (mg : Str → Option Value) (base : Heap) (k : Nat) (x : Str) (sp : Sp) : Prop :=
  ∃ f fd ps, FnOk P w K mg base CX0 k f fd ps sp ∧ Binds K fd ps [] ∧ mg x = some (.ref f) ∧ PySem.W.keepIn K (.ref f) = true
/-- the class at C has the method m, which keeps sp at level k -/
def MCal (P : Program) (w : World) (K : PySem.W.Frag) (mg : Str → Option Value) (base : Heap) (k : Nat) (C : Addr) (m : Str) (sp : Sp) : Prop :=
  Cls K C ∧ ∃ f fd ps, FnOk P w K mg base CX0 k f fd ps sp ∧ Binds K fd ps [] ∧ Meth K C m f
/-- the module's name x is the class at C, whose maker keeps sp; dv fills up -/
def KCal (P : Program) (w : World) (K : PySem.W.Frag) (mg : Str → Option Value) (base : Heap) (k : Nat) (x : Str) (C : Addr) (sp : Sp) (dv : List V) : Prop :=
  mg x = some (.ref C) ∧ ∃ f fd ps ds, Mk K C f ∧ FnOk P w K mg base CX0 k f fd ps sp ∧ Binds K fd ps ds ∧ Vals dv ds
section
variable {X : Cx} {j k : Nat} {x m : Str} {C : Addr} {sp : Sp} {dv : List V} {e o : Expr} {es : List Expr} {p pos apos : Pos} {t : TA} {ta : TE}
theorem pe_cal (c : Cal X.prog X.w X.K X.mg X.base k x sp) (hr : Room j X.A) (hk : k ≤ j) (ha : PA X (e :: es) t) (hg : Gl X x := by rfl) (hd : (x == ("__debug__" : Str)) = false := by decide)
    (h1 : starEach (e :: es) X.env = (false, eval e X.env) :: starEach es X.env := by rfl) (h2 : (backTo pos (starEach es X.env)).any (·.1) = false := by rfl) :
    PE X (.Call (.Name x p) (e :: es) [] pos) (tCall sp [] E0 t) := by
  obtain ⟨f, fd, ps, F, b, g, kp⟩ := c
  exact pe_call F (hr.mono hk) hg g kp b .nil pass0 ha hd h1 h2
theorem pe_kal (c : KCal X.prog X.w X.K X.mg X.base k x C sp dv) (hr : Room j X.A) (hk : k + 1 ≤ j) (ha : PA X (e :: es) t) (hg : Gl X x := by rfl) (hd : (x == ("__debug__" : Str)) = false := by decide)
    (h1 : starEach (e :: es) X.env = (false, eval e X.env) :: starEach es X.env := by rfl) (h2 : (backTo pos (starEach es X.env)).any (·.1) = false := by rfl) :
    PE X (.Call (.Name x p) (e :: es) [] pos) (tMake C sp dv E0 t) := by
  obtain ⟨g, f, fd, ps, ds, M, F, b, v⟩ := c
  exact pe_make M F (hr.mono hk) hg g b v pass0 ha hd h1 h2
theorem pe_mcal0 {pl : Sem Bool} (c : MCal X.prog X.w X.K X.mg X.base k C m sp) (hr : Room j X.A) (hk : k ≤ j) (ho : PE X o ta)
    (ht : eval (.Call (.Attribute o m apos) [] [] pos) X.env = (do
      let ov ← eval o X.env
      standAt apos.atName
      let (f, first) ← holding [ov] (getMethod ov m pl)
      callWith pos f first (backTo pos (starEach [] X.env)) (backToKw pos (keywordEach [] X.env))) := by rfl) : PE X (.Call (.Attribute o m apos) [] [] pos) (tMeth C m sp [] E0 ta tNil) := by
  obtain ⟨cl, f, fd, ps, F, b, M⟩ := c
  exact pe_meth0 ho cl M F (hr.mono hk) b .nil pass0 ht
/-- two readings of one expression -/
theorem PE.or2 {t1 t2 : TE} (h1 : PE X e t1) (h2 : PE X e t2) : PE X e (fun σ H Q => t1 σ H Q ∨ t2 σ H Q) :=
  ⟨fun pins s σ H Q I h => h.elim (h1.run pins s σ H Q I) (h2.run pins s σ H Q I)⟩
end
theorem MCal.mono {P : Program} {w : World} {K : PySem.W.Frag} {mg : Str → Option Value} {base : Heap} {j k : Nat} {C : Addr} {m : Str} {sp : Sp} (h : MCal P w K mg base j C m sp) (l : j ≤ k) : MCal P w K mg base k C m sp :=
  let ⟨c, f, fd, ps, F, r⟩ := h; ⟨c, f, fd, ps, F.mono l, r⟩
/-! ### methods and == of an instance whose class the reading tells -/
def tMG (P : Program) (w : World) (K : PySem.W.Frag) (mg : Str → Option Value) (base : Heap) (k : Nat) (m : Str) (ta : TE) : TE := fun σ H Q =>
  ta σ H fun x H1 => ∃ a C dx fs sp, x = .ref a ∧ H1 a = some (.ins C dx fs) ∧ fs.lookup m = none ∧ MCal P w K mg base k C m sp ∧ sp [.ref a] H1 Q E0
def rOwnG (P : Program) (w : World) (K : PySem.W.Frag) (mg : Str → Option Value) (base : Heap) (k : Nat) (m : Str) : R2 := fun x y H Q =>
  ∃ a C dx fs sp, x = .ref a ∧ H a = some (.ins C dx fs) ∧ MCal P w K mg base k C m sp ∧
    ((∃ b D dy gs, y = .ref b ∧ H b = some (.ins D dy gs) ∧ PySem.W.notFirst K C (.ref D) = true) ∨ (∃ z, y = .str z ∧ PySem.W.notFirst K C (.type "str") = true)) ∧ sp [x, y] H Q E0
section
variable {X : Cx} {j k : Nat} {m : Str} {o : Expr} {pos apos : Pos} {ta : TE}
theorem pe_mG {pl : Sem Bool} (hr : Room j X.A) (hk : k ≤ j) (he : PE X o ta)
    (ht : eval (.Call (.Attribute o m apos) [] [] pos) X.env = (do
      let ov ← eval o X.env
      standAt apos.atName
      let (f, first) ← holding [ov] (getMethod ov m pl)
      callWith pos f first (backTo pos (starEach [] X.env)) (backToKw pos (keywordEach [] X.env))) := by rfl) : PE X (.Call (.Attribute o m apos) [] [] pos) (tMG X.prog X.w X.K X.mg X.base k m ta) := by
  constructor
  intro pins s σ H Q I h
  refine PySem.W.methodCall_KW (pl := pl) (thn (he.run pins s σ H _ I h) ?_) ht
  rintro u s1 ⟨x, H1, I1, rx, a, C, dx, fs, sp, ex, ea, l, ⟨c, f, fd, ps, F, b, M⟩, q⟩
  subst ex
  cases (show u = Value.ref a from rx)
  refine getmeth_ok I1 ea c M l ?_
  exact PySem.W.callWith_K0 (first := [.ref a]) I1.kIn M.kp (run_fn (vs := [.ref a]) F (hr.mono hk) b .nil pass0 I1 (.cons rfl .nil) q)
theorem op_ownG (hr : Room j X.A) (hk : k ≤ j) : OpR X (compareOp .Eq) (rOwnG X.prog X.w X.K X.mg X.base k "__eq__") := by
  intro pins s σ H x y v u Q I rx ry h
  obtain ⟨a, C, dx, fs, sp, ex, ha, ⟨c, f, fd, ps, F, b, M⟩, hy, q⟩ := h
  subst ex
  cases (show v = Value.ref a from rx)
  obtain ⟨mA, O, _⟩ := ins_get I.hok ha
  obtain ⟨od, J, _⟩ := O.look
  obtain ⟨mm, hF⟩ := I.fr
  have go : ∀ tb, PySem.W.Looks (model X.prog X.w) s.heap (typeOf u) tb → PySem.W.notFirst X.K C tb = true → wpAny (model X.prog X.w) X.A (compareOp .Eq (.ref a) u) (EP X pins σ Q) X.xe s := by
    intro tb hb hn
    show wpAny _ X.A (richCompare .Eq (.ref a) u) _ _ s
    refine PySem.W.cmp_K (op := .Eq) hr.units0 hF I.ok.mod.kin J hb hn M.at_ M.fn ?_
    refine wpAny_mono (run_fn (us := [.ref a, u]) (vs := [.ref a, y]) F (hr.mono hk) b .nil pass0 I (.cons rfl (.cons ry .nil)) q) ?_ fun _ _ z => z
    rintro r s' ⟨z, H', I', rz, qz⟩
    exact SlX.cmpback rz ⟨z, H', I', rz, qz⟩
  rcases hy with ⟨b', D, dy, gs, ey, hb, hn⟩ | ⟨z, ey, hn⟩
  · subst ey
    cases (show u = Value.ref b' from ry)
    obtain ⟨mB, O', _⟩ := ins_get I.hok hb
    obtain ⟨od', J', _⟩ := O'.look
    exact go _ J'.type hn
  · subst ey
    obtain ⟨t, e⟩ := (show ∃ t, u = Value.str z t from ry)
    cases e
    exact go (.type "str") .now hn
end
/-! ### an instance of a class without a maker of its own -/
section
variable {X : Cx} {x : Str} {C : Addr} {p pos : Pos}
/-- C() where no __init__ stands but object's -/
def tMk0 (C : Addr) : TE := fun _ H Q => ∀ y dx, H y = none → H dx = none → dx ≠ y → Q (.ref y) (upd (upd H dx (.own y)) y (.ins C dx []))
theorem pe_mk0 (hm : PySem.W.makesIn X.K C = true) (hi : PySem.W.findIn X.K (.ref C) "__init__" = some (some (.builtin "object.__init__"))) (kp : PySem.W.keepIn X.K (.ref C) = true) (g : X.mg x = some (.ref C)) (hg : Gl X x := by rfl)
    (hd : (x == ("__debug__" : Str)) = false := by decide) : PE X (.Call (.Name x p) [] [] pos) (tMk0 C) := by
  constructor
  intro pins s σ H Q I h
  refine wpAny_Call_Name_kw (ld_glob I hg g ?_ hd)
  refine PySem.W.callWith_K0 I.kIn kp ?_
  have I2 := Inv.made (C := C) I
  have q := h (s.heap.objs.size + 1) s.heap.objs.size (I.hok.fresh (Nat.le_succ _)) (I.hok.fresh (Nat.le_refl _)) (Nat.ne_of_lt (Nat.lt_succ_self _))
  have Y := PySem.W.makes_of (M := model X.prog X.w) I.kIn hm
  refine wpAny_call (make_map0 I.kIn hm hi (fun self => PySem.W.Looks.of_pure (PySem.W.oi_bind self)) ?_)
  have e2 : ((s.heap.push PySem.W.emptyDict).push (PySem.W.instObj C s.heap.objs.size)).get? (s.heap.objs.size + 1) = some (PySem.W.instObj C s.heap.objs.size) := by
    have z := Heap.get?_push_size (s.heap.push PySem.W.emptyDict) (o := PySem.W.instObj C s.heap.objs.size) rfl
    rwa [Heap.size_push] at z
  have t1 : PySem.W.Looks (model X.prog X.w) ((s.heap.push PySem.W.emptyDict).push (PySem.W.instObj C s.heap.objs.size)) (typeOf (.ref (s.heap.objs.size + 1))) (.ref C) := (PySem.W.Looks.ld e2).andThen .now
  have t2 : PySem.W.Looks (model X.prog X.w) ((s.heap.push PySem.W.emptyDict).push (PySem.W.instObj C s.heap.objs.size)) (isInstance (.ref (s.heap.objs.size + 1)) (.type "object")) true :=
    t1.andThen (Y.top.keeps fun b o e => Heap.get?_push_of_some _ (Heap.get?_push_of_some _ e))
  refine codeAny_call_builtin PySem.W.oi_plain PySem.W.entry_oi (@PySem.W.check_slot (model X.prog X.w) _ _ _ "object.__init__" "object" "__init__" (.ref (s.heap.objs.size + 1)) [] [] _ PySem.W.oi_kind PySem.W.oi_split t2 (PySem.W.oi_args _) ?_)
  rw [PySem.W.oi_run]
  exact wpAny_pure (And.intro rfl ⟨V.ref _, _, I2, rfl, q⟩)
end
/-! ### a def of the text keeps its promise -/
section
variable {P : Program} {w : World} {K : PySem.W.Frag} {mg : Str → Option Value} {base : Heap} {x qual : Str} {a : Arguments} {b : List Stmt} {sc : Scope} {dv : List V} {f : Addr} {fd : FuncData} {N ps : List Str} {k : Nat} {sp : Sp}
theorem fnok (F : FunD K x qual a b sc dv [] f fd) (S : FnScope N ps sc) (len : ∀ vs H Q E, sp vs H Q E → vs.length = ps.length)
    (body : ∀ (cdv : Value) (A : Around) (outer : List Env) (s : Shared) (H : Hp) (vs : List V) (Q : VK) (E : XK), Room k (A.deeper (envOfC qual sc s.heap.objs.size f cdv)) → sp vs H Q E →
      ∃ t, PSs (cxOf CX0 P w K mg base N qual sc f cdv A outer s H E).nox b t ∧ t { nx := fun _ H' => Q .non H', rt := Q } (start N vs) H) : FnOk P w K mg base CX0 (k + 1) f fd ps sp :=
  F.ok S len fun cdv A outer s H vs Q E hr h => let ⟨t, d, q⟩ := body cdv A outer s H vs Q E hr h; ⟨t, d.nox, q⟩
end
/-! ### heaps: all but p is kept -/
def Kp (p : Addr) (H H' : Hp) : Prop := ∀ a o, a ≠ p → H a = some o → H' a = some o
theorem Kp.refl {p : Addr} {H : Hp} : Kp p H H := fun _ _ _ h => h
theorem Kp.trans {p : Addr} {H H1 H2 : Hp} (a : Kp p H H1) (b : Kp p H1 H2) : Kp p H H2 := fun c o n h => b c o n (a c o n h)
theorem Kp.at {p : Addr} {H H' : Hp} {o : HO} (a : Kp p H H') : Kp p H (upd H' p o) := fun c u n h => by rw [upd_ne n]; exact a c u n h
theorem Kp.new {p q : Addr} {H H' : Hp} {o : HO} (a : Kp p H H') (h : H' q = none) : Kp p H (upd H' q o) := fun c u n e => by
  rw [upd_ne (ne_of_none (a c u n e) h)]; exact a c u n e
theorem Kp.rd {p a : Addr} {H H' : Hp} {u : HO} (k : Kp p H H') (n : a ≠ p) (h : Rd H a u) : Rd H' a u := h.elim (fun h => .inl (k _ _ n h)) fun ⟨o, h⟩ => .inr ⟨o, k _ _ n h⟩
theorem Kp.sl {K : PySem.W.Frag} {p a : Addr} {H H' : Hp} {xs : List V} (k : Kp p H H') (n : a ≠ p) (h : SqL K H a xs) : SqL K H' a xs := h.elim (fun h => .inl (k.rd n h)) .inr
theorem Kp.st {K : PySem.W.Frag} {p a : Addr} {H H' : Hp} {xs : List V} (k : Kp p H H') (n : a ≠ p) (h : SqT K H a xs) : SqT K H' a xs := h.elim (fun h => .inl (k.rd n h)) .inr
theorem sz1 {n : Nat} (h : n ≤ 100000) : n ≤ sizeLine := Nat.le_trans h (by decide)
theorem sz2 {n : Nat} (h : n ≤ 100000) : n < sizeLine := Nat.lt_of_le_of_lt h (by decide)
theorem log_of {i : Int} (h : i.natAbs < 2 ^ 1000) : i.natAbs.log2 < 1920 := Nat.lt_of_lt_of_le (PySem.Flt.log2_lt_of (by decide) h) (by decide)
/-! ### texts -/
theorem app_len (a b : Str) : (a ++ b).length = a.length + b.length := by
  show (a.cps ++ b.cps).size = a.cps.size + b.cps.size
  exact Array.size_append
theorem emp_app (a : Str) : Str.empty ++ a = a := by
  show (⟨#[] ++ a.cps⟩ : Str) = a
  rw [Array.empty_append]
theorem app_assoc (a b c : Str) : a ++ b ++ c = a ++ (b ++ c) := by
  show (⟨a.cps ++ b.cps ++ c.cps⟩ : Str) = ⟨a.cps ++ (b.cps ++ c.cps)⟩
  rw [Array.append_assoc]
/-! ### tests -/
theorem tT {c A B : Prop} [Decidable c] (h : c) (a : A) : if decide c = true then A else B := by
  rw [decide_eq_true h]; exact iteT a
theorem tF {c A B : Prop} [Decidable c] (h : ¬ c) (b : B) : if decide c = true then A else B := by
  rw [decide_eq_false h]; exact iteF b
theorem uT {c A B : Prop} [Decidable c] (h : ¬ c) (a : A) : if (!decide c) = true then A else B := by
  rw [decide_eq_false h]; exact iteT a
theorem uF {c A B : Prop} [Decidable c] (h : c) (b : B) : if (!decide c) = true then A else B := by
  rw [decide_eq_true h]; exact iteF b
theorem bT {b : Bool} {A B : Prop} (h : b = true) (a : A) : if b = true then A else B := by rw [h]; exact iteT a
theorem bF {b : Bool} {A B : Prop} (h : b = false) (a : B) : if b = true then A else B := by rw [h]; exact iteF a
theorem dC {c A B : Prop} [Decidable c] (hT : c → A) (hF : ¬ c → B) : if decide c = true then A else B := by
  by_cases h : c
  · exact tT h (hT h)
  · exact tF h (hF h)
theorem uC {c A B : Prop} [Decidable c] (hT : ¬ c → A) (hF : c → B) : if (!decide c) = true then A else B := by
  by_cases h : c
  · exact uF h (hF h)
  · exact uT h (hT h)
theorem bC {b : Bool} {A B : Prop} (hT : b = true → A) (hF : b = false → B) : if b = true then A else B := by
  cases h : b
  · exact iteF (hF h)
  · exact iteT (hT h)
/-! ### attributes -/
theorem fl1 {f : Str} {v : V} {fs : List (Str × V)} : (putF f v fs).lookup f = some v := by rw [lookup_putF, if_pos rfl]
theorem fl2 {f g : Str} {v : V} {fs : List (Str × V)} {o : Option V} (h : ¬ g = f) (e : fs.lookup g = o) : (putF f v fs).lookup g = o := by rw [lookup_putF, if_neg h, e]
theorem fn0 : ([] : List (Str × V)).length < 1000 := by decide
theorem fnS {f : Str} {v : V} {fs : List (Str × V)} (h : fs.length < 900) : (putF f v fs).length < 1000 := by
  have := length_putF f v fs; omega
theorem fs0 : ([] : List (Str × V)).length < 900 := by decide
theorem fs1 {f : Str} {v : V} {fs : List (Str × V)} (h : fs.length < 800) : (putF f v fs).length < 900 := by
  have := length_putF f v fs; omega
end Cm
namespace Cm
open PySem PySem.Spec PyProof.Rows L2 PySem.W
/-! ### max(ints, default=d) -/
theorem alike_ints (ns : List Int) : AlikeAll (ns.map PyData.int) := by
  constructor
  · intro x hx y hy
    obtain ⟨i, _, rfl⟩ := List.mem_map.mp hx
    obtain ⟨j, _, rfl⟩ := List.mem_map.mp hy
    rfl
  · intro x hx e
    obtain ⟨i, _, rfl⟩ := List.mem_map.mp hx
    cases e
theorem depth_ints : ∀ ns : List Int, PyData.depthAll (ns.map PyData.int) = 0
  | [] => rfl
  | n :: ns => by
    show max (PyData.depth (.int n)) (PyData.depthAll (ns.map PyData.int)) = 0
    rw [depth_ints ns]; rfl
theorem dpAll_ints {K : PySem.W.Frag} {H : Hp} : ∀ ns : List Int, DpAll K H (ns.map V.int) (ns.map PyData.int)
  | [] => .nil
  | n :: ns => .cons (.int n) (dpAll_ints ns)
theorem foldmax (n : Int) : ∀ ns : List Int, ns.foldl max n ∈ n :: ns ∧ ∀ k ∈ n :: ns, k ≤ ns.foldl max n
  | [] => ⟨List.mem_cons_self, fun k hk => by simp at hk; subst hk; exact Int.le_refl _⟩
  | m :: ns => by
    obtain ⟨h1, h2⟩ := foldmax (max n m) ns
    refine ⟨?_, fun k hk => ?_⟩
    · rcases List.mem_cons.mp h1 with e | e
      · rw [List.foldl_cons, e]
        by_cases c : n ≤ m
        · rw [show max n m = m from by omega]; simp
        · rw [show max n m = n from by omega]; simp
      · rw [List.foldl_cons]; exact List.mem_cons_of_mem _ (List.mem_cons_of_mem _ e)
    · rw [List.foldl_cons]
      have h3 := h2 (max n m) List.mem_cons_self
      rcases List.mem_cons.mp hk with e | e
      · omega
      · rcases List.mem_cons.mp e with e | e
        · omega
        · exact h2 k (List.mem_cons_of_mem _ e)
section
variable {X : Cx}
theorem call_maxD (hc : X.calm = true) (hu : X.A.units + 64 < cLine) : CallRK X (.builtin "max") [Str.ofString "default"] (fun vs zs H Q => ∃ (a : Addr) (ns : List Int) (d : V), vs = [V.ref a] ∧ zs = [d] ∧ SqL X.K H a (ns.map V.int) ∧
    (ns = [] → Q d H) ∧ ∀ m, m ∈ ns → (∀ n ∈ ns, n ≤ m) → Q (.int m) H) := by
  intro pins s σ H vs zs us ws Q I r rz h
  obtain ⟨a, ns, d, rfl, rfl, hs, q0, q1⟩ := h
  obtain ⟨u, rfl, e⟩ := vals1 r
  cases (show u = Value.ref a from e)
  obtain ⟨w1, rfl, e1⟩ := vals1 rz
  obtain ⟨its, rv, hl, hz⟩ := I.list hs
  obtain ⟨as, hr⟩ := Dp.readsAll I (ns.map PyData.int) _ its (dpAll_ints ns) rv
  refine max_list_default (vs := its.toArray) (I.ok.hd hc) hl.isList (by simpa using hr) (alike_ints ns) (by rw [depth_ints]; omega) (fun e h' tk k => ?_) (fun y ys i v h' tk bs e hi rd k => ?_)
  · exact ⟨d, H, I.kept k, e1, q0 (by simpa using e)⟩
  · cases ns with
    | nil => cases e
    | cons n ns =>
      obtain ⟨rfl, rfl⟩ : PyData.int n = y ∧ ns.map PyData.int = ys := by simpa using e
      rw [maxD_ints] at rd
      obtain ⟨m1, m2⟩ := foldmax n ns
      cases rd with
      | int _ t => exact ⟨.int (ns.foldl max n), H, I.kept k, ⟨t, rfl⟩, q1 _ m1 m2⟩
end
/-! ### heaps -/
def Same (H H' : Hp) : Prop := ∀ a o, H a = some o → H' a = some o
theorem Same.refl (H : Hp) : Same H H := fun _ _ h => h
theorem Same.trans {H H1 H2 : Hp} (a : Same H H1) (b : Same H1 H2) : Same H H2 := fun c o h => b c o (a c o h)
theorem Same.new {H : Hp} {p : Addr} {o : HO} (h : H p = none) : Same H (upd H p o) := fun c u e => by rw [upd_ne (ne_of_none e h)]; exact e
theorem Same.mut {H H' : Hp} {p : Addr} {o : HO} (s : Same H H') (h : H p = none) : Same H (upd H' p o) := fun c u e => by rw [upd_ne (ne_of_none e h)]; exact s c u e
theorem Same.free {H H' : Hp} {p : Addr} (s : Same H H') (h : H' p = none) : H p = none := by
  cases e : H p with
  | none => rfl
  | some o => rw [s _ _ e] at h; cases h
theorem Same.kp {H H' : Hp} {p : Addr} (s : Same H H') : Kp p H H' := fun a o _ h => s a o h
theorem Same.sl {K : PySem.W.Frag} {a : Addr} {H H' : Hp} {xs : List V} (k : Same H H') (h : SqL K H a xs) : SqL K H' a xs :=
  h.elim (fun h => .inl (h.elim (fun h => .inl (k _ _ h)) fun ⟨o, h⟩ => .inr ⟨o, k _ _ h⟩)) .inr
theorem kmut {H H' : Hp} {p q : Addr} {o : HO} (s : Kp p H H') (h : H q = none) : Kp p H (upd H' q o) := fun c u n e => by rw [upd_ne (ne_of_none e h)]; exact s c u n e
theorem kfree {H H' : Hp} {p q : Addr} (s : Kp p H H') (n : q ≠ p) (h : H' q = none) : H q = none := by
  cases e : H q with
  | none => rfl
  | some o => rw [s _ _ n e] at h; cases h
def IntOk (i : Int) : Prop := i.natAbs ≤ 4000000000
theorem io {m : Int} (h : m.natAbs ≤ 4000000000) : IntOk m := h
/-! ### the pool -/
def PoolAt (K : PySem.W.Frag) (sa : Addr) (sx : List Int) (H : Hp) (p : Addr) : Prop :=
  ∃ (i b s : Int), H p = some (.lst [V.ref sa, V.int i, V.int b, V.int s]) ∧ (sa ≠ p ∨ ∀ H', SqL K H' sa (sx.map V.int)) ∧ SqL K H sa (sx.map V.int) ∧ 0 ≤ i ∧ 0 ≤ b ∧ 0 ≤ s ∧ s < 2147483647
section
variable {K : PySem.W.Frag} {sa : Addr} {sx : List Int}
theorem pool_new {H : Hp} {p q : Addr} {o : HO} (hP : PoolAt K sa sx H p) (hq : H q = none) : PoolAt K sa sx (upd H q o) p := by
  obtain ⟨i, b, s, hp, na, hS, r⟩ := hP
  refine ⟨i, b, s, ?_, na, ?_, r⟩
  · rw [upd_ne (ne_of_none hp hq)]; exact hp
  · exact na.elim (fun n => Kp.sl (p := p) (Kp.refl.new hq) n hS) (fun z => z _)
theorem pool_ne {H : Hp} {p q : Addr} (hP : PoolAt K sa sx H p) (hq : H q = none) : q ≠ p := by
  obtain ⟨i, b, s, hp, _⟩ := hP
  exact (ne_of_none hp hq).symm
theorem sq_new {H : Hp} {a q : Addr} {xs : List V} (h : SqL K H a xs) (hq : H q = none) : a ≠ q ∨ ∀ H', SqL K H' a xs :=
  h.elim (fun r => .inl (r.elim (fun e => ne_of_none e hq) fun ⟨o, e⟩ => ne_of_none e hq)) fun r => .inr fun H' => .inr r
theorem pool_fresh {H : Hp} {p q : Addr} (hP : PoolAt K sa sx H p) (hq : H q = none) : sa ≠ q ∨ ∀ H', SqL K H' sa (sx.map V.int) := by
  obtain ⟨_, _, _, _, _, hS, _⟩ := hP
  exact sq_new hS hq
theorem pool_upd {H : Hp} {p D : Addr} {o : HO} (hP : PoolAt K sa sx H p) (nD : D ≠ p) (hd : sa ≠ D ∨ ∀ H', SqL K H' sa (sx.map V.int)) : PoolAt K sa sx (upd H D o) p := by
  obtain ⟨i, b, s, hp, na, hS, r⟩ := hP
  refine ⟨i, b, s, (upd_ne nD.symm).trans hp, na, ?_, r⟩
  rcases hd with n | z
  · refine hS.elim (fun q => .inl ?_) .inr
    exact q.elim (fun e => .inl ((upd_ne n).trans e)) fun ⟨o', e⟩ => .inr ⟨o', (upd_ne n).trans e⟩
  · exact z _
theorem pool_same {H H' : Hp} {p : Addr} (hP : PoolAt K sa sx H p) (s : Same H H') : PoolAt K sa sx H' p := by
  obtain ⟨i, b, s', hp, na, hS, r⟩ := hP
  exact ⟨i, b, s', s _ _ hp, na, s.sl hS, r⟩
/-- a list of ints is not the pool -/
theorem pool_int {H : Hp} {p a : Addr} {ns : List Int} (hP : PoolAt K sa sx H p) (ha : H a = some (.lst (ns.map V.int))) : a ≠ p := by
  rintro rfl
  obtain ⟨i, b, s, hp, _⟩ := hP
  rw [ha] at hp
  cases ns with
  | nil => cases hp
  | cons n ns => cases hp
theorem pool_tup {H : Hp} {p a : Addr} {xs : List V} (hP : PoolAt K sa sx H p) (ha : H a = some (.tup xs)) : a ≠ p := by
  rintro rfl
  obtain ⟨i, b, s, hp, _⟩ := hP
  rw [ha] at hp
  cases hp
theorem wd {m : Int} (h0 : 0 < m) (h : IntOk m) : CDivW 0 m := wide_div h0 (b := 40) (Nat.lt_of_le_of_lt h (by decide)) (by decide) (by decide)
end
/-! ### ints in lists -/
theorem at_int {ns : List Int} {i : Nat} (h : i < ns.length) : atI (ns.map V.int) ((i : Nat) : Int) = some (.int ns[i]) := atI_nat (by rw [List.getElem?_map, List.getElem?_eq_getElem h]; rfl)
theorem at_int' {ns : List Int} {k : Int} (h0 : 0 ≤ k) (h : k.toNat < ns.length) : atI (ns.map V.int) k = some (.int ns[k.toNat]) := by
  have e : k = ((k.toNat : Nat) : Int) := by omega
  exact (congrArg (atI (ns.map V.int)) e).trans (at_int h)
theorem map_at {ns : List Int} {i : Nat} {x : V} (h : (ns.map V.int)[i]? = some x) : ∃ hi : i < ns.length, x = .int ns[i] := by
  rw [List.getElem?_map] at h
  cases e : ns[i]? with
  | none => rw [e] at h; cases h
  | some n =>
    rw [e] at h
    obtain ⟨hi, e2⟩ := List.getElem?_eq_some_iff.mp e
    exact ⟨hi, by rw [e2]; exact (Option.some.inj h).symm⟩
theorem flat_ints (ns : List Int) : (ns.map V.int).all flatV = true := by
  rw [List.all_eq_true]
  intro x hx
  obtain ⟨i, _, rfl⟩ := List.mem_map.mp hx
  rfl
theorem inV_ints (n : Int) (ns : List Int) : inV (.int n) (ns.map V.int) = decide (n ∈ ns) := by
  unfold inV
  rw [List.any_map]
  apply Bool.eq_iff_iff.mpr
  rw [List.any_eq_true, decide_eq_true_iff]
  exact ⟨fun ⟨x, hx, e⟩ => by have e2 : x = n := by simpa [eqV] using e
                              subst e2; exact hx, fun h => ⟨n, h, by simp [eqV]⟩⟩
theorem tru_ints {K : PySem.W.Frag} {H : Hp} {a : Addr} {ns : List Int} (h : H a = some (.lst (ns.map V.int))) : TruV K (.ref a) H (!ns.isEmpty) :=
  .inl ⟨_, SqL.of h, by cases ns <;> rfl⟩
/-- a test by a list's truth -/
theorem lC {ns : List Int} {A B : Prop} (hT : ns ≠ [] → A) (hF : ns = [] → B) : if (!ns.isEmpty) = true then A else B := by
  cases ns with
  | nil => exact iteF (hF rfl)
  | cons n ns => exact iteT (hT (by simp))
end Cm
namespace Cm
open PySem PySem.Spec PyProof.Rows
open L2 hiding Same
open NdefX
/-! ### super().__init__(e) in the __init__ of an own error over ValueError -/
section
open PySem.W PySem.Calls
variable {prog : Program} {w : World} {A : Around} {E : Value → Shared → Prop} {h : Heap} {g : Array GenState} {d : Drawn} {t : Nat} {os : OsState}
/-- the bound ValueError.__init__, called: the args are laid anew -/
theorem call_mw {u e C t0 : Addr} {rest : List Value} {Q : Value → Shared → Prop} {nm q : Str} {N : Addr} {bs bm : List Value} {hdct : Bool} {sn : List Str} {sub : List Value} {ab : Bool} {col : Option Bool} {dd : Option Addr} {k0 k1 k2 k3 k5 : Option Value}
    (hC : h.get? C = some (excClassObj nm q C N bs bm hdct sn sub ab col dd k0 k1 k2 k3 k5 "ValueError.__new__")) (he : h.get? e = some ({ cls := .ref C, dict := none, data := .fields #[.ref t0, .none, .none, .none, .bool false, .none] } : Obj))
    (hu : h.get? u = some (kxs_mw "ValueError.__init__" e)) (hz : rest.length ≤ sizeLine)
    (hq : ∀ h' t1, (∀ b o, b ≠ e → h.get? b = some o → h'.get? b = some o) → h'.get? e = some ({ cls := .ref C, dict := none, data := .fields #[.ref t1, .none, .none, .none, .bool false, .none] } : Obj) → Q .none ⟨h', g, d, t, os⟩) :
    wpAny (model prog w) A (call (.ref u) rest) Q E ⟨h, g, d, t, os⟩ := by
  refine wpAny_call (codeAny_of_tree ?_)
  show wpAny _ A.in1 (callAny (.ref u) ⟨rest, []⟩) _ _ _
  simp only [callAny]
  refine wpAny_bind (wpAny_load hu ?_)
  simp only [kxs_mw, show (Value.type "method-wrapper" == Value.type "method" || Value.type "method-wrapper" == Value.type "builtin_function_or_method" || Value.type "method-wrapper" == Value.type "method-wrapper") = true by decide, if_true]
  refine KFB.if_so (by decide) ?_
  refine wpAny_bind (check_bound_init F.excBase_ValueError.toExcCallFacts hC he rfl ?_)
  refine wpAny_bind (wpAny_pure (wpAny_pure ?_))
  refine ⟨plainId_quiet F.excBase_ValueError.init.plain _, codeAny_builtin F.excBase_ValueError.initEntry ?_⟩
  exact exc_init_tree (cls := .ref C) (t0 := t0) (dv := none) (c2 := .none) (c3 := .none) (b4 := .bool false) he hz fun h' k e' t' => hq h' _ k e'
end
theorem inv_pin {X : Cx} {σ : L2.St} {H : Hp} {s : Shared} {u : Addr} {o : Obj} (I : Inv X [] σ H s) (hu : s.heap.get? u = some o) (hH : H u = none) (nl : u ≠ X.env.locals) (nf : u ∉ X.fs) (nc : ∀ v, o.data ≠ .cell v) : Inv X [(u, o)] σ H s := by
  refine ⟨I.ok, I.os, I.bare, I.base, I.loc, I.cell, I.free, I.freeC, fun p hp => ?_, I.hok, I.len⟩
  rcases List.mem_append.mp hp with hp | hp
  · exact I.pin p (List.mem_append.mpr (.inl hp))
  · have e : p = (u, o) := by simpa using hp
    subst e
    exact ⟨hu, hH, nl, nf, nc⟩
/-- the __init__ of the class at C: what the written part says -/
structure SupC (P : Program) (K : PySem.W.Frag) (mg : Str → Option Value) (C f cc c : Addr) (x qual : Str) (params : Arguments) (body : List Stmt) (scope : Scope) (fd : FuncData) : Prop where
  fdE : ∃ (dV kV doc pm : Value) (an : Option Addr) (ct : Value), fd = PySem.W.fnX x qual params body scope [("__class__", cc)] dV kV doc pm an (.ref c) ct
  lk : ∃ (oc : Value) (od : Option Addr) (osl : Array (Option Value)), K.lookup f = some ⟨oc, od, .func fd, osl⟩
  code : PySem.W.codeIn K (.ref c) qual = true
  file : ∃ (co : Obj) (vs : Array Value) (file : Str) (tf : Tok), K.lookup c = some co ∧ co.data = .fields vs ∧ vs[2]? = some (.str file tf) ∧ ((P.main.file : Str) == file) = true
  cell : ∃ o, K.lookup cc = some o ∧ o.data = .cell (some (.ref C))
  sup : PySem.W.ks_superIn K C C "__init__" = some (some (.builtin "ValueError.__init__"))
  nop : PySem.W.nsIn K cStatics "thirdparty.any" = some none
  sB : PySem.W.subIn K (.ref C) (.type "ValueError") = some true
  sC : PySem.W.mroIn K C (.ref C) = some true
  nS : mg "super" = none
  ex : OexC K C
section
variable {CX : CXT} {P : Program} {w : World} {K : PySem.W.Frag} {mg : Str → Option Value} {base : Heap} {N ps : List Str} {k : Nat} {f C cc c : Addr} {x qual : Str} {params : Arguments} {scope : Scope} {fd : FuncData} {sp : Sp} {rest : List Stmt} {e : Expr} {p0 p1 p2 p3 p4 : Pos} {ar : Arg}
theorem sup_ok (S : SupC P K mg C f cc c x qual params (.Expr (.Call (.Attribute (.Call (.Name "super" p0) [] [] p1) "__init__" p2) [e] [] p3) p4 :: rest) scope fd)
    (NS : NScope N ps ["__class__"] scope) (hks : scope.names.lookup ("super" : Str) = some .globalImplicit) (hp : (params.posonlyargs ++ params.args).head? = some ar) (hp0 : ps[0]? = some ar.arg)
    (htop : (P.main.scope.names.lookup ("super" : Str)).isSome = false) (len : ∀ vs H Q E, sp vs H Q E → vs.length = ps.length)
    (hbody : ∀ (A : Around) (outer : List Env) (s : Shared) (H : Hp) (vs : List V) (Q : VK) (E : XK), Room k (A.deeper (envF ⟨x, qual, params, [], scope, [("__class__", cc)], c⟩ f s.heap.objs.size)) → sp vs H Q E →
      ∃ te tr a, PE (ncx CX P w K mg base N ⟨x, qual, params, [], scope, [("__class__", cc)], c⟩ f A outer s H E) e te ∧ PSs (ncx CX P w K mg base N ⟨x, qual, params, [], scope, [("__class__", cc)], c⟩ f A outer s H E) rest tr ∧ vs[0]? = some (.ref a) ∧ H a = some (exo a C none) ∧
        te (startF N vs [some (.ref C)]) H fun y H1 => ([y] : List V).length ≤ 1 ∧ H1 a = some (exo a C none) ∧ tr { nx := fun _ H' => Q .non H', rt := Q } (startF N vs [some (.ref C)]) H1)
    (hms : ∀ (L : Addr) (env : Env), env = envF ⟨x, qual, params, [], scope, [("__class__", cc)], c⟩ f L → ∃ pl, eval (.Call (.Attribute (.Call (.Name "super" p0) [] [] p1) "__init__" p2) [e] [] p3) env = (do
      let ov ← attributeBase (.Call (.Name "super" p0) [] [] p1) "__init__" env (eval (.Call (.Name "super" p0) [] [] p1) env)
      standAt p2.atName
      let (f, first) ← holding [ov] (getMethod ov "__init__" pl)
      callWith p3 f first (backTo p3 (starEach [e] env)) []) )
    (hsw : ∀ L, swapsWith (.Call (.Attribute (.Call (.Name "super" p0) [] [] p1) "__init__" p2) [e] [] p3) none p4.line (envF ⟨x, qual, params, [], scope, [("__class__", cc)], c⟩ f L) = pure false)
    (hint : ∀ L, interactive (envF ⟨x, qual, params, [], scope, [("__class__", cc)], c⟩ f L) = false)
    (hse : ∀ (L : Addr) (env : Env), env = envF ⟨x, qual, params, [], scope, [("__class__", cc)], c⟩ f L → starEach [e] env = (false, eval e env) :: starEach [] env) :
    FnOk P w K mg base CX (k + 1) f fd ps sp := by
  refine ⟨len, fun A outer s H args us vs Q E hr e0 hb r hsp => ?_⟩
  obtain ⟨dV, kV, doc, pm, an, ct, rfl⟩ := S.fdE
  obtain ⟨oc, od, osl, lk⟩ := S.lk
  have hl := len _ _ _ _ hsp
  have KX : K.In s.heap := e0.mod.kin.keeps fun b o e => (e0.bs b o e).1
  have lim : s.heap.NoLimit := e0.mod.nolimit.keeps fun b o e => (e0.bs b o e).1
  have kH : ∀ {b : Addr} {o : Obj}, K.lookup b = some o → H b = none := fun {b o} z => (e0.bs b o (e0.mod.kin b o z)).2
  refine codeAny_call_function hr.depth (KX _ _ lk) rfl NS.co NS.gen rfl (PySem.W.codeRec_of KX S.code) (hb _ _ _ _ ?_)
  refine wpAny_newFunctionEnv NS.nocell (fun ⟨n, _⟩ hy => NS.par n (List.of_mem_zip hy).1) (fun h₁ hns hsb => ⟨lim.fresh _ hsb, ?_⟩) NS.kind
  show codeAny _ _ (.func _ (envF ⟨x, qual, params, [], scope, [("__class__", cc)], c⟩ f s.heap.objs.size)) _ _
  refine ks_codeAny_funcAt ?_
  have kp : ∀ b o, s.heap.get? b = some o → h₁.get? b = some o := fun b o e => hsb.extBut b o (Nat.ne_of_lt (Heap.lt_size e)) (Heap.get?_push_of_some _ e)
  obtain ⟨te, tr, a, de, dr, hva, haH, hq⟩ := hbody A outer s H vs Q E (hr.deeper _) hsp
  obtain ⟨oc2, lcc, dcc⟩ := S.cell
  have CA : CellsAt [("__class__", cc)] ["__class__"] [some (V.ref C)] s.heap H := by
    refine ⟨rfl, fun y z hy => ?_, fun y z d h1 h2 => ?_, fun i y hi => ?_⟩
    · by_cases e : y = "__class__"
      · subst e
        have : cc = z := by simpa [List.lookup] using hy
        subst this
        exact ⟨kH lcc, _, oc2, KX _ _ lcc, dcc⟩
      · rw [List.lookup_cons, beq_false_of_ne e] at hy; cases hy
    · by_cases e1 : y = "__class__"
      · by_cases e2 : z = "__class__"
        · rw [e1, e2]
        · rw [List.lookup_cons, beq_false_of_ne e2] at h2; cases h2
      · rw [List.lookup_cons, beq_false_of_ne e1] at h1; cases h1
    · cases i with
      | succ i => simp at hi
      | zero =>
        have : y = "__class__" := by simpa using hi.symm
        subst this
        exact ⟨cc, by simp [List.lookup], fun v hv => ⟨.ref C, by cases (Option.some.inj (Option.some.inj hv)); rfl, oc2, KX _ _ lcc, dcc⟩⟩
  have I : Inv (ncx CX P w K mg base N ⟨x, qual, params, [], scope, [("__class__", cc)], c⟩ f A outer s H E) [] (startF N vs [some (V.ref C)]) H { s with heap := h₁, toks := s.toks + (ps.zip us).length } := inv_startN (F := ⟨x, qual, params, [], scope, [("__class__", cc)], c⟩) NS hr.hd e0 hl r CA hns kp
  have hva0 : (startF N vs [some (V.ref C)])[0]? = some (some (V.ref a)) := by
    unfold startF
    have h0 : 0 < vs.length := (List.getElem?_eq_some_iff.mp hva).1
    rw [List.getElem?_append_left (by simpa using h0), List.getElem?_map, hva]; rfl
  obtain ⟨pl, hm⟩ := hms s.heap.objs.size _ rfl
  have hse := hse s.heap.objs.size _ rfl
  obtain ⟨nm, q, N0, bs, bm, sn, sub, ab, col, dd, k0, k1, k2, k3, k5, hC, hbm⟩ := S.ex.cls
  obtain ⟨co, cvs, file, tf, lc, dc, hv2, hfile⟩ := S.file
  have K1 : K.In h₁ := KX.keeps kp
  have e1 : H a = some (exo a C none) := haH
  obtain ⟨t1, hoa⟩ := exo_at I.hok e1
  have hkc : scope.names.lookup ("__class__" : Str) = some .free := NS.frk _ (by simp)
  have hka : scope.names.lookup ar.arg = some .local := NS.par _ (List.mem_of_getElem? hp0)
  refine ks_wpAt_execs_cons (ks_wpAt_Expr_any (ks_wpAt_MethodCall ?_ hm) (hint _) (hsw _))
  refine ks_wpAt_super_base (of := ⟨oc, od, .func (PySem.W.fnX x qual params (.Expr (.Call (.Attribute (.Call (.Name "super" p0) [] [] p1) "__init__" p2) [e] [] p3) p4 :: rest) scope [("__class__", cc)] dV kV doc pm an (.ref c) ct), osl⟩)
    (env := envF ⟨x, qual, params, [], scope, [("__class__", cc)], c⟩ f s.heap.objs.size) hks hkc (by decide +kernel) rfl (K1 _ _ lk) rfl hp rfl (K1 _ _ lc) dc hv2 hfile htop ?_
  obtain ⟨mb, hb1, hb2⟩ := I.mod.blt
  refine PySem.W.ks_loadName_global NS.kind hks (PySem.Calls.loadGlobal_builtin (env := envF ⟨x, qual, params, [], scope, [("__class__", cc)], c⟩ f s.heap.objs.size) (I.mod.glob.keeps I.bk) S.nS (hb1.keeps I.bk) ((hb2 _ (by decide)).trans (by decide +kernel)) ⟨rfl, ?_⟩)
  refine wpAny_loadName_free NS.kind hkc rfl ⟨oc2, K1 _ _ lcc, dcc⟩ ?_
  obtain ⟨m, hnm, hloc⟩ := I.loc
  have hN0 : N[0]? = some ar.arg := by
    have hpre := NS.pre
    have h0 : 0 < ps.length := (List.getElem?_eq_some_iff.mp hp0).1
    have z : (ps ++ [("__class__" : Str)])[0]? = some ar.arg := by rw [List.getElem?_append_left h0]; exact hp0
    rw [← hpre, List.getElem?_take_of_lt (by omega)] at z
    exact z
  obtain ⟨u, ru, hlk⟩ := hloc 0 ar.arg (.ref a) hN0 hva0 (.inl hka)
  obtain rfl : u = Value.ref a := ru
  have hma : m ar.arg = some (.ref a) := by
    rcases hlk with ⟨_, z⟩ | ⟨z, _⟩
    · exact z
    · have z2 : scope.names.lookup ar.arg = some .cell ∨ scope.names.lookup ar.arg = some .free := z
      rw [hka] at z2
      rcases z2 with z2 | z2 <;> cases z2
  refine wpAny_loadName_local NS.kind hka hnm hma ?_
  refine ks_wpAny_isType_cls (K1 _ _ hC) rfl ⟨rfl, ?_⟩
  refine ks_wpAny_call_super (K1 _ _ hC) rfl hoa rfl (fun c e => by cases e) (PySem.W.looks_mroIn K1 S.sC) (fun h₂ hso k2 => ?_)
  · -- the bound __init__
    have I2 := I.kept (t' := s.toks + (ps.zip us).length) k2
    have K2 : K.In h₂ := I2.kIn
    have hcl : PySem.W.clsIn K C = some { name := nm, bases := bs, mro := .ref C :: bm, ns := N0, qualname := q, hasDict := true, slotNames := sn, subclasses := sub, abstract := ab, collection := col, hasDel := false } := by unfold PySem.W.clsIn; rw [hC] <;> rfl
    have hsup := S.sup
    unfold PySem.W.ks_superIn at hsup
    rw [hcl] at hsup
    have IA : PySem.W.InstAt h₂ a ({ cls := .ref C, dict := none, data := .fields #[.ref t1, .none, .none, .none, .bool false, .none] } : Obj) C none := ⟨k2 _ _ hoa, rfl, rfl, trivial⟩
    refine PySem.W.kxs_getMethod PySem.W.kxs_ValueError hso (PySem.W.looks_opaque K2 S.nop) (l₀ := .ref C :: bm) (fun A Q E s k q => wpAny_bind ((PySem.W.looks_clsIn K2 hcl) A _ E s k (wpAny_pure q))) rfl K2 hsup (IA.type.andThen (PySem.W.looks_subIn K2 S.sB)) (PySem.W.ks_ne K2 IA hcl) (by decide +kernel) ?_
    have I3 := I2.kept (t' := s.toks + (ps.zip us).length + 1) (h' := h₂.push (PySem.W.kxs_mw "ValueError.__init__" a)) (fun b o e => Heap.get?_push_of_some _ e)
    have hu : (h₂.push (PySem.W.kxs_mw "ValueError.__init__" a)).get? h₂.objs.size = some (PySem.W.kxs_mw "ValueError.__init__" a) := Heap.get?_push_at rfl rfl
    have Ip := inv_pin I3 hu (I2.hok.fresh (Nat.le_refl _)) (Nat.ne_of_gt I2.lt) (I2.nofs (Nat.le_refl _)) (fun v z => by cases z)
    refine PySem.W.kxs_callWith (i := "ValueError.__init__") (x := a) (by rw [hse]; rfl) ?_
    rw [hse]
    refine PySem.Calls.evalArgs_plain ?_
    have pa : PA (ncx CX P w K mg base N ⟨x, qual, params, [], scope, [("__class__", cc)], c⟩ f A outer s H E) [e] (tCons te tNil) := pa_cons (hs := hse) de pa_nil
    have run := pa.run p3 [(h₂.objs.size, PySem.W.kxs_mw "ValueError.__init__" a)] _ _ H (fun ws H1 => ws.length ≤ 1 ∧ H1 a = some (exo a C none) ∧ tr { nx := fun _ H' => Q .non H', rt := Q } (startF N vs [some (.ref C)]) H1) Ip hq
    have hse2 := hse
    refine thn (Q := AP (ncx CX P w K mg base N ⟨x, qual, params, [], scope, [("__class__", cc)], c⟩ f A outer s H E) [(h₂.objs.size, PySem.W.kxs_mw "ValueError.__init__" a)] (startF N vs [some (V.ref C)]) (fun ws H1 => ws.length ≤ 1 ∧ H1 a = some (exo a C none) ∧ tr { nx := fun _ H' => Q .non H', rt := Q } (startF N vs [some (.ref C)]) H1)) ?_ (fun us' s2 z => ?_)
    · have z := run
      rw [show (ncx CX P w K mg base N ⟨x, qual, params, [], scope, [("__class__", cc)], c⟩ f A outer s H E).env = envF ⟨x, qual, params, [], scope, [("__class__", cc)], c⟩ f s.heap.objs.size from rfl, hse] at z
      exact z
    obtain ⟨ws, H2, J, rw', l1, ha2, q2⟩ := z
    obtain ⟨hus, _⟩ := J.pin (h₂.objs.size, PySem.W.kxs_mw "ValueError.__init__" a) (List.mem_append.mpr (.inr (by simp)))
    refine ⟨hus, ?_⟩
    obtain ⟨t2, hoa2⟩ := exo_at J.hok ha2
    have hlen : us'.length ≤ sizeLine := by
      have := rw'.length
      rw [sizeLine_eq]; omega
    have KJ := J.kIn
    obtain ⟨hp2, g2, d2, tk2, os2⟩ := s2
    refine call_mw (KJ _ _ hC) hoa2 hus (by simpa using hlen) fun h' t1 k' hx => ?_
    have J2 := J.write (t' := tk2) (x := a) (e := a) (o := exo a C none) (by rw [ha2]; exact True.intro) (.inl rfl) k' ⟨_, hx⟩ (exo_ok hx)
    have eu : upd H2 a (exo a C none) = H2 := by
      funext b
      by_cases hb : b = a
      · rw [hb, upd_same, ha2]
      · rw [upd_ne hb]
    rw [eu] at J2
    refine wpAt_of_wpAny ?_
    refine wpAny_mono (dr.run _ _ _ _ _ J2 q2) (fun fl s' hs => ?_) fun e s' hs => hs
    have fin : ∀ {σ' : L2.St} {H' : Hp} {v : V} {u : Value}, Inv (ncx CX P w K mg base N ⟨x, qual, params, [], scope, [("__class__", cc)], c⟩ f A outer s H E) [(h₂.objs.size, PySem.W.kxs_mw "ValueError.__init__" a)] σ' H' s' → L2.RelV v u → Q v H' → CE outer P w H s Q u s' :=
      fun {σ' H' v u} J rv q => ⟨v, H', J.os, J.bare, J.base, J.hok, rv, q⟩
    cases fl with
    | ret u =>
      obtain ⟨v, σ', H', J, rv, q⟩ := hs
      exact fin J rv q
    | next =>
      obtain ⟨σ', H', J, q⟩ := hs
      exact fin (v := V.non) (u := Value.none) J rfl q
    | brk =>
      obtain ⟨_, _, _, q⟩ := hs
      exact False.elim q
    | cont =>
      obtain ⟨_, _, _, q⟩ := hs
      exact False.elim q
end
end Cm
namespace Cm
open PySem PySem.Spec PyProof.Rows
open L2 hiding Same
/-! ### {x!r}, whatever is under way -/
section
open Sem (wp)
theorem list_head_any {M : Model} {A : Around} {E : Value → Shared → Prop} {s : Shared} {Q : Fin → Shared → Prop} {a : Addr} {o : Obj} {x : Value} {l : List Value} {n} {b : Nat}
    (hget : s.heap.get? a = some o) (hd : o.data = .seq (x :: l).toArray n)
    (h2 : ∀ u tk, Q (.done (.ret (.str "[...]" u))) { s with toks := tk })
    (h : wpAny M A (do again (.builtin "list.__repr__.loop" ⟨[.ref a, rawInt 0, ← newList [], rawInt b], []⟩)) Q E s) : wpAny M A (Builtin.listReprAt b ⟨[.ref a], []⟩) Q E s := by
  intro Γ p hΓ
  have h1 := h Γ p hΓ
  have h3 : wpAny M A (do rule "list.__repr__.in-itself"; retStr ("[...]" : Str)) Q E s := by
    refine wpAny_bind (wpAny_rule ?_)
    refine wpAny_bind (wpAny_mkStr (wpAny_pure ?_) (by decide +kernel))
    exact h2 _ _
  have h4 := h3 Γ p hΓ
  unfold Builtin.listReprAt
  simp [slotArgs, Builtin.List.listItems, seqItems?, Sem.wp_load_of (h := hget), hd, PySem.stack]
  show wp M Γ (if (Γ.below.any _) = true then _ else _) _ _ p s
  split
  · exact h4
  · exact h1
end
section
variable {prog : Program} {w : World} {A : Around} {E : Value → Shared → Prop} {s : Shared} {a : Addr} {oa : Obj} {x : Value} {l : List Value} {na : Nat} {ts : List Str}
theorem call_list_any {Q : Value → Shared → Prop} (hTy : s.TypeIs (.ref a) "list")
    (ha : s.heap.get? a = some oa) (hda : oa.data = .seq (x :: l).toArray na) (hlen : ts.length = (x :: l).toArray.size)
    (hT : ∀ (i : Nat) (y : Value), (x :: l).toArray[i]? = some y → ∃ t, ts[i]? = some t ∧ ReprIs prog w y t)
    (hQ : ∀ h' m u tk, m.length ≤ (listText ts).length + 5 → (∀ b o, s.heap.get? b = some o → h'.get? b = some o) → Q (.str m u) { s with heap := h', toks := tk })
    (hsz : (listText ts).length ≤ sizeLine) :
    wpAny (model prog w) A (call (.builtin "list.__repr__") [.ref a]) Q E s := by
  refine wpAny_call (codeAny_call_builtin F.slot_list_repr.plain F.entry_list_repr (F.slot_list_repr.check _ _ _ _ _ _ _ _ hTy (F.args_list_repr_1 _) ?_))
  refine list_head_any (A := A.in1) ha hda (fun u tk => hQ s.heap _ _ _ (Nat.le_trans (by decide +kernel) (Nat.le_add_left _ _)) fun _ _ z => z) ?_
  refine wpAny_bind (m := newList []) (wpAny_newObj_type ?_)
  refine wpAny_pure ⟨F.quiet_list_repr_loop _, ?_⟩
  refine codeAny_list_repr_start (P := s.heap.objs.size) (Nat.ne_of_lt (Heap.lt_size ha)) hlen hT (Heap.get?_push_of_some _ ha) hda (Heap.get?_push_size _ rfl) (fun h' u tk hk => ?_) (by omega)
  exact hQ h' _ u tk (Nat.le_add_right _ _) fun b o e => hk b o (Nat.ne_of_lt (Heap.lt_size e)) (Heap.get?_push_of_some _ e)
end
/-! ### odd values -/
inductive OdK
  | str (z : Str) | non | zero | tru | tup | lst
def OdAt (K : PySem.W.Frag) (H : Hp) (v : V) : OdK → Prop
  | .str z => v = .str z ∧ z.length ≤ 1000 ∧ ∀ c ∈ z.cps.toList, c < 128
  | .non => v = .non
  | .zero => v = .int 0
  | .tru => v = .bl true
  | .tup => ∃ a, v = .ref a ∧ H a = some (.tup [.str "asks"])
  | .lst => ∃ a, v = .ref a ∧ H a = some (.lst [.str "free"])
def tFmtO (K : PySem.W.Frag) (te : TE) : TE := fun σ H Q => te σ H fun x H1 => (∃ k, OdAt K H1 x k) ∧ ∀ m : Str, m.length ≤ 11000 → Q (.str m) H1
theorem small {n : Nat} (h : n ≤ 11000) : n ≤ sizeLine := Nat.le_trans h (by decide)
theorem pe_fmtRO {X : Cx} {e : Expr} {te : TE} {pos : Pos} {k : Nat} (hr : Room k X.A) (he : PE X e te) : PE X (.FormattedValue e 114 none pos) (tFmtO X.K te) := by
  refine ⟨fun pins s σ H Q I h => ?_⟩
  refine wpAny_FormattedValue_repr (thn (he.run pins s σ H _ I h) fun v s1 hv => ?_)
  obtain ⟨x, H1, I1, r1, ⟨k, ho⟩, q⟩ := hv
  have hu := hr.units
  have fin : ∀ (m : Str) (u : Tok) (s2 : Shared), m.length ≤ 11000 → Inv X pins σ H1 s2 → wpAny (model X.prog X.w) X.A (formatField (.str m u) Str.empty) (EP X pins σ Q) X.xe s2 := fun m u s2 hm J =>
    wpAny_formatField_str ⟨.str m, H1, J, ⟨_, rfl⟩, q m hm⟩ ⟨.str m, H1, J.tok _, ⟨_, rfl⟩, q m hm⟩ (small hm)
  cases k with
  | str z =>
    obtain ⟨rfl, hz, hc⟩ := ho
    obtain ⟨t, rfl⟩ := r1
    have h1 := StrLaws.reprText_len z fun c h => Nat.lt_of_lt_of_le (hc c h) (by decide)
    exact pyReprObj_str (fin _ _ _ (by omega) (I1.tok _)) (small (by omega))
  | non =>
    obtain rfl : x = .non := ho
    obtain rfl : v = Value.none := r1
    exact pyReprObj_none (fin _ _ _ (by decide +kernel) (I1.tok _))
  | zero =>
    obtain rfl : x = .int 0 := ho
    obtain ⟨t, rfl⟩ := r1
    exact pyReprObj_int (by decide +kernel) (fin _ _ _ (by decide +kernel) (I1.tok _))
  | tru =>
    obtain rfl : x = .bl true := ho
    obtain rfl : v = Value.bool true := r1
    exact pyReprObj_bool (fin _ _ _ (by decide +kernel) (I1.tok _))
  | tup =>
    obtain ⟨a, rfl, ha⟩ := ho
    obtain rfl : v = Value.ref a := r1
    obtain ⟨its, rv, ⟨o, ho, hcl, n, hd⟩, _⟩ := I1.tuple (SqT.of ha)
    have rv2 : Vals ([("asks" : Str)].map V.str) its := rv
    refine wpAny_pyReprObj_slot (by omega) ⟨o, ho, hcl⟩ F.slot_tuple_repr (fmt_tuple_repr (ts := [("asks" : Str)].map reprText) ho hcl hd (repr_all rv2 fun y hy => ?_) (by decide +kernel) fun m u tk hm => ⟨m, u, rfl, fin m u _ ?_ (I1.tok _)⟩)
    · have e : y = "asks" := by simpa using hy
      rw [e]; decide +kernel
    · have : (tupleText ([("asks" : Str)].map reprText)).length ≤ 100 := by decide +kernel
      omega
  | lst =>
    obtain ⟨a, rfl, ha⟩ := ho
    obtain rfl : v = Value.ref a := r1
    obtain ⟨its, rv, ⟨o, n, ho, hcl, _, hd⟩, _⟩ := I1.list (SqL.of ha)
    obtain ⟨u1, rfl, t, rfl⟩ := vals1 rv
    refine wpAny_pyReprObj_slot (by omega) ⟨o, ho, hcl⟩ F.slot_list_repr.toG (call_list_any (ts := [("free" : Str)].map reprText) ⟨o, ho, hcl⟩ ho hd rfl (fun i y hy => ?_) (fun h' m u tk hm hk => ⟨m, u, rfl, fin m u _ ?_ (I1.kept hk)⟩) (by decide +kernel))
    · cases i with
      | zero =>
        have e : Value.str "free" t = y := by simpa using hy
        subst e
        exact ⟨_, rfl, ReprIs.str "free" t (by decide +kernel)⟩
      | succ i => simp at hy
    · have : (listText ([("free" : Str)].map reprText)).length ≤ 100 := by decide +kernel
      omega
end Cm
namespace Cm
open PySem PySem.Spec PyProof.Rows
open L2 hiding Same
open NdefX
/-! ### what the written part says of an own error's class and of its __init__ -/
def oexB (K : PySem.W.Frag) (C : Addr) : Bool := match K.lookup C with
  | some ⟨.type "type", _, .cls cd, sl⟩ => (match cd.mro, sl.toList with
    | .ref C' :: bm, [_, _, _, _, some (.builtin n), _] => C' == C && n == "ValueError.__new__" && !cd.hasDel && cd.hasDict && PySem.HandSPX.refsVE bm
    | _, _ => false)
  | _ => false
theorem oexB_ok {K : PySem.W.Frag} {C : Addr} (q : oexB K C = true) : ∃ nm q N bs bm sn sub ab col dd k0 k1 k2 k3 k5, K.lookup C = some (excClassObj nm q C N bs bm true sn sub ab col dd k0 k1 k2 k3 k5 "ValueError.__new__") ∧ PySem.HandSPX.refsVE bm = true := by
  unfold oexB at q
  split at q
  · rename_i dd cd sl ho
    split at q
    · rename_i C' bm k0 k1 k2 k3 n k5 hm hs
      simp only [Bool.and_eq_true, beq_iff_eq, Bool.not_eq_true'] at q
      obtain ⟨⟨⟨⟨rfl, rfl⟩, hdel⟩, hd⟩, ht⟩ := q
      obtain ⟨nm, bs, mro, ns, qn, hd', sn, sub, ab, col, del⟩ := cd
      dsimp only at hm hdel hd
      subst hm hdel hd
      have hsl : sl = #[k0, k1, k2, k3, some (.builtin "ValueError.__new__"), k5] := by
        obtain ⟨l⟩ := sl
        simp only at hs
        rw [hs]
      subst hsl
      exact ⟨nm, qn, ns, bs, bm, sn, sub, ab, col, dd, k0, k1, k2, k3, k5, ho, ht⟩
    · cases q
  · cases q
abbrev FnWS : Type := Option (Str × Str × Arguments × FuncBody × Scope × Addr × List Str × Addr)
def fnWS (K : PySem.W.Frag) (f : Addr) : FnWS := match K.lookup f with
  | some ⟨_, _, .func fd, _⟩ => some (fd.name, fd.qualname, fd.params, fd.body, fd.scope, fd.globals, fd.closure.map (·.1), fd.builtins)
  | _ => none
def codeB (file : Str) (K : PySem.W.Frag) (c : Addr) : Bool := match K.lookup c with
  | some o => (match o.data with
    | .fields vs => (match (vs[2]? : Option Value) with
      | some (Value.str f _) => file == f
      | _ => false)
    | _ => false)
  | _ => false
def cellB (K : PySem.W.Frag) (C cc : Addr) : Bool := match K.lookup cc with
  | some o => (match o.data with
    | .cell (some (.ref D)) => D == C
    | _ => false)
  | _ => false
def supB (file : Str) (K : PySem.W.Frag) (C f : Addr) (qual : Str) : Bool := match K.lookup f with
  | some ⟨_, _, .func fd, _⟩ => (match fd.code with
    | .ref c => PySem.W.codeIn K (.ref c) qual && codeB file K c
    | _ => false) && (match fd.closure with
    | [(_, cc)] => cellB K C cc
    | _ => false)
  | _ => false
theorem codeB_ok {file : Str} {K : PySem.W.Frag} {c : Addr} (h : codeB file K c = true) : ∃ (co : Obj) (vs : Array Value) (f : Str) (tf : Tok), K.lookup c = some co ∧ co.data = .fields vs ∧ vs[2]? = some (.str f tf) ∧ (file == f) = true := by
  unfold codeB at h
  split at h
  · rename_i o ho
    split at h
    · rename_i vs hv
      split at h
      · rename_i f t ht
        exact ⟨o, vs, f, t, ho, hv, ht, h⟩
      · cases h
    · cases h
  · cases h
theorem cellB_ok {K : PySem.W.Frag} {C cc : Addr} (h : cellB K C cc = true) : ∃ o, K.lookup cc = some o ∧ o.data = .cell (some (.ref C)) := by
  unfold cellB at h
  split at h
  · rename_i o ho
    split at h
    · rename_i D hD
      have e : D = C := beq_iff_eq.mp h
      subst e
      exact ⟨o, ho, hD⟩
    · cases h
  · cases h
/-- the facts of one own error over ValueError: its class, its __init__ -/
structure ExB (K : PySem.W.Frag) (C f : Addr) : Prop where
  o : oexB K C = true
  sa : PySem.W.findIn K (.ref C) "__setattr__" = some (some (.builtin "object.__setattr__"))
  exC : PySem.W.subIn K (.ref C) (.type "BaseException") = some true
  tyC : PySem.W.typeIn K (.ref C) = some (.type "type")
  kC : PySem.W.keepIn K (.ref C) = true
  iC : PySem.W.findIn K (.ref C) "__init__" = some (some (.ref f))
  tI : PySem.W.typeIn K (.ref f) = some (.type "function")
  sup : PySem.W.ks_superIn K C C "__init__" = some (some (.builtin "ValueError.__init__"))
  nop : PySem.W.nsIn K cStatics "thirdparty.any" = some none
  sB : PySem.W.subIn K (.ref C) (.type "ValueError") = some true
  sC : PySem.W.mroIn K C (.ref C) = some true
  xf : xfB K C = true
  em : PySem.W.exmOne K (.ref C) (.ref C) = some true
  cc : PySem.W.findIn K (.ref C) "__class__" = some (some (.builtin "object.__class__"))
  mo : PySem.W.mroIn K C (.type "object") = some true
def exB (K : PySem.W.Frag) (C f : Addr) : List Bool := [oexB K C,
  decide (PySem.W.findIn K (.ref C) "__setattr__" = some (some (.builtin "object.__setattr__"))),
  decide (PySem.W.subIn K (.ref C) (.type "BaseException") = some true),
  decide (PySem.W.typeIn K (.ref C) = some (.type "type")),
  PySem.W.keepIn K (.ref C),
  decide (PySem.W.findIn K (.ref C) "__init__" = some (some (.ref f))),
  decide (PySem.W.typeIn K (.ref f) = some (.type "function")),
  decide (PySem.W.ks_superIn K C C "__init__" = some (some (.builtin "ValueError.__init__"))),
  decide (PySem.W.nsIn K cStatics "thirdparty.any" = some none),
  decide (PySem.W.subIn K (.ref C) (.type "ValueError") = some true),
  decide (PySem.W.mroIn K C (.ref C) = some true),
  xfB K C,
  decide (PySem.W.exmOne K (.ref C) (.ref C) = some true),
  decide (PySem.W.findIn K (.ref C) "__class__" = some (some (.builtin "object.__class__"))),
  decide (PySem.W.mroIn K C (.type "object") = some true)]
theorem exB_ok {K : PySem.W.Frag} {C f : Addr} (h : (exB K C f).all id = true) : ExB K C f := by
  have g : ∀ (i : Nat) {b : Bool}, (exB K C f)[i]? = some b → b = true := fun i b e => List.all_eq_true.mp h b (List.mem_of_getElem? e)
  exact ⟨g 0 rfl, of_decide_eq_true (g 1 rfl), of_decide_eq_true (g 2 rfl), of_decide_eq_true (g 3 rfl), g 4 rfl, of_decide_eq_true (g 5 rfl), of_decide_eq_true (g 6 rfl), of_decide_eq_true (g 7 rfl), of_decide_eq_true (g 8 rfl), of_decide_eq_true (g 9 rfl),
    of_decide_eq_true (g 10 rfl), g 11 rfl, of_decide_eq_true (g 12 rfl), of_decide_eq_true (g 13 rfl), of_decide_eq_true (g 14 rfl)⟩
theorem ExB.oex {K : PySem.W.Frag} {C f : Addr} (h : ExB K C f) : OexC K C := ⟨oexB_ok h.o, h.sa, h.exC, h.tyC, h.kC⟩
/-- the def of the __init__ -/
theorem supC_of {P : Program} {K : PySem.W.Frag} {mg : Str → Option Value} {C f : Addr} {x qual : Str} {params : Arguments} {body : List Stmt} {scope : Scope} (X : ExB K C f) (w : fnWS K f = some (x, qual, params, FuncBody.stmts body, scope, mainGlobals, [("__class__" : Str)], builtinsNs))
    (b : supB P.main.file K C f qual = true) (nS : mg "super" = none) : ∃ (cc c : Addr) (fd : FuncData), SupC P K mg C f cc c x qual params body scope fd := by
  unfold fnWS at w
  unfold supB at b
  cases q : K.lookup f with
  | none => rw [q] at b; cases b
  | some o =>
    obtain ⟨oc, od, dt, osl⟩ := o
    rw [q] at w b
    cases dt with
    | func fd =>
      obtain ⟨n1, n2, n3, n4, n5, n6, n7, n8, n9, n10, n11, n12, n13, n14, n15⟩ := fd
      have e2 : (some (n1, n2, n3, n4, n5, n6, n7.map (·.1), n15) : FnWS) = some (x, qual, params, FuncBody.stmts body, scope, mainGlobals, [("__class__" : Str)], builtinsNs) := w
      simp only [Option.some.injEq, Prod.mk.injEq] at e2
      obtain ⟨h1, h2, h3, h4, h5, h6, h7, h8⟩ := e2
      subst h1 h2 h3 h4 h5 h6 h8
      dsimp only at b
      obtain ⟨b3, b4⟩ := Bool.and_eq_true_iff.mp b
      cases n7 with
      | nil => cases b4
      | cons z n7 =>
        cases n7 with
        | cons z2 n7 => cases b4
        | nil =>
          obtain ⟨y, cc⟩ := z
          have ey : y = "__class__" := by simpa using h7
          subst ey
          cases n13 with
          | ref c =>
            obtain ⟨b5, b6⟩ := Bool.and_eq_true_iff.mp b3
            exact ⟨cc, c, _, ⟨⟨n8, n9, n10, n11, n12, n14, rfl⟩, ⟨oc, od, osl, q⟩, b5, codeB_ok b6, cellB_ok b4, X.sup, X.nop, X.sB, X.sC, nS, X.oex⟩⟩
          | _ => cases b3
    | _ => cases b
end Cm
namespace PySem.W
open PySem PySem.Spec PySem.Calls PyProof.Rows
section
variable {prog : Program} {w : World} {A : Around} {E : Value → Shared → Prop} {s : Shared} {K : Frag} {x D : Addr} {ox : Obj}
theorem findObj_dataO {C : Addr} {od : Option Obj} {name : Str} {a g : Value} (hc : (clsIn K C).isSome = true) (ha : findIn K (.ref C) name = some (some a)) (hg : specialIn K a "__get__" = some (some g)) (ht : takesIn K a = some true) : findObj K C od name = some (.bind g a) := by
  obtain ⟨cd, hc⟩ := Option.isSome_iff_exists.mp hc
  unfold findObj
  rw [hc, Option.bind_some, ha, Option.bind_some]
  simp [hg, ht]
theorem kin_classO {od : Option Obj} {Q : Option Value → Shared → Prop} (hga : findIn K (.ref D) "__getattribute__" = some (some (.builtin "BaseException.__getattribute__"))) (hgt : findIn K (.ref D) "__getattr__" = some none) (hsub : subIn K (.ref D) (.type "BaseException") = some true)
    (hdct : hasDictIn K D = true) (ha : findIn K (.ref D) "__class__" = some (some (.builtin "object.__class__")))
    (hn : specialIn K (.builtin "object.__class__") "__get__" = some (some (.builtin "getset_descriptor.__get__"))) (htk : takesIn K (.builtin "object.__class__") = some true) (hm : mroIn K D (.type "object") = some true)
    (X : K.In s.heap) (I : InstAt s.heap x ox D od) (h : Q (some (.ref D)) { s with toks := s.toks + 1 }) : wpAny (model prog w) A (getAttr? (.ref x) "__class__") Q E s := by
  have hf : findObj K D od "__class__" = some (.bind (.builtin "getset_descriptor.__get__") (.builtin "object.__class__")) := findObj_dataO (by obtain ⟨cd, hc, _⟩ := any_some hdct; rw [hc]; rfl) ha hn htk
  obtain ⟨hp, g, d, t, os⟩ := s
  have L0 := I.type (M := model prog w)
  have L1 := looks_findIn (M := model prog w) X hga
  have L2 := looks_findIn (M := model prog w) X hgt
  have L3 := looks_find (M := model prog w) X I hf
  have sub : Looks (model prog w) hp (isInstance (.ref x) (.type "BaseException")) true := L0.andThen (looks_subIn X hsub)
  have hx0 : (false && onTheHeap (Value.builtin "BaseException.__getattribute__")) = false := rfl
  have hx2 : (Value.builtin "BaseException.__getattribute__" == Value.builtin "object.__getattribute__") = false := by decide +kernel
  have hx1 : (onTheHeap (Value.ref D) && Value.builtin "BaseException.__getattribute__" == Value.builtin "object.__getattribute__") = false := by rw [hx2]; rfl
  unfold getAttr? getAttrBy? getAttrBy
  refine wpAny_bind (wpAny_mkText (wpAny_bind (wpAny_attempt (wpAny_holding (wpAny_bind (L0.at (wpAny_bind (L1.at ?_))))))))
  show wpAny _ _ (if (onTheHeap (Value.ref D) && Value.builtin "BaseException.__getattribute__" == Value.builtin "object.__getattribute__") = true then _ else _) _ _ _
  rw [hx1, if_neg Bool.false_ne_true]
  unfold getAttrByItsOwn hookBefore
  refine wpAny_bind ?_
  rw [if_pos (show onTheHeap (Value.ref D) = true from rfl)]
  refine L2.at ?_
  refine wpAny_bind (wpAny_attempt (wpAny_holding ?_))
  unfold callGetattribute
  rw [hx0, if_neg Bool.false_ne_true]
  unfold boundAndCalled
  rw [PySem.F.excAttr_ValueError.ga.bind (.ref x)]
  refine wpAny_bind (wpAny_pure ?_)
  show wpAny _ _ (call (.builtin "BaseException.__getattribute__") [.ref x, .str "__class__" t]) _ _ _
  refine wpAny_call (codeAny_call_builtin PySem.F.excAttr_ValueError.ga.plain PySem.F.entry_bexc_ga ?_)
  refine @check_slot (model prog w) _ _ ⟨hp, g, d, t + 1, os⟩ "BaseException.__getattribute__" "BaseException" "__getattribute__" (.ref x) [.str "__class__" t] [] _ (by decide +kernel) (by decide +kernel) sub (PySem.F.args_bexc_ga (.ref x) (.str "__class__" t)) ?_
  unfold Builtin.«object.__getattribute__»
  refine wpAny_bind (wpAny_of_eq (a := ((Value.ref x : Value), [Value.str "__class__" t])) (by first | rfl | (simp only [slotArgs]; rfl)) ?_)
  refine wpAny_bind (wpAny_pure (wpAny_bind (L0.at (wpAny_bind (L3.at ?_)))))
  show wpAny _ _ (holding [Value.builtin "object.__class__"] (call (.builtin "getset_descriptor.__get__") [.builtin "object.__class__", .ref x, .ref D]) >>= ret) _ _ _
  refine wpAny_bind (wpAny_holding (wpAny_call (class_get (s := ⟨hp, g, d, t + 1, os⟩) (ox := ox) (od := od) X I hm ?_)))
  refine wpAny_pure ?_
  show wpAny _ _ (handedOut (.ref D)) _ _ _
  rw [handedOut_of (v := .ref D) rfl]
  first
    | exact wpAny_pure (wpAny_pure h)
    | exact wpAny_pure h
    | exact wpAny_pure (wpAny_bind (wpAny_pure (wpAny_pure h)))
theorem kitx_excO {od : Option Obj} (hga : findIn K (.ref D) "__getattribute__" = some (some (.builtin "BaseException.__getattribute__"))) (hgt : findIn K (.ref D) "__getattr__" = some none) (hsub : subIn K (.ref D) (.type "BaseException") = some true) (hdct : hasDictIn K D = true) (ha : findIn K (.ref D) "__class__" = some (some (.builtin "object.__class__")))
    (hn : specialIn K (.builtin "object.__class__") "__get__" = some (some (.builtin "getset_descriptor.__get__"))) (htk : takesIn K (.builtin "object.__class__") = some true) (hm : mroIn K D (.type "object") = some true) :
    KitX K (.ref x) (.ref D) (fun h => InstAt h x ox D od) where
  ty := fun _ _ _ I => I.type
  it := fun _ _ X _ => by
    obtain ⟨cdD, hcD, _⟩ := any_some hdct
    unfold clsIn at hcD
    split at hcD
    · rename_i c' d' cd' sl' ho
      intro A' Q' E' s' k q
      unfold isType loadHead
      exact wpAny_bind (wpAny_loadPart (k _ _ (X _ _ ho)) (wpAny_pure q))
    · cases hcD
  ne := fun h tp dd its n sl X htp => by
    obtain ⟨cdD, hcD, _⟩ := any_some hdct
    refine Bool.eq_false_iff.mpr fun q => ?_
    have e : D = tp := Value.ref.inj (beq_iff_eq.mp q)
    subst e
    unfold clsIn at hcD
    split at hcD
    · rename_i c' d' cd' sl' ho
      have z := (X _ _ ho).symm.trans htp
      cases z
    · cases hcD
  ca := fun X I k => kin_classO hga hgt hsub hdct ha hn htk hm X I k
end
end PySem.W
namespace Cm
open PySem PySem.Spec PyProof.Rows
open L2 hiding Same
/-! ### isinstance of a caught error that has fields -/
def rIsF (K : PySem.W.Frag) (D a : Addr) (cls : Value) (d : Option Addr) : List V → Hp → VK → Prop := fun xs H Q => ∃ (c : V) (cv : Value) (b : Bool) (dd : Addr) (fs : List (Str × V)), cls = .ref D ∧ xs = [.ref a, c] ∧ (∀ u, RelV c u → u = cv) ∧ PySem.W.kitOne K (.ref D) cv = some b ∧ d = some dd ∧ H dd = some (.xd fs) ∧ Q (.bl b) H
theorem call_isF {X : Cx} {a D : Addr} {oe : Obj} {cls : Value} {d : Option Addr} {pn : List (Addr × Obj)} (C : ExcC X.K D) (hz : Zc cls d oe) (hf : ∃ vs, oe.data = .fields vs) : CallR (X.suite a ((a, oe) :: pn)) (.builtin "isinstance") (rIsF X.K D a cls d) := by
  intro pins s σ H xs us Q I r h
  obtain ⟨c, cv, b, dd, fs, rfl, rfl, hcv, e, rfl, hd, q⟩ := h
  cases r with
  | cons rx rr =>
    cases rr with
    | cons rt rr =>
      cases rr
      cases rx
      have ec := hcv _ rt
      subst ec
      obtain ⟨hget, _⟩ := I.pin (a, oe) (List.mem_append.mpr (.inl List.mem_cons_self))
      obtain ⟨vs, hv⟩ := hf
      have hx : ObjOk X.prog X.w H s.heap dd (.xd fs) := I.hok dd _ hd
      obtain ⟨mA, hns, _⟩ := hx
      obtain ⟨od, ho, _⟩ := lookIn_ns hns
      have J : PySem.W.InstAt s.heap a oe D (some od) := ⟨hget, hz.1, by unfold PySem.W.notCls; rw [hv] <;> rfl, by rw [hz.2]; exact ho⟩
      exact PySem.W.kia_one (PySem.W.kitx_excO C.hg C.hk C.hs C.hd C.ha C.hn C.ht C.hm) I.kIn J e (fun z => nomatch z) fun tk => ⟨.bl b, H, I.kept (t' := tk) fun _ _ z => z, rfl, q⟩
theorem passes_len {X : Cx} {W : WX} {E : XK} (tk : Takes X W) (hW : ∀ cls d σ H, σ.length = X.N.length → E cls d H → W cls d σ H) : Passes (CX X.prog X.w) X E :=
  fun pins σ H s e s' I c => tk _ _ (XE.of_call I (fun cls d H' h => hW cls d σ H' I.len h) c)
/-! ### a call of a local name that holds a class; of a classmethod without arguments -/
section
variable {X : Cx} {CX : CXT} {k i : Nat} {C f : Addr} {fd : FuncData} {ps : List Str} {sp : Sp} {ds : List Value} {dvs : List V} {E : XK} {x : Str} {e : Expr} {es : List Expr} {p pos : Pos} {t : TA}
def tMakeL (i : Nat) (C : Addr) (sp : Sp) (dvs : List V) (E : XK) (t : TA) : TE := fun σ H Q => σ[i]? = some (some (.ref C)) ∧ tMake C sp dvs E t σ H Q
theorem pe_makeL (M : Mk X.K C f) (F : FnOk X.prog X.w X.K X.mg X.base CX k f fd ps sp) (hr : Room (k + 1) X.A) (hN : X.N[i]? = some x) (hv : Vis X.env.scope x) (hb : Binds X.K fd ps ds) (hd : Vals dvs ds) (hx : Passes CX X E)
    (ha : PA X (e :: es) t) (hdb : (x == ("__debug__" : Str)) = false := by decide) (hcd : (x == ("__classdict__" : Str)) = false := by decide)
    (he : starEach (e :: es) X.env = (false, eval e X.env) :: starEach es X.env := by rfl) (hpl : (backTo pos (starEach es X.env)).any (·.1) = false := by rfl) :
    PE X (.Call (.Name x p) (e :: es) [] pos) (tMakeL i C sp dvs E t) := by
  refine ⟨fun pins s σ H Q I h => ?_⟩
  obtain ⟨hs, ht⟩ := h
  refine wpAny_Call_Name_kw (thn ((pe_var (pos := p) hN hv hdb hcd).run pins s σ H (fun v H1 => v = .ref C ∧ H1 = H) I ⟨.ref C, hs, rfl, rfl⟩) fun u s1 ⟨v, H1, I1, r1, q1⟩ => ?_)
  obtain ⟨rfl, rfl⟩ := q1
  cases r1
  refine PySem.W.callWith_K (h₀ := X.base) I1.ok.mod.kin M.kp (thn (ha.run pos pins s1 σ _ _ I1 ht) fun us s2 ⟨vs, H2, I2, r, q⟩ => ⟨I2.kIn, ?_⟩) he hpl
  exact run_make M F hr hb hd hx I2 r q
end
section
variable {X : Cx} {CX : CXT} {k : Nat} {C p g : Addr} {mc : Value} {sp : Sp} {E : XK} {o : Expr} {m : Str} {pos apos : Pos} {ta : TE} {pl : Sem Bool}
theorem pe_cmeth0 (he : PE X o ta) (r : ClX.CRead X.K C mc) (c : ClX.CMet X.K C mc m p g) (F : FnR X.prog X.w X.K X.mg X.base CX k g sp) (hr : Room k X.A) (hx : Passes CX X E)
    (ht : eval (.Call (.Attribute o m apos) [] [] pos) X.env = (do
      let ov ← eval o X.env
      standAt apos.atName
      let (f, first) ← holding [ov] (getMethod ov m pl)
      callWith pos f first (backTo pos (starEach [] X.env)) (backToKw pos (keywordEach [] X.env))) := by rfl) :
    PE X (.Call (.Attribute o m apos) [] [] pos) (ClX.tCMeth C sp E ta tNil) := by
  refine ⟨fun pins s σ H Q I h => ?_⟩
  refine PySem.W.methodCall_KW (pl := pl) (thn (he.run pins s σ H _ I h) fun u s1 ⟨x, H1, I1, rx, ex, q⟩ => ?_) ht
  subst ex
  obtain rfl : u = Value.ref C := rx
  refine ClX.getmethcm_ok I1 r c fun s2 I2 => ?_
  exact PySem.W.callWith_M0 (first := []) ⟨ClX.pin_at I2, I2.kIn⟩ c.fi (ClX.run_cm (us := []) (vs := []) F hr hx I2 .nil q)
end
end Cm
namespace Cm
open PySem PySem.Spec PyProof.Rows
open L2 hiding Same
/-! ### constants and classmethods of a class -/
def valA (K : PySem.W.Frag) (C : Addr) (mc : Value) (f : Str) : Addr := match PySem.W.findCls K (.ref C) mc f with
  | some (.val (.ref a)) => a
  | _ => 0
def valB (K : PySem.W.Frag) (C : Addr) (mc : Value) (f : Str) : Bool := match PySem.W.findCls K (.ref C) mc f with
  | some (.val (.ref _)) => true
  | _ => false
theorem valB_ok {K : PySem.W.Frag} {C : Addr} {mc : Value} {f : Str} (h : valB K C mc f = true) : ClX.CVal K C mc f (.ref (valA K C mc f)) (.ref (valA K C mc f)) := by
  unfold valB at h
  unfold valA
  split at h
  · rename_i a e
    refine ⟨?_, rfl⟩
    rw [e]
  · cases h
def cmP (K : PySem.W.Frag) (C : Addr) (mc : Value) (m : Str) : Addr := match PySem.W.findCls K (.ref C) mc m with
  | some (.get _ (.ref p) _ _) => p
  | _ => 0
def cmG (K : PySem.W.Frag) (C : Addr) (mc : Value) (m : Str) : Addr := match PySem.W.recIn K (cmP K C mc m) "classmethod" with
  | some (.ref g :: _) => g
  | _ => 0
def cmB (K : PySem.W.Frag) (C : Addr) (mc : Value) (m : Str) : Bool := (match PySem.W.findCls K (.ref C) mc m with
  | some (.get (.builtin b) (.ref _) .none (.ref D)) => b == "classmethod.__get__" && D == C
  | _ => false) && ((match PySem.W.recIn K (cmP K C mc m) "classmethod" with
  | some (.ref _ :: _) => true
  | _ => false) && PySem.W.fnIn K (cmG K C mc m))
theorem cmB_ok {K : PySem.W.Frag} {C : Addr} {mc : Value} {m : Str} (h : cmB K C mc m = true) : ClX.CMet K C mc m (cmP K C mc m) (cmG K C mc m) := by
  unfold cmB at h
  obtain ⟨h1, h⟩ := Bool.and_eq_true_iff.mp h
  obtain ⟨h2, h3⟩ := Bool.and_eq_true_iff.mp h
  refine ⟨?_, ?_, h3⟩
  · unfold cmP
    split at h1
    · rename_i b p D e
      obtain ⟨e1, e2⟩ := Bool.and_eq_true_iff.mp h1
      have e1 := beq_iff_eq.mp e1
      have e2 := beq_iff_eq.mp e2
      subst e1 e2
      rw [e]
    · cases h1
  · unfold cmG
    split at h2
    · rename_i g r e
      rw [e]
      exact ⟨r, rfl⟩
    · cases h2
/-- a tuple of texts -/
def tsB (K : PySem.W.Frag) (a : Addr) (ts : List Str) : Bool := match K.lookup a with
  | some ⟨.type c, _, .seq its _, _⟩ => c == "tuple" && (decide (its.size ≤ sizeLine) && He.relAll (ts.map V.str) its.toList)
  | _ => false
theorem tsB_ok {K : PySem.W.Frag} {a : Addr} {ts : List Str} (h : tsB K a ts = true) (H : Hp) : SqT K H a (ts.map V.str) := by
  unfold tsB at h
  split at h
  · rename_i c d its n sl e
    obtain ⟨h1, h⟩ := Bool.and_eq_true_iff.mp h
    obtain ⟨h2, h3⟩ := Bool.and_eq_true_iff.mp h
    exact .inr ⟨_, its, n, e, congrArg Value.type (beq_iff_eq.mp h1), rfl, of_decide_eq_true h2, He.relAll_ok h3⟩
  · cases h
/-! ### def of(cls, *names) -/
def starB (K : PySem.W.Frag) (f : Addr) (qual : Str) : Bool := match K.lookup f with
  | some ⟨_, _, .func fd, _⟩ => PySem.W.codeIn K fd.code qual && fd.defaults == .none
  | _ => false
theorem star_of {K : PySem.W.Frag} {f : Addr} {x qual : Str} {params : Arguments} {body : List Stmt} {scope : Scope} (w : fnWS K f = some (x, qual, params, FuncBody.stmts body, scope, mainGlobals, [], builtinsNs)) (b : starB K f qual = true) :
    ∃ (oc : Value) (od : Option Addr) (kV doc pm : Value) (an : Option Addr) (cdv ct : Value) (osl : Array (Option Value)), K.lookup f = some ⟨oc, od, .func (PySem.W.fnOf x qual params body scope .none kV doc pm an cdv ct), osl⟩ ∧ PySem.W.codeIn K cdv qual = true := by
  unfold fnWS at w
  unfold starB at b
  cases q : K.lookup f with
  | none => rw [q] at b; cases b
  | some o =>
    obtain ⟨oc, od, dt, osl⟩ := o
    rw [q] at w b
    cases dt with
    | func fd =>
      obtain ⟨n1, n2, n3, n4, n5, n6, n7, n8, n9, n10, n11, n12, n13, n14, n15⟩ := fd
      have e2 : (some (n1, n2, n3, n4, n5, n6, n7.map (·.1), n15) : FnWS) = some (x, qual, params, FuncBody.stmts body, scope, mainGlobals, [], builtinsNs) := w
      simp only [Option.some.injEq, Prod.mk.injEq] at e2
      obtain ⟨h1, h2, h3, h4, h5, h6, h7, h8⟩ := e2
      subst h1 h2 h3 h4 h5 h6 h8
      dsimp only at b
      obtain ⟨b3, b4⟩ := Bool.and_eq_true_iff.mp b
      have b5 := beq_iff_eq.mp b4
      subst b5
      cases n7 with
      | nil => exact ⟨oc, od, n9, n10, n11, n12, n13, n14, osl, rfl, b3⟩
      | cons z n7 => cases h7
    | _ => cases b
def dfN (K : PySem.W.Frag) (f : Addr) : Bool := match K.lookup f with
  | some ⟨_, _, .func fd, _⟩ => fd.defaults == .none
  | _ => false
theorem dfN_ok {K : PySem.W.Frag} {f : Addr} {oc : Value} {od : Option Addr} {fd : FuncData} {osl : Array (Option Value)} (lk : K.lookup f = some ⟨oc, od, .func fd, osl⟩) (h : dfN K f = true) : fd.defaults = .none := by
  unfold dfN at h
  rw [lk] at h
  exact beq_iff_eq.mp h
/-! ### x not in t, of any depth -/
def rNotInT (K : PySem.W.Frag) : R2 := fun x y H Q => ∃ d ds, Dp K H x d ∧ Dp K H y (.tuple ds) ∧ SeqAt.shaped d = true ∧ SeqAt.shaped (.tuple ds) = true ∧ Q (.bl (!ds.any fun z => PyData.eqv z d)) H
theorem op_notInT {X : Cx} (hu : X.A.units + 65 < cLine) : OpR X (compareOp .NotIn) (rNotInT X.K) := by
  intro pins s σ H x y v u Q I rx ry h
  obtain ⟨d, ds, hd, he, sd, se, q⟩ := h
  obtain ⟨as, r1⟩ := Dp.reads I d x v hd rx
  obtain ⟨bs, r2⟩ := Dp.reads I (.tuple ds) y u he ry
  exact SeqAt.notIn_tuple_reads r2 r1 (SeqAt.canLay_of_shaped se) (SeqAt.canLay_of_shaped sd) (room_in_shaped sd hu) ⟨.bl _, H, I, rfl, q⟩
end Cm
namespace Cm
open PySem PySem.Spec PyProof.Rows
open L2 hiding Same
theorem u65 {k : Nat} {A : Around} (r : Room k A) : A.units + 65 < cLine := by have := r.un; omega
theorem pe_cal0 {X : Cx} {j k : Nat} {x : Str} {sp : Sp} {p pos : Pos} (c : Cal X.prog X.w X.K X.mg X.base k x sp) (hr : Room j X.A) (hk : k ≤ j) (hg : Gl X x := by rfl) (hd : (x == ("__debug__" : Str)) = false := by decide) :
    PE X (.Call (.Name x p) [] [] pos) (tCall sp [] E0 tNil) := by
  obtain ⟨f, fd, ps, F, b, g, kp⟩ := c
  exact pe_call0 F (hr.mono hk) hg g kp b .nil pass0 hd
/-! ### a walk over a list or a tuple -/
theorem PI.or2 {X : Cx} {tg iter : Expr} {t1 t2 : TI} (h1 : PI X tg iter t1) (h2 : PI X tg iter t2) : PI X tg iter (fun σ H R => t1 σ H R ∨ t2 σ H R) :=
  ⟨fun pins s σ H R I h => h.elim (h1.run pins s σ H R I) (h2.run pins s σ H R I)⟩
def iSeq (K : PySem.W.Frag) (tl : TE) : TI := fun σ H R => iList K tl σ H R ∨ iTup K tl σ H R
theorem pi_seq {X : Cx} {tg l : Expr} {tl : TE} (hl : PE X l tl) : PI X tg l (iSeq X.K tl) := PI.or2 (pi_list hl) (pi_tup hl)
def Sq (K : PySem.W.Frag) (H : Hp) (a : Addr) (xs : List V) : Prop := SqL K H a xs ∨ SqT K H a xs
theorem for_seq {K : PySem.W.Frag} {a : Addr} {xs : List V} {g : TG} {tb : TS} {tl : TE} {D : Ends} {σ : L2.St} {H : Hp} (e : ∀ Q : VK, Q (.ref a) H → tl σ H Q) (hn : Sq K H a xs) (Pv : Nat → L2.St → Hp → Prop) (h0 : Pv 0 σ H)
    (hl : ∀ i σ H', i ≤ xs.length → Pv i σ H' → (SqL K H a xs → SqL K H' a xs) ∧ (SqT K H a xs → SqT K H' a xs))
    (hs : ∀ i x σ H, xs[i]? = some x → Pv i σ H → g x σ H fun σ2 H2 => tb { D with nx := Pv (i + 1), ct := Pv (i + 1), bk := D.nx } σ2 H2) (hd : ∀ σ H, Pv xs.length σ H → D.nx σ H) : tFor (iSeq K tl) g tb D σ H := by
  rcases hn with hn | hn
  · exact .inl (e _ ⟨a, rfl, ⟨xs, hn⟩, for_list Pv h0 (fun i σ H' hi p => (hl i σ H' hi p).1 hn) hs hd⟩)
  · exact .inr (e _ ⟨a, rfl, ⟨xs, hn⟩, for_tup Pv h0 (fun i σ H' hi p => (hl i σ H' hi p).2 hn) hs hd⟩)
theorem Same.st {K : PySem.W.Frag} {a : Addr} {H H' : Hp} {xs : List V} (k : Same H H') (h : SqT K H a xs) : SqT K H' a xs :=
  h.elim (fun h => .inl (h.elim (fun h => .inl (k _ _ h)) fun ⟨o, h⟩ => .inr ⟨o, k _ _ h⟩)) .inr
theorem Sq.same {K : PySem.W.Frag} {a : Addr} {H H' : Hp} {xs : List V} (h : Sq K H a xs) (k : Same H H') : Sq K H' a xs := h.elim (fun h => .inl (k.sl h)) fun h => .inr (k.st h)
/-! ### texts in lists -/
theorem flat_strs (ts : List Str) : (ts.map V.str).all flatV = true := by
  rw [List.all_eq_true]
  intro x hx
  obtain ⟨i, _, rfl⟩ := List.mem_map.mp hx
  rfl
theorem inV_strs (n : Str) (ts : List Str) : inV (.str n) (ts.map V.str) = decide (n ∈ ts) := by
  unfold inV
  rw [List.any_map]
  apply Bool.eq_iff_iff.mpr
  rw [List.any_eq_true, decide_eq_true_iff]
  exact ⟨fun ⟨x, hx, e⟩ => by have e2 : x = n := by simpa [eqV] using e
                              subst e2; exact hx, fun h => ⟨n, h, by simp [eqV]⟩⟩
theorem strs_at {ts : List Str} {i : Nat} {x : V} (h : (ts.map V.str)[i]? = some x) : ∃ hi : i < ts.length, x = .str ts[i] := by
  rw [List.getElem?_map] at h
  cases e : ts[i]? with
  | none => rw [e] at h; cases h
  | some n =>
    rw [e] at h
    obtain ⟨hi, e2⟩ := List.getElem?_eq_some_iff.mp e
    exact ⟨hi, by rw [e2]; exact (Option.some.inj h).symm⟩
theorem take_filter {ts : List Str} {p : Str → Bool} {i : Nat} (hi : i < ts.length) : (ts.take (i + 1)).filter p = if p ts[i] = true then (ts.take i).filter p ++ [ts[i]] else (ts.take i).filter p := by
  rw [List.take_add_one, List.getElem?_eq_getElem hi]
  show ((ts.take i) ++ [ts[i]]).filter p = _
  rw [List.filter_append]
  by_cases h : p ts[i] = true
  · rw [if_pos h, List.filter_cons_of_pos h, List.filter_nil]
  · rw [if_neg h, List.filter_cons_of_neg h, List.filter_nil, List.append_nil]
theorem filt_len {ts : List Str} {p : Str → Bool} {i n : Nat} (h : ts.length ≤ n) : ((ts.take i).filter p).length ≤ n := by
  have := List.length_filter_le p (ts.take i)
  have := List.length_take_le' i ts
  omega
theorem dp_strs {K : PySem.W.Frag} {H : Hp} : ∀ ts : List Str, DpAll K H (ts.map V.str) (ts.map PyData.str)
  | [] => .nil
  | n :: ns => .cons (.str n) (dp_strs ns)
theorem shp_strAll : ∀ ts : List Str, (∀ z ∈ ts, PyData.strOk z = true) → PyData.canLayAll0 (ts.map PyData.str) = true ∧ PyData.depthAll (ts.map PyData.str) = 0
  | [], _ => ⟨rfl, rfl⟩
  | n :: ns, hk => by
    obtain ⟨h1, h2⟩ := shp_strAll ns fun z hz => hk z (List.mem_cons_of_mem _ hz)
    exact ⟨by show (PyData.canLay0 (.str n) && PyData.canLayAll0 (ns.map PyData.str)) = true; rw [h1]; simp [PyData.canLay0, hk n List.mem_cons_self], by show max (PyData.depth (.str n)) (PyData.depthAll (ns.map PyData.str)) = 0; rw [h2]; rfl⟩
theorem shp_str {z : Str} (h : PyData.strOk z = true) : SeqAt.shaped (.str z) = true := by
  show ((PyData.str z).canLay0 && decide ((PyData.str z).depth ≤ 64)) = true
  simp [PyData.canLay0, PyData.depth, h]
theorem shp_strs {ts : List Str} (hk : ∀ z ∈ ts, PyData.strOk z = true) : SeqAt.shaped (.list (ts.map PyData.str)) = true := by
  obtain ⟨h1, h2⟩ := shp_strAll ts hk
  show ((PyData.list (ts.map PyData.str)).canLay0 && decide ((PyData.list (ts.map PyData.str)).depth ≤ 64)) = true
  simp only [PyData.canLay0, PyData.depth, h1, h2, Bool.true_and, decide_eq_true_eq]
  omega
theorem shp_strsT {ts : List Str} (hk : ∀ z ∈ ts, PyData.strOk z = true) : SeqAt.shaped (.tuple (ts.map PyData.str)) = true := by
  obtain ⟨h1, h2⟩ := shp_strAll ts hk
  show ((PyData.tuple (ts.map PyData.str)).canLay0 && decide ((PyData.tuple (ts.map PyData.str)).depth ≤ 64)) = true
  simp only [PyData.canLay0, PyData.depth, h1, h2, Bool.true_and, decide_eq_true_eq]
  omega
theorem eqvA_strs : ∀ xs ys : List Str, PyData.eqvAll (xs.map PyData.str) (ys.map PyData.str) = decide (xs = ys)
  | [], [] => by simp [PyData.eqvAll]
  | [], y :: ys => by simp [PyData.eqvAll]
  | x :: xs, [] => by simp [PyData.eqvAll]
  | x :: xs, y :: ys => by
    have h := eqvA_strs xs ys
    show (PyData.eqv (.str x) (.str y) && PyData.eqvAll (xs.map PyData.str) (ys.map PyData.str)) = _
    rw [h]
    have e : PyData.eqv (.str x) (.str y) = decide (x = y) := by
      simp only [PyData.eqv]
      by_cases h : x = y <;> simp [h]
    rw [e]
    by_cases h1 : x = y <;> by_cases h2 : xs = ys <;> simp [h1, h2]
theorem eqv_strs (xs ys : List Str) : PyData.eqv (.list (xs.map PyData.str)) (.list (ys.map PyData.str)) = decide (xs = ys) := by
  simp only [PyData.eqv]; exact eqvA_strs xs ys
theorem eqv_strsT (xs ys : List Str) : PyData.eqv (.tuple (xs.map PyData.str)) (.tuple (ys.map PyData.str)) = decide (xs = ys) := by
  simp only [PyData.eqv]; exact eqvA_strs xs ys
theorem any_strs (n : Str) (ts : List Str) : ((ts.map PyData.str).any fun z => PyData.eqv z (.str n)) = decide (n ∈ ts) := by
  rw [List.any_map]
  apply Bool.eq_iff_iff.mpr
  rw [List.any_eq_true, decide_eq_true_iff]
  have e : ∀ x, PyData.eqv (.str x) (.str n) = decide (x = n) := fun x => by
    simp only [PyData.eqv]
    by_cases h : x = n <;> simp [h]
  exact ⟨fun ⟨x, hx, q⟩ => by
    have q2 : x = n := by
      have := q
      simp only [Function.comp, e, decide_eq_true_eq] at this
      exact this
    subst q2; exact hx, fun h => ⟨n, h, by simp only [Function.comp, e, decide_true]⟩⟩
end Cm
namespace Um
open PySem PySem.Spec PyProof.Rows Cm
open L2 hiding Same
/-! ### values and rows as data -/
inductive Val where
  | num (n : Int) | arg | place (x : Str) (k : Int) | own (x : Str) | named (x : Str)
  deriving DecidableEq
def Val.vs : Val → List V
  | .num n => [.str "number", .int n]
  | .arg => [.str "argument"]
  | .place x k => [.str "place", .str x, .int k]
  | .own x => [.str "own", .str x]
  | .named x => [.str "named", .str x]
def Val.ds : Val → List PyData
  | .num n => [.str "number", .int n]
  | .arg => [.str "argument"]
  | .place x k => [.str "place", .str x, .int k]
  | .own x => [.str "own", .str x]
  | .named x => [.str "named", .str x]
def NmOk (x : Str) : Prop := x.length ≤ 100 ∧ x.cps.all (· < 128) = true
def SmI (n : Int) : Prop := n.natAbs ≤ 4000000000
def Val.ok : Val → Prop
  | .num n => SmI n
  | .arg => True
  | .place x k => NmOk x ∧ SmI k
  | .own x => NmOk x
  | .named x => NmOk x
/-- a number written -/
def nt (n : Int) : Str := toString n
def Val.tx : Val → Str
  | .num n => nt n
  | .arg => "it"
  | .place x k => x ++ ("." ++ nt k)
  | .own x => "$" ++ x
  | .named x => "#" ++ x
theorem SmI.log {n : Int} (h : SmI n) : n.natAbs.log2 < 1920 := log_of (Nat.lt_of_le_of_lt h (by decide +kernel))
theorem nt_len {n : Int} (h : SmI n) : (nt n).length ≤ 1921 := int_text_len_1921 h.log
theorem Val.tx_len : ∀ {v : Val}, v.ok → v.tx.length ≤ 3000
  | .num n, h => Nat.le_trans (nt_len h) (by decide)
  | .arg, _ => by decide +kernel
  | .place x k, h => by
    have h1 := h.1.1
    have h2 := nt_len h.2
    have e : (Val.place x k).tx.length = x.length + (("." : Str).length + (nt k).length) := by
      show (x ++ ("." ++ nt k)).length = _
      rw [app_len, app_len]
    have e2 : (("." : Str).length) = 1 := by decide +kernel
    omega
  | .own x, h => by
    have h1 := h.1
    have e : (Val.own x).tx.length = ("$" : Str).length + x.length := app_len _ _
    have e2 : (("$" : Str).length) = 1 := by decide +kernel
    omega
  | .named x, h => by
    have h1 := h.1
    have e : (Val.named x).tx.length = ("#" : Str).length + x.length := app_len _ _
    have e2 : (("#" : Str).length) = 1 := by decide +kernel
    omega
inductive Rw where
  | tell (v : Val) | set (p v : Val) | same (a b : Val) (k : Int) | there (x : Str) (k : Int) | call (x : Str) (v : Val) (t : Int) | fin
  deriving DecidableEq
def Rw.ds : Rw → List PyData
  | .tell v => [.str "tell", .tuple v.ds]
  | .set p v => [.str "set", .tuple p.ds, .tuple v.ds]
  | .same a b k => [.str "same", .tuple a.ds, .tuple b.ds, .int k]
  | .there x k => [.str "there", .str x, .int k]
  | .call x v t => [.str "call", .str x, .tuple v.ds, .int t]
  | .fin => [.str "end"]
def Rw.ok : Rw → Prop
  | .tell v => v.ok
  | .set p v => p.ok ∧ v.ok
  | .same a b k => a.ok ∧ b.ok ∧ SmI k
  | .there x k => NmOk x ∧ SmI k
  | .call x v t => NmOk x ∧ v.ok ∧ SmI t
  | .fin => True
def Rw.tx : Rw → Str
  | .tell v => "tell " ++ v.tx
  | .set p v => "set " ++ (p.tx ++ (" " ++ v.tx))
  | .same a b k => "same " ++ (a.tx ++ (" " ++ (b.tx ++ (" else " ++ nt k))))
  | .there x k => "there " ++ (x ++ (" else " ++ nt k))
  | .call x v t => if t = 0 then "call " ++ (x ++ (" " ++ v.tx)) else "call " ++ (x ++ (" " ++ (v.tx ++ (" at " ++ nt t))))
  | .fin => "end"
/-- the values that a row tells -/
def Rw.ops : Rw → List Val
  | .tell v => [v]
  | .set p v => [p, v]
  | .same a b _ => [a, b]
  | .there _ _ => []
  | .call _ v _ => [v]
  | .fin => []
def Rw.opd (r : Rw) : List PyData := r.ops.map fun v => .tuple v.ds
def Rw.cn : Rw → Str
  | .tell _ => "Tell"
  | .set _ _ => "Put"
  | .same _ _ _ => "Same"
  | .there _ _ => "There"
  | .call _ _ _ => "Call"
  | .fin => "End"
/-! ### equal data -/
section
theorem ne1 : (("number" : Str) == "argument") = false := by decide +kernel
theorem ne2 : (("number" : Str) == "place") = false := by decide +kernel
theorem ne3 : (("number" : Str) == "own") = false := by decide +kernel
theorem ne4 : (("number" : Str) == "named") = false := by decide +kernel
theorem ne5 : (("argument" : Str) == "number") = false := by decide +kernel
theorem ne6 : (("argument" : Str) == "place") = false := by decide +kernel
theorem ne7 : (("argument" : Str) == "own") = false := by decide +kernel
theorem ne8 : (("argument" : Str) == "named") = false := by decide +kernel
theorem ne9 : (("place" : Str) == "number") = false := by decide +kernel
theorem ne10 : (("place" : Str) == "argument") = false := by decide +kernel
theorem ne11 : (("place" : Str) == "own") = false := by decide +kernel
theorem ne12 : (("place" : Str) == "named") = false := by decide +kernel
theorem ne13 : (("own" : Str) == "number") = false := by decide +kernel
theorem ne14 : (("own" : Str) == "argument") = false := by decide +kernel
theorem ne15 : (("own" : Str) == "place") = false := by decide +kernel
theorem ne16 : (("own" : Str) == "named") = false := by decide +kernel
theorem ne17 : (("named" : Str) == "number") = false := by decide +kernel
theorem ne18 : (("named" : Str) == "argument") = false := by decide +kernel
theorem ne19 : (("named" : Str) == "place") = false := by decide +kernel
theorem ne20 : (("named" : Str) == "own") = false := by decide +kernel
end
theorem beq_dec {α : Type} [DecidableEq α] (a b : α) : (a == b) = decide (a = b) := by
  by_cases h : a = b
  · subst h; simp
  · rw [decide_eq_false h]; exact beq_eq_false_iff_ne.mpr h
theorem dand {p q r : Prop} [Decidable p] [Decidable q] [Decidable r] (h : r ↔ p ∧ q) : (decide p && decide q) = decide r := by
  by_cases a : p <;> by_cases b : q <;> simp [h, a, b]
theorem eqv_val : ∀ a b : Val, PyData.eqv (.tuple a.ds) (.tuple b.ds) = decide (a = b) := by
  intro a b
  cases a <;> cases b <;> simp only [Val.ds, PyData.eqv, PyData.eqvAll, ne1, ne2, ne3, ne4, ne5, ne6, ne7, ne8, ne9, ne10, ne11, ne12, ne13, ne14, ne15, ne16, ne17, ne18, ne19, ne20,
    Bool.false_and, Bool.and_false, Bool.and_true, Bool.true_and, beq_self_eq_true, beq_dec, reduceCtorEq, decide_false, decide_true, Val.num.injEq, Val.place.injEq, Val.own.injEq, Val.named.injEq]
  · exact dand Iff.rfl
  · rw [decide_eq_false (show ¬ (("own" : Str) = "named") by decide +kernel)]; rfl
  · rw [decide_eq_false (show ¬ (("named" : Str) = "own") by decide +kernel)]; rfl
theorem eqv_val' (a b : Val) : PyData.eqvAll a.ds b.ds = decide (a = b) := eqv_val a b
section
theorem rn1 : (("tell" : Str) == "set") = false := by decide +kernel
theorem rn2 : (("tell" : Str) == "same") = false := by decide +kernel
theorem rn3 : (("tell" : Str) == "there") = false := by decide +kernel
theorem rn4 : (("tell" : Str) == "call") = false := by decide +kernel
theorem rn5 : (("tell" : Str) == "end") = false := by decide +kernel
theorem rn6 : (("set" : Str) == "same") = false := by decide +kernel
theorem rn7 : (("set" : Str) == "there") = false := by decide +kernel
theorem rn8 : (("set" : Str) == "call") = false := by decide +kernel
theorem rn9 : (("set" : Str) == "end") = false := by decide +kernel
theorem rn10 : (("same" : Str) == "there") = false := by decide +kernel
theorem rn11 : (("same" : Str) == "call") = false := by decide +kernel
theorem rn12 : (("same" : Str) == "end") = false := by decide +kernel
theorem rn13 : (("there" : Str) == "call") = false := by decide +kernel
theorem rn14 : (("there" : Str) == "end") = false := by decide +kernel
theorem rn15 : (("call" : Str) == "end") = false := by decide +kernel
theorem bc (a b : Str) (h : (a == b) = false) : (b == a) = false := by
  rw [beq_dec] at h ⊢
  exact decide_eq_false fun e => of_decide_eq_false h e.symm
end
theorem eqv_row : ∀ a b : Rw, PyData.eqv (.list a.ds) (.list b.ds) = decide (a = b) := by
  intro a b
  cases a <;> cases b <;> simp only [Rw.ds, PyData.eqv, PyData.eqvAll, rn1, rn2, rn3, rn4, rn5, rn6, rn7, rn8, rn9, rn10, rn11, rn12, rn13, rn14, rn15,
    bc _ _ rn1, bc _ _ rn2, bc _ _ rn3, bc _ _ rn4, bc _ _ rn5, bc _ _ rn6, bc _ _ rn7, bc _ _ rn8, bc _ _ rn9, bc _ _ rn10, bc _ _ rn11, bc _ _ rn12, bc _ _ rn13, bc _ _ rn14, bc _ _ rn15, eqv_val',
    Bool.false_and, Bool.and_false, Bool.and_true, Bool.true_and, beq_self_eq_true, beq_dec, reduceCtorEq, decide_false, decide_true, Rw.tell.injEq, Rw.set.injEq, Rw.same.injEq, Rw.there.injEq, Rw.call.injEq, Bool.decide_and]
/-! ### shaped data -/
theorem strOk_nm {x : Str} (h : NmOk x) : PyData.strOk x = true := by
  have h2 := h.2
  unfold PyData.strOk
  rw [← Array.all_toList, List.all_eq_true] at h2 ⊢
  intro c hc
  have := of_decide_eq_true (h2 c hc)
  exact decide_eq_true (by omega)
theorem Val.lay {v : Val} (h : v.ok) : PyData.canLay0 (.tuple v.ds) = true ∧ (PyData.tuple v.ds).depth = 1 := by
  have k : ∀ x : Str, PyData.strOk x = true → PyData.canLay0 (.str x) = true := fun x h => by rw [PyData.canLay0]; exact h
  cases v with
  | num n =>
    refine ⟨?_, rfl⟩
    rw [PyData.canLay0]
    show (PyData.canLay0 (.str "number") && (PyData.canLay0 (.int n) && true)) = true
    rw [k "number" (by decide +kernel)]
    rfl
  | arg =>
    refine ⟨?_, rfl⟩
    rw [PyData.canLay0]
    show (PyData.canLay0 (.str "argument") && true) = true
    rw [k "argument" (by decide +kernel)]
    rfl
  | place x n =>
    refine ⟨?_, rfl⟩
    rw [PyData.canLay0]
    show (PyData.canLay0 (.str "place") && (PyData.canLay0 (.str x) && (PyData.canLay0 (.int n) && true))) = true
    rw [k x (strOk_nm h.1), k "place" (by decide +kernel)]
    rfl
  | own x =>
    refine ⟨?_, rfl⟩
    rw [PyData.canLay0]
    show (PyData.canLay0 (.str "own") && (PyData.canLay0 (.str x) && true)) = true
    rw [k x (strOk_nm h), k "own" (by decide +kernel)]
    rfl
  | named x =>
    refine ⟨?_, rfl⟩
    rw [PyData.canLay0]
    show (PyData.canLay0 (.str "named") && (PyData.canLay0 (.str x) && true)) = true
    rw [k x (strOk_nm h), k "named" (by decide +kernel)]
    rfl
theorem Val.shp {v : Val} (h : v.ok) : SeqAt.shaped (.tuple v.ds) = true := by
  obtain ⟨h1, h2⟩ := v.lay h
  unfold SeqAt.shaped
  rw [h1, h2]
  rfl
end Um
namespace Um
open PySem PySem.Spec PyProof.Rows Cm TL
open L2 hiding Same
/-! ### signs -/
abbrev LETS : Str := "abcdefghijklmnopqrstuvwxyz"
abbrev DIGS : Str := "0123456789"
def isLet (c : Nat) : Bool := decide (c ∈ LETS.cps.toList)
def isDig (c : Nat) : Bool := decide (c ∈ DIGS.cps.toList)
theorem lets_eq : LETS.cps.toList = (List.range 26).map (97 + ·) := by decide +kernel
theorem digs_eq : DIGS.cps.toList = (List.range 10).map (48 + ·) := by decide +kernel
theorem isLet_iff {c : Nat} : isLet c = true ↔ 97 ≤ c ∧ c ≤ 122 := by
  unfold isLet
  rw [decide_eq_true_iff, lets_eq, List.mem_map]
  constructor
  · rintro ⟨a, ha, rfl⟩
    have := List.mem_range.mp ha
    omega
  · intro h
    exact ⟨c - 97, List.mem_range.mpr (by omega), by omega⟩
theorem isDig_iff {c : Nat} : isDig c = true ↔ 48 ≤ c ∧ c ≤ 57 := by
  unfold isDig
  rw [decide_eq_true_iff, digs_eq, List.mem_map]
  constructor
  · rintro ⟨a, ha, rfl⟩
    have := List.mem_range.mp ha
    omega
  · intro h
    exact ⟨c - 48, List.mem_range.mpr (by omega), by omega⟩
theorem eq_nil_tl {w : Str} : w = "" ↔ tl w = [] := ⟨fun h => by rw [h]; rfl, fun h => ext_tl h⟩
/-! ### words -/
def isDigits (w : Str) : Bool := !decide (V.str w = V.str "") && (tl w).all isDig
def isName (w : Str) : Bool := match tl w with
  | [] => false
  | c :: r => decide ((c :: r).length ≤ 12) && (isLet c && (c :: r).all fun d => isLet d || isDig d)
abbrev rp (w : Str) : Str := Txt.removeprefix w "-"
def isNumeral (w : Str) : Bool := isDigits (rp w) && (decide ((rp w).length ≤ 9) && (decide ((tl (rp w)).head? ≠ some 48) || decide (w = "0")))
def isIndex (w : Str) : Bool := decide (w.length = 1) && isDigits w
def isTag (w : Str) : Bool := isIndex w && decide (w ≠ "0")
def numOf (w : Str) : Int := (PySem.intText? w).getD 0
def placeOf (w : Str) : Option Val := if (isName (Txt.partition w ".").1 && isIndex (Txt.partition w ".").2.2) = true then some (.place (Txt.partition w ".").1 (numOf (Txt.partition w ".").2.2)) else none
def valueOf (w : Str) : Option Val :=
  if isNumeral w = true then some (.num (numOf w)) else if w = "it" then some .arg
  else if (Txt.startswith w "$" && isName (cutS w (some 1) none)) = true then some (.own (cutS w (some 1) none))
  else if (Txt.startswith w "#" && isName (cutS w (some 1) none)) = true then some (.named (cutS w (some 1) none))
  else placeOf w
theorem isDigits_iff {w : Str} : isDigits w = true ↔ tl w ≠ [] ∧ ∀ c ∈ tl w, 48 ≤ c ∧ c ≤ 57 := by
  unfold isDigits
  rw [Bool.and_eq_true, Bool.not_eq_true', decide_eq_false_iff_not, List.all_eq_true]
  refine ⟨fun ⟨h1, h2⟩ => ⟨fun e => h1 (by rw [eq_nil_tl.mpr e]), fun c hc => isDig_iff.mp (h2 c hc)⟩, fun ⟨h1, h2⟩ => ⟨fun e => h1 (eq_nil_tl.mp (by injection e)), fun c hc => isDig_iff.mpr (h2 c hc)⟩⟩
theorem isDigits_all {w : Str} (h : isDigits w = true) : NumText.AllDigits (tl w) := (isDigits_iff.mp h).2
theorem isName_iff {w : Str} : isName w = true ↔ ∃ c r, tl w = c :: r ∧ (c :: r).length ≤ 12 ∧ (97 ≤ c ∧ c ≤ 122) ∧ ∀ d ∈ c :: r, (97 ≤ d ∧ d ≤ 122) ∨ (48 ≤ d ∧ d ≤ 57) := by
  unfold isName
  cases e : tl w with
  | nil => simp
  | cons c r =>
    dsimp only
    rw [Bool.and_eq_true, Bool.and_eq_true, decide_eq_true_iff, isLet_iff, List.all_eq_true]
    constructor
    · rintro ⟨h1, h2, h3⟩
      exact ⟨c, r, rfl, h1, h2, fun d hd => by have := h3 d hd; rw [Bool.or_eq_true, isLet_iff, isDig_iff] at this; exact this⟩
    · rintro ⟨c', r', h0, h1, h2, h3⟩
      cases h0
      exact ⟨h1, h2, fun d hd => by rw [Bool.or_eq_true, isLet_iff, isDig_iff]; exact h3 d hd⟩
theorem isName_ok {w : Str} (h : isName w = true) : NmOk w := by
  obtain ⟨c, r, e, h1, h2, h3⟩ := isName_iff.mp h
  refine ⟨by rw [len_tl, e]; omega, ?_⟩
  rw [← Array.all_toList, List.all_eq_true]
  intro d hd
  have hd : d ∈ tl w := hd
  rw [e] at hd
  exact decide_eq_true (by rcases h3 d hd with h | h <;> omega)
theorem isName_free {w : Str} (h : isName w = true) {c : Nat} (hc : ¬ (97 ≤ c ∧ c ≤ 122)) (hd : ¬ (48 ≤ c ∧ c ≤ 57)) : c ∉ tl w := by
  obtain ⟨a, r, e, h1, h2, h3⟩ := isName_iff.mp h
  intro z
  rw [e] at z
  exact (h3 c z).elim hc hd
theorem isName_ne {w : Str} (h : isName w = true) : tl w ≠ [] := by
  obtain ⟨a, r, e, _⟩ := isName_iff.mp h
  rw [e]; simp
/-! ### the sign ahead -/
theorem tl_one (c : Nat) : tl ⟨#[c]⟩ = [c] := rfl
theorem sub_one {w y : Str} {c : Nat} (e : tl y = [c]) : Builtin.Str.subAt w y 0 = decide ((tl w).head? = some c) := by
  rw [PySem.StrLaws.subAt_eq, List.drop_zero, len_tl y]
  show ((tl w).take (tl y).length == tl y) = _
  rw [e]
  cases tl w with
  | nil => rfl
  | cons d r =>
    show ([d] == [c]) = decide (some d = some c)
    by_cases h : d = c
    · subst h; simp
    · simp [h]
theorem starts_one {w y : Str} {c : Nat} (e : tl y = [c]) : Txt.startswith w y = decide ((tl w).head? = some c) := by
  unfold Txt.startswith
  rw [sub_one e, len_tl y, e]
  cases h : tl w with
  | nil => rw [len_tl, h]; rfl
  | cons d r =>
    rw [len_tl, h]
    simp
theorem rp_tl (w : Str) : tl (rp w) = if (tl w).head? = some 45 then (tl w).tail else tl w := by
  unfold rp Txt.removeprefix
  rw [sub_one (w := w) (y := "-") (c := 45) (by decide +kernel)]
  by_cases h : (tl w).head? = some 45
  · rw [if_pos (decide_eq_true h), if_pos h]
    show tl (Txt.affix w (some (1, w.length))) = _
    unfold Txt.affix
    dsimp only
    cases e : tl w with
    | nil => rw [e] at h; cases h
    | cons d r =>
      have hl : w.length = r.length + 1 := by rw [len_tl, e]; rfl
      rw [hl, if_neg (by simp), ← hl, tl_strSub_end, e]
      rfl
  · rw [if_neg (by simpa using h), if_neg h]
    rfl
theorem cut_one (w : Str) : tl (cutS w (some 1) none) = (tl w).drop 1 := by
  have h1 : HT.sIx w.length 0 (some (1 : Int)) = min 1 w.length := HT.sIx_nat _ _ 1
  show (w.cps.toList.drop (HT.sIx w.length 0 (some 1))).take (HT.sIx w.length w.length none - HT.sIx w.length 0 (some 1)) = _
  rw [h1, HT.sIx_none]
  have hl := len_tl w
  by_cases h : 1 ≤ w.length
  · rw [Nat.min_eq_left h]
    exact List.take_of_length_le (by rw [List.length_drop]; show (tl w).length - 1 ≤ _; omega)
  · have h0 : w.length = 0 := by omega
    have e : tl w = [] := List.length_eq_zero_iff.mp (by omega)
    show ((tl w).drop _).take _ = _
    rw [e]
    simp
/-! ### numerals -/
theorem fold_lt : ∀ (l : List Nat) (a : Nat), NumText.AllDigits l → l.foldl (fun acc c => acc * 10 + (c - 48)) a < (a + 1) * 10 ^ l.length
  | [], a, _ => by simp
  | c :: r, a, h => by
    rw [List.foldl_cons]
    have h1 := h c List.mem_cons_self
    have := fold_lt r (a * 10 + (c - 48)) (fun d hd => h d (List.mem_cons_of_mem _ hd))
    refine Nat.lt_of_lt_of_le this ?_
    rw [List.length_cons, Nat.pow_succ, Nat.mul_comm (10 ^ r.length) 10, ← Nat.mul_assoc]
    exact Nat.mul_le_mul_right _ (by omega)
theorem digits_lt (l : List Nat) (h : NumText.AllDigits l) : NumText.digitsVal l < 10 ^ l.length := by
  have := fold_lt l 0 h
  unfold NumText.digitsVal
  omega
theorem numeral_text {w : Str} (h : isNumeral w = true) : PySem.intText? w = some (numOf w) ∧ (numOf w).natAbs ≤ 999999999 ∧ w.length ≤ 10 := by
  unfold isNumeral at h
  rw [Bool.and_eq_true, Bool.and_eq_true, decide_eq_true_iff] at h
  obtain ⟨h1, h2, _⟩ := h
  have hd := isDigits_all h1
  have hn := (isDigits_iff.mp h1).1
  have bound : ∀ l : List Nat, NumText.AllDigits l → l.length ≤ 9 → NumText.digitsVal l ≤ 999999999 := fun l hl hz => by
    have := digits_lt l hl
    have h10 : 10 ^ l.length ≤ 10 ^ 9 := Nat.pow_le_pow_right (by decide) hz
    have e : (10 : Nat) ^ 9 = 1000000000 := by decide
    omega
  have hr := rp_tl w
  have hlr := len_tl (rp w)
  have hlw := len_tl w
  by_cases hm : (tl w).head? = some 45
  · rw [if_pos hm] at hr
    cases e : tl w with
    | nil => rw [e] at hm; cases hm
    | cons c r =>
      rw [e] at hm hr hlw
      cases hm
      have hr : tl (rp w) = r := hr
      rw [hr] at hd hn hlr
      have t := intText_neg (x := w) (cs := r) e hd hn (by rw [hlw, List.length_cons]; omega)
      unfold numOf
      rw [t]
      refine ⟨rfl, ?_, by rw [hlw, List.length_cons]; omega⟩
      show (-((NumText.digitsVal r : Nat) : Int)).natAbs ≤ _
      have := bound r hd (by omega)
      omega
  · rw [if_neg hm] at hr
    rw [hr] at hd hn hlr
    have t := intText_digits (x := w) hd hn (by omega)
    unfold numOf
    rw [t]
    refine ⟨rfl, ?_, by omega⟩
    show (((NumText.digitsVal (tl w) : Nat) : Int)).natAbs ≤ _
    have := bound _ hd (by omega)
    omega
theorem index_numeral {w : Str} (h : isIndex w = true) : ∃ k : Nat, k < 10 ∧ tl w = [48 + k] := by
  unfold isIndex at h
  rw [Bool.and_eq_true, decide_eq_true_iff, len_tl] at h
  obtain ⟨h1, h2⟩ := h
  obtain ⟨_, h3⟩ := isDigits_iff.mp h2
  match e : tl w, h1 with
  | [c], _ =>
    have := h3 c (by rw [e]; exact List.mem_singleton.mpr rfl)
    exact ⟨c - 48, by omega, by rw [show 48 + (c - 48) = c by omega]⟩
theorem index_text {w : Str} (h : isIndex w = true) : PySem.intText? w = some (numOf w) ∧ 0 ≤ numOf w ∧ numOf w ≤ 9 ∧ w.length ≤ 10 := by
  obtain ⟨k, hk, e⟩ := index_numeral h
  have hd : NumText.AllDigits (tl w) := fun c hc => by rw [e] at hc; rw [List.mem_singleton.mp hc]; omega
  have t := intText_digits (x := w) hd (by show tl w ≠ []; rw [e]; simp) (by rw [len_tl, e]; simp)
  have t : PySem.intText? w = some ((NumText.digitsVal (tl w) : Nat) : Int) := t
  rw [e] at t
  unfold numOf
  rw [t]
  refine ⟨rfl, by simp, ?_, by rw [len_tl, e]; simp⟩
  show (((NumText.digitsVal [48 + k] : Nat) : Int)) ≤ 9
  have : NumText.digitsVal [48 + k] = k := by
    unfold NumText.digitsVal
    simp
  omega
end Um
namespace Um
open PySem PySem.Spec PyProof.Rows Cm TL
open L2 hiding Same
/-! ### what is written is read -/
theorem tl_nt_nat (n : Nat) : tl (nt (n : Int)) = numL n := tl_num n
theorem tl_nt_neg {n : Int} (h : n < 0) : tl (nt n) = 45 :: numL n.natAbs := by
  show tl (Str.ofString (toString n)) = _
  rw [toString_neg h, show (0 - n : Int) = ((n.natAbs : Nat) : Int) by omega, tl_ofString, String.toList_append, List.map_append, ← tl_ofString, ← tl_ofString, tl_num]
  rfl
theorem numL_head {n : Nat} (h : (numL n).head? = some 48) : n = 0 := by
  induction n using Nat.strongRecOn with
  | _ n ih =>
    by_cases h10 : n < 10
    · rw [numL_lt h10] at h
      have : 48 + n = 48 := by injection h
      omega
    · rw [numL_step (by omega)] at h
      have hne := numL_ne (n / 10)
      have h2 : (numL (n / 10)).head? = some 48 := by
        cases e : numL (n / 10) with
        | nil => exact absurd e hne
        | cons c r => rw [e] at h; exact h
      have := ih (n / 10) (by omega) h2
      omega
theorem digits_numL {w : Str} {n : Nat} (e : tl w = numL n) : isDigits w = true := isDigits_iff.mpr ⟨by rw [e]; exact numL_ne n, by rw [e]; exact numL_digits n⟩
theorem numeral_nt {n : Int} (h : n.natAbs ≤ 999999999) : isNumeral (nt n) = true ∧ numOf (nt n) = n := by
  have h9 : (numL n.natAbs).length ≤ 9 := numL_len (by decide) (by omega)
  by_cases hn : n < 0
  · have e := tl_nt_neg hn
    have hr : tl (rp (nt n)) = numL n.natAbs := by rw [rp_tl, e]; rfl
    constructor
    · unfold isNumeral
      rw [Bool.and_eq_true, Bool.and_eq_true, decide_eq_true_iff, Bool.or_eq_true, decide_eq_true_iff, hr, len_tl, hr]
      refine ⟨digits_numL hr, h9, .inl fun z => ?_⟩
      have := numL_head z
      omega
    · unfold numOf
      rw [intText_neg (x := nt n) (cs := numL n.natAbs) e (numL_digits _) (numL_ne _) (by rw [len_tl, e, List.length_cons]; omega), numL_val]
      show -((n.natAbs : Nat) : Int) = n
      omega
  · obtain ⟨m, rfl⟩ : ∃ m : Nat, n = m := ⟨n.natAbs, by omega⟩
    have e := tl_nt_nat m
    have h9 : (numL m).length ≤ 9 := by simpa using h9
    have hne : (tl (nt (m : Int))).head? ≠ some 45 := fun z => by
      rw [e] at z
      have hd := numL_digits m
      cases q : numL m with
      | nil => rw [q] at z; cases z
      | cons c r =>
        rw [q] at z hd
        have : c = 45 := by injection z
        have := hd c List.mem_cons_self
        omega
    have hr : tl (rp (nt (m : Int))) = numL m := by rw [rp_tl, if_neg hne, e]
    constructor
    · unfold isNumeral
      rw [Bool.and_eq_true, Bool.and_eq_true, decide_eq_true_iff, Bool.or_eq_true, decide_eq_true_iff, decide_eq_true_iff, hr, len_tl, hr]
      refine ⟨digits_numL hr, h9, ?_⟩
      by_cases z : (numL m).head? = some 48
      · refine .inr ?_
        have := numL_head z
        subst this
        decide +kernel
      · exact .inl z
    · unfold numOf
      rw [intText_digits (x := nt (m : Int)) (by rw [show (nt (m : Int)).cps.toList = numL m from e]; exact numL_digits m) (by rw [show (nt (m : Int)).cps.toList = numL m from e]; exact numL_ne m) (by rw [len_tl, e]; omega), show (nt (m : Int)).cps.toList = numL m from e, numL_val]
      rfl
def Val.fit : Val → Prop
  | .num n => n.natAbs ≤ 999999999
  | .arg => True
  | .place x k => isName x = true ∧ 0 ≤ k ∧ k ≤ 9
  | .own x => isName x = true
  | .named x => isName x = true
theorem Val.fit.ok : ∀ {v : Val}, v.fit → v.ok
  | .num n, h => Nat.le_trans (show n.natAbs ≤ 999999999 from h) (by decide)
  | .arg, _ => trivial
  | .place x k, h => ⟨isName_ok h.1, by unfold SmI; have := h.2.1; have := h.2.2; omega⟩
  | .own x, h => isName_ok h
  | .named x, h => isName_ok h
/-- no numeral: the first sign is neither a digit nor a minus -/
theorem not_numeral {w : Str} {c : Nat} {r : List Nat} (e : tl w = c :: r) (h1 : ¬ (48 ≤ c ∧ c ≤ 57)) (h2 : c ≠ 45) : isNumeral w = false := by
  have : isDigits (rp w) = false := by
    cases q : isDigits (rp w) with
    | false => rfl
    | true =>
      obtain ⟨_, z⟩ := isDigits_iff.mp q
      rw [rp_tl, if_neg (by rw [e]; intro z; injection z with z; exact h2 z), e] at z
      exact absurd (z c List.mem_cons_self) h1
  unfold isNumeral
  rw [this]
  rfl
theorem ne_word {w y : Str} {c d : Nat} {r q : List Nat} (e : tl w = c :: r) (f : tl y = d :: q) (h : c ≠ d) : w ≠ y := fun z => by
  subst z
  rw [e] at f
  injection f with f1
  exact h f1
theorem value_back : ∀ {v : Val}, v.fit → valueOf v.tx = some v
  | .num n, h => by
    obtain ⟨h1, h2⟩ := numeral_nt h
    show valueOf (nt n) = _
    unfold valueOf
    rw [if_pos h1, h2]
  | .arg, _ => by
    show valueOf "it" = _
    unfold valueOf
    rw [if_neg (by decide +kernel), if_pos rfl]
  | .own x, h => by
    have e : tl (("$" : Str) ++ x) = 36 :: tl x := by rw [tl_append]; rfl
    have hc : cutS (("$" : Str) ++ x) (some 1) none = x := ext_tl (by rw [cut_one, e]; rfl)
    show valueOf ("$" ++ x) = _
    unfold valueOf
    rw [not_numeral e (by decide) (by decide), if_neg (by decide), if_neg (ne_word e (by decide +kernel : tl "it" = [105, 116]) (by decide)), hc, starts_one (c := 36) (by decide +kernel), e, h]
    rfl
  | .named x, h => by
    have e : tl (("#" : Str) ++ x) = 35 :: tl x := by rw [tl_append]; rfl
    have hc : cutS (("#" : Str) ++ x) (some 1) none = x := ext_tl (by rw [cut_one, e]; rfl)
    show valueOf ("#" ++ x) = _
    unfold valueOf
    rw [not_numeral e (by decide) (by decide), if_neg (by decide), if_neg (ne_word e (by decide +kernel : tl "it" = [105, 116]) (by decide)), hc, starts_one (c := 36) (by decide +kernel), starts_one (c := 35) (by decide +kernel), e, h]
    rfl
  | .place x k, h => by
    obtain ⟨h1, h2, h3⟩ := h
    obtain ⟨c, r, ex, hl, hc, hr⟩ := isName_iff.mp h1
    have e : tl (x ++ ("." ++ nt k)) = c :: (r ++ tl ("." ++ nt k)) := by rw [tl_append, ex]; rfl
    obtain ⟨m, rfl⟩ : ∃ m : Nat, k = m := ⟨k.natAbs, by omega⟩
    have hm : m < 10 := by omega
    have hi : isIndex (nt (m : Int)) = true := by
      unfold isIndex
      rw [Bool.and_eq_true, decide_eq_true_iff, len_tl, tl_nt_nat, numL_lt hm]
      exact ⟨rfl, digits_numL (tl_nt_nat m)⟩
    have hp : Txt.partition (x ++ ("." ++ nt (m : Int))) "." = (x, (("." : Str)), nt (m : Int)) := by
      have := partition_app (y := ".") (s := 46) (S := []) (by decide +kernel) (a := x) (b := nt (m : Int)) (isName_free h1 (by decide) (by decide))
      rw [app_assoc] at this
      exact this
    have hit : x ++ ("." ++ nt (m : Int)) ≠ "it" := fun z => by
      have z2 : tl (x ++ ("." ++ nt (m : Int))) = [105, 116] := by rw [z]; decide +kernel
      have : 46 ∈ tl (x ++ ("." ++ nt (m : Int))) := by rw [tl_append, tl_append]; exact List.mem_append_right _ (List.mem_append_left _ (by decide +kernel))
      rw [z2] at this
      simp at this
    show valueOf (x ++ ("." ++ nt (m : Int))) = _
    unfold valueOf
    have s1 : ∀ d, d < 97 → decide ((tl (x ++ ("." ++ nt (m : Int)))).head? = some d) = false := fun d hd => decide_eq_false (by
      rw [e]; intro z; injection z with z; omega)
    rw [not_numeral e (by omega) (by omega), if_neg (by decide), if_neg hit, starts_one (c := 36) (by decide +kernel), starts_one (c := 35) (by decide +kernel), s1 36 (by decide), s1 35 (by decide)]
    rw [if_neg (by simp), if_neg (by simp)]
    unfold placeOf
    rw [hp]
    dsimp only
    rw [h1, hi, (numeral_nt (n := (m : Int)) (by omega)).2]
    rfl
/-! ### written words have no blank and no line feed -/
def Plain (w : Str) : Prop := 32 ∉ tl w ∧ 10 ∉ tl w ∧ tl w ≠ []
theorem Plain.app {a b : Str} (h : Plain a) (g : Plain b) : Plain (a ++ b) := by
  refine ⟨fun z => ?_, fun z => ?_, fun z => ?_⟩
  · rw [tl_append] at z; exact (List.mem_append.mp z).elim h.1 g.1
  · rw [tl_append] at z; exact (List.mem_append.mp z).elim h.2.1 g.2.1
  · rw [tl_append] at z; exact h.2.2 (List.append_eq_nil_iff.mp z).1
theorem plain_name {w : Str} (h : isName w = true) : Plain w := ⟨isName_free h (by decide) (by decide), isName_free h (by decide) (by decide), isName_ne h⟩
theorem plain_nt (n : Int) : Plain (nt n) := by
  by_cases hn : n < 0
  · rw [Plain, tl_nt_neg hn]
    refine ⟨fun z => ?_, fun z => ?_, by simp⟩
    · rcases List.mem_cons.mp z with z | z
      · omega
      · exact numL_free (by decide) z
    · rcases List.mem_cons.mp z with z | z
      · omega
      · exact numL_free (by decide) z
  · obtain ⟨m, rfl⟩ : ∃ m : Nat, n = m := ⟨n.natAbs, by omega⟩
    rw [Plain, tl_nt_nat]
    exact ⟨numL_free (by decide), numL_free (by decide), numL_ne m⟩
theorem plain_val : ∀ {v : Val}, v.fit → Plain v.tx
  | .num n, _ => plain_nt n
  | .arg, _ => by unfold Plain; decide +kernel
  | .place x k, h => (plain_name h.1).app (Plain.app (by unfold Plain; decide +kernel) (plain_nt k))
  | .own x, h => Plain.app (by unfold Plain; decide +kernel) (plain_name h)
  | .named x, h => Plain.app (by unfold Plain; decide +kernel) (plain_name h)
end Um
namespace Um
open PySem PySem.Spec PyProof.Rows Cm TL
open L2 hiding Same
/-! ### the written tables -/
def slotW : List Str := ["unit", "NAME", "late", "cell", "N", "routine", "inner", "start", "tell", "V", "set", "P", "same", "else", "K", "there", "call", "at", "T", "end", "edition", "number", "wants", "first", "ACCESS", "LOCK", "default", "after"]
def causeK : List Str := ["NAME", "N", "K", "T", "V", "P"]
def causeOf (s : Str) : Option Str := if s = "NAME" then some "name" else if s = "N" ∨ s = "K" ∨ s = "T" then some "number" else if s = "V" ∨ s = "P" then some "value" else none
def kindW : List Str := ["shared", "inner", "start"]
def headK : List Str := ["shared", "inner", "start"]
def headOf (s : Str) : Option Str := if s = "shared" then some "routine" else if s = "inner" then some "inner" else if s = "start" then some "start" else none
def ctab (K : PySem.W.Frag) (a : Addr) (s : Str) : Option (Option Str) := match PySem.W.nsIn K a s with
  | some none => some none
  | some (some (.str y _)) => some (some y)
  | _ => none
theorem ctab_at {K : PySem.W.Frag} {a : Addr} {l : List Str} {f : Str → Option Str} (h : l.map (ctab K a) = l.map fun s => some (f s)) {s : Str} (hs : s ∈ l) : ∃ r, PySem.W.nsIn K a s = some r ∧ (match f s with | none => r = none | some y => ∃ t, r = some (.str y t)) := by
  have h2 : ctab K a s = some (f s) := List.map_inj_left.mp h s hs
  unfold ctab at h2
  split at h2
  · rename_i e
    refine ⟨none, e, ?_⟩
    have : f s = none := (Option.some.inj h2).symm
    rw [this]
  · rename_i y t e
    refine ⟨_, e, ?_⟩
    have : f s = some y := (Option.some.inj h2).symm
    rw [this]
    exact ⟨t, rfl⟩
  · cases h2
end Um
/-! (a, b) = a list or a tuple of that length; a def that may raise, where it does not -/
namespace Cm
open PySem PySem.Spec PyProof.Rows
open L2 hiding Same
section
variable {P : Program} {w : World} {A : Around} {E : Value → Shared → Prop} {s : Shared} {l : Addr} {xs : Array Value}
theorem draw_lst {it : Addr} (ne : l ≠ it) : ∀ (n i : Nat) (s : Shared) (Q : List Value → Shared → Prop), s.heap.IsListIter it l i → s.heap.IsList l xs → i + n ≤ xs.size →
    (∀ h', h'.IsListIter it l (i + n) → Heap.SameBut it s.heap h' → Q ((xs.toList.drop i).take n) { s with heap := h' }) → wpAny (model P w) A (draw (.ref it) n) Q E s
  | 0, i, s, Q, k, _, _, q => wpAny_pure (by have := q s.heap k (Heap.SameBut.refl ..); rw [List.take_zero] at this; exact this)
  | n + 1, i, s, Q, k, h, le, q => by
    have lt : i < xs.size := by omega
    show wpAny _ _ (pyNext (.ref it) >>= _) Q E s
    refine wpAny_bind (wpAny_pyNext_list_item k h (x := xs[i]) (by simp [lt]) fun h1 k1 s1 => wpAny_bind (wpAny_holding (draw_lst ne n (i + 1) _ _ k1 (h.extBut s1.extBut ne) (by omega) fun h2 k2 s2 => wpAny_pure ?_)))
    have e : xs.toList.drop i = xs[i] :: xs.toList.drop (i + 1) := by simp [List.drop_eq_getElem_cons, lt]
    have z := q h2 (by rw [show i + (n + 1) = i + 1 + n by omega]; exact k2) (s1.trans s2)
    rw [e, List.take_succ_cons] at z; exact z
theorem unpackI_lst {Q : List Value → Shared → Prop} (hh : A.handled = none) (h : s.heap.IsList l xs)
    (q : ∀ h', Heap.ExtBut s.heap.objs.size s.heap h' → Q xs.toList { s with heap := h' }) : wpAny (model P w) A (unpackItems (.ref l) xs.size none) Q E s := by
  have lt : l ≠ s.heap.objs.size := let ⟨o, ho, _⟩ := h; Nat.ne_of_lt (Heap.lt_size ho)
  unfold unpackItems; refine wpAny_bind ?_
  unfold notIterableAtAll; refine wpAny_bind (wpAny_specialOf h.typeIs slot_list_iter.lookup (wpAny_pure ?_))
  simp only [Bool.false_eq_true, if_false]
  refine wpAny_bind (wpAny_holding (wpAny_pyIter_list h (wpAny_bind (wpAny_holding (draw_lst lt xs.size 0 _ _ ⟨_, Heap.get?_push_size _ rfl, rfl, rfl⟩ (h.push _) (by omega) fun h1 k1 s1 => ?_)))))
  have al : List.take xs.size (List.drop 0 xs.toList) = xs.toList := by rw [List.drop_zero, List.take_of_length_le (by simp)]
  rw [al, if_neg (by simp)]
  have l1 : h1.IsList l xs := (h.push _).extBut s1.extBut lt
  refine wpAny_bind (wpAny_holding (wpAny_pyNext_list_end hh k1 l1 (by simp) fun h2 e2 => ?_))
  simp only [Option.isSome_none, Bool.false_eq_true, if_false]
  exact wpAny_pure (q h2 fun b o hb e => e2 b o hb (s1.extBut b o hb (Heap.get?_push_of_some _ e)))
theorem assign_lst {env : Env} {es : List Expr} {x1} {pos : Pos} {Q : Unit → Shared → Prop} (hh : A.handled = none) (h : s.heap.IsList l xs)
    (hn : (assignEach es env).length = xs.size) (hst : (assignEach es env).findIdx? (·.1) = none)
    (q : ∀ h', Heap.ExtBut s.heap.objs.size s.heap h' → wpAny (model P w) A (assignInOrder ((assignEach es env).map (·.2)) xs.toList) Q E { s with heap := h' }) :
    wpAny (model P w) A (assign (.Tuple es x1 pos) env (.ref l)) Q E s := by
  rw [assign_Tuple]; refine wpAny_bind (wpAny_standAt ?_)
  unfold unpack; rw [hn, hst]; exact wpAny_bind (wpAny_holding (unpackI_lst hh h q))
end
/-- (a, b, ..) = a list or a tuple of that length -/
def gSeqT (K : PySem.W.Frag) (n : Nat) (t : TGs) : TG := fun v σ H Q => ∃ a xs, v = .ref a ∧ Sq K H a xs ∧ xs.length = n ∧ t xs σ H Q
theorem pg_seqT {X : Cx} {es : List Expr} {k : Nat} {pos : Pos} {t : TGs} {n : Nat} (hc : X.calm = true) (h : PGs X es t)
    (hn : (assignEach es X.env).length = n := by rfl) (hst : (assignEach es X.env).findIdx? (·.1) = none := by rfl) : PG X (.Tuple es k pos) (gSeqT X.K n t) := by
  refine ⟨fun pins s σ H v u Q I r hw => ?_⟩
  obtain ⟨a, xs, rfl, hq | hq, hl, hw⟩ := hw
  · cases r
    obtain ⟨its, rv, hz, _⟩ := I.list hq
    refine assign_lst (I.ok.hd hc) hz.isList (by simp [hn, ← hl, rv.length]) hst fun h' hx => ?_
    have I1 : Inv X pins σ H { s with heap := h' } := I.kept (t' := s.toks) fun b o e => hx b o (Nat.ne_of_lt (Heap.lt_size e)) e
    exact h.run pins _ σ H xs _ Q I1 (by simpa using rv) hw
  · exact (pg_tup hc h hn hst).run pins s σ H _ u Q I r ⟨a, xs, rfl, hq, hl, hw⟩
/-- a tuple (t) or a list -/
def SqB (K : PySem.W.Frag) (t : Bool) (H : Hp) (a : Addr) (xs : List V) : Prop := if t = true then SqT K H a xs else SqL K H a xs
theorem SqB.sq {K : PySem.W.Frag} {t : Bool} {H : Hp} {a : Addr} {xs : List V} (h : SqB K t H a xs) : Sq K H a xs := by
  cases t
  · exact .inl h
  · exact .inr h
theorem SqB.same {K : PySem.W.Frag} {t : Bool} {H H' : Hp} {a : Addr} {xs : List V} (k : Same H H') (h : SqB K t H a xs) : SqB K t H' a xs := by
  cases t
  · exact k.sl h
  · exact k.st h
/-- a comprehension over a list or a tuple; what stands is kept -/
theorem lc_seq {K : PySem.W.Frag} {a : Addr} {xs : List V} {g : TG} {tt : TT} {te tl : TE} {vs : List Nat} {σ : L2.St} {H : Hp} {Q : VK} (e : ∀ R : VK, R (.ref a) H → tl σ H R) (hn : Sq K H a xs)
    (b : ∀ D, H D = none → ∃ Pv : Nat → Hp → Prop, Pv 0 (upd H D (.lst [])) ∧ (∀ i H', Pv i H' → Same H H') ∧ (∀ i x H', xs[i]? = some x → Pv i H' → g x (wipe σ vs) H' fun σ2 H2 => wipe σ2 vs = wipe σ vs ∧ tt σ2 H2 fun b H3 =>
      if b = true then te σ2 H3 fun y H4 => ∃ acc, H4 D = some (.lst acc) ∧ acc.length < sizeLine ∧ Pv (i + 1) (upd H4 D (.lst (acc ++ [y]))) else Pv (i + 1) H3) ∧ ∀ H', Pv xs.length H' → Q (.ref D) H') : tLc (iSeq K tl) g tt te vs σ H Q := by
  rcases hn with hn | hn
  · refine .inl (e _ ⟨a, rfl, ⟨xs, hn⟩, fun D hD => ?_⟩)
    obtain ⟨Pv, h0, hl, hs, hd⟩ := b D hD
    exact lc_list Pv h0 (fun i H' _ p => (hl i H' p).sl hn) hs hd
  · refine .inr (e _ ⟨a, rfl, ⟨xs, hn⟩, fun D hD => ?_⟩)
    obtain ⟨Pv, h0, hl, hs, hd⟩ := b D hD
    exact lc_tup Pv h0 (fun i H' _ p => (hl i H' p).st hn) hs hd
/-- where nothing is raised -/
theorem FnOk.calm {P : Program} {w : World} {K : PySem.W.Frag} {mg : Str → Option Value} {base : Heap} {k : Nat} {f : Addr} {fd : FuncData} {ps : List Str} {sp : Sp} (F : FnOk P w K mg base (CX P w) k f fd ps sp) :
    FnOk P w K mg base CX0 k f fd ps (fun vs H Q _ => sp vs H Q fun _ _ _ => False) := by
  refine ⟨fun vs H Q E h => F.len vs H Q _ h, fun A outer s H args us vs Q E hr he hb hv hs => codeAny_mono (F.run A outer s H args us vs Q _ hr he hb hv hs) fun r s' z => ?_⟩
  match r, z with
  | .error e, z => obtain ⟨a, B, H', cls, d, z⟩ := z; exact z.2.2.2.2.2.2.2.elim
  | .ok (.ret u), z => exact z
  | .ok .next, z => exact z
  | .ok .brk, z => exact z
  | .ok .cont, z => exact z
end Cm
/-! enumerate(t) of a tuple; of a list or a tuple -/
namespace Cm
open PySem PySem.Spec PyProof.Rows
open L2 hiding Same
section
open AutoSeq1 (wpAny_loadPart')
theorem enumT_new (t : Addr) (xs : Array Value) (n : Nat) (dc : Option Addr) (sl : Array (Option Value)) :
    Meets (Builtin.«enumerate.__new__» ⟨[.type "enumerate", .ref t], []⟩) (fun _ R s => s.heap.get? t = some { cls := .type "tuple", dict := dc, data := .seq xs n, slots := sl } ∧
      R (.ok (.ret (.ref (s.heap.push { cls := .type "tuple_iterator", data := .fields #[.ref t, .int 0 0] }).objs.size)))
        { s with heap := (s.heap.push { cls := .type "tuple_iterator", data := .fields #[.ref t, .int 0 0] }).push { cls := .type "enumerate", data := .fields #[.none, .bool false, .ref s.heap.objs.size, rawInt 0, .none, .none] } }) :=
  .of_wp fun P w A R s h => by
    obtain ⟨hp, g, d, tk, os⟩ := s; obtain ⟨ht, h⟩ := h; have hs := sub_enumerate
    have hT : Heap.IsTuple (Shared.heap ⟨hp, g, d, tk, os⟩) t xs := ⟨_, ht, rfl, n, rfl⟩
    wp_walk using wpAny_loadPart' ht
    refine wpAny_stack_any fun st => wpAny_pure ?_
    split
    · rename_i c _ _ _ _ _
      cases (c == Value.type "enumerate") <;> (wp_walk using wpAny_loadPart' ht, wpAny_pyIter_tuple hT; exact ⟨_, rfl, h⟩)
    · wp_walk using wpAny_loadPart' ht, wpAny_pyIter_tuple hT
      exact ⟨_, rfl, h⟩
end
theorem enumT_call {P : Program} {w : World} {A : Around} {E : Value → Shared → Prop} {s : Shared} {t : Addr} {xs : Array Value} {Q : Value → Shared → Prop} (hT : s.heap.IsTuple t xs)
    (h : ∀ h', IsEnum h' (s.heap.objs.size + 1) s.heap.objs.size 0 .none → h'.IsTupleIter s.heap.objs.size t 0 → (∀ b o, s.heap.get? b = some o → h'.get? b = some o) → Q (.ref (s.heap.objs.size + 1)) { s with heap := h' }) :
    wpAny (model P w) A (call (.type "enumerate") [.ref t]) Q E s := by
  obtain ⟨⟨c, dc, dt, sl⟩, ht, e1, n, e2⟩ := hT
  obtain rfl : c = .type "tuple" := e1
  obtain rfl : dt = .seq xs n := e2
  refine callType_new F.called_enumerate (by decide) (F.typeCall_enumerate_1 _) (F.newCall_enumerate_1 _) (fun obj => F.args_object_init_2 obj _) F.entry_enumerate_new (enumT_new t xs n dc sl) ⟨ht, ?_⟩
  have hz : (s.heap.push { cls := .type "tuple_iterator", data := .fields #[.ref t, .int 0 0] }).objs.size = s.heap.objs.size + 1 := Heap.size_push ..
  show _ ∧ _; rw [hz]
  have he : IsEnum ((s.heap.push { cls := .type "tuple_iterator", data := .fields #[.ref t, .int 0 0] }).push { cls := .type "enumerate", data := .fields #[.none, .bool false, .ref s.heap.objs.size, rawInt 0, .none, .none] }) (s.heap.objs.size + 1) s.heap.objs.size 0 .none := by
    rw [← hz]; exact Heap.get?_push_size _ rfl
  exact ⟨⟨_, he, rfl⟩, h _ he ⟨_, Heap.get?_push_of_some _ (Heap.get?_push_size _ rfl), rfl, rfl⟩ fun b o x => Heap.get?_push_of_some _ (Heap.get?_push_of_some _ x)⟩
/-- the tuple at a, each item in a new pair -/
def IteT (K : PySem.W.Frag) (a : Addr) : It :=
  ⟨fun i H => ∃ (xs : List V) (x : V), SqT K H a xs ∧ xs[i]? = some x, fun i H v H' => ∃ T x, v = .ref T ∧ H T = none ∧ H' = upd H T (.tup [.int (i : Nat), x]) ∧ ∀ xs, SqT K H a xs → xs[i]? = some x, fun i H => ∃ xs : List V, SqT K H a xs ∧ xs.length ≤ i⟩
theorem turn_enumT {P : Program} {w : World} {K : PySem.W.Frag} {es : List Expr} {kk : Nat} {tpos : Pos} (a e it : Addr) :
    Turn P w K (.Tuple es kk tpos) (IteT K a) [e, it] e (fun i h => (∃ old, IsEnum h e it ((i : Nat) : Int) old) ∧ h.IsTupleIter it a i ∧ e ≠ it) where
  mem := by simp
  obj := fun i h st b hb => by
    obtain ⟨⟨old, he⟩, ⟨o, ho, hc, hd⟩, _⟩ := st
    rcases (show b = e ∨ b = it by simpa using hb) with z | z
    · rw [z]; exact ⟨_, he, fun v q => nomatch q⟩
    · rw [z]; exact ⟨o, ho, fun v q => by rw [hd] at q; cases q⟩
  keep := fun i h h' st k => let ⟨⟨old, he⟩, ⟨o, ho, r⟩, hne⟩ := st; ⟨⟨old, k e (by simp) _ he⟩, ⟨o, k it (by simp) o ho, r⟩, hne⟩
  item := by
    intro X hP hw hK hc i pins s σ H E I hf st hg
    subst hP hw hK
    obtain ⟨⟨old, he⟩, hit, hne⟩ := st
    obtain ⟨xs, x, hq, hx⟩ := hg
    obtain ⟨its, rv, p, hz⟩ := I.tuple hq
    obtain ⟨u, hu, ru⟩ := rv.get hx
    have hel : e < s.heap.objs.size := Heap.lt_size he
    have hil : it < s.heap.objs.size := let ⟨_, q, _⟩ := hit; Heap.lt_size q
    have hai : a ≠ it := fun z => by
      obtain ⟨o1, q1, c1, _⟩ := p; obtain ⟨o2, q2, c2, _⟩ := hit
      rw [z, q2] at q1; cases q1; rw [c2] at c1; exact absurd c1 (by decide)
    have hae : e ≠ a := fun z => by
      obtain ⟨o1, q1, c1, _⟩ := p
      rw [← z, he] at q1; cases q1; exact absurd (show Value.type "enumerate" = Value.type "tuple" from c1) (by decide)
    have lt : i < its.toArray.size := by have := (List.getElem?_eq_some_iff.mp hu).1; simpa using this
    refine wpAny_pyNext_enum_itemD (Draws.tuple (A := X.A.in1) (I.ok.hd hc) it a hai its.toArray) he ⟨hit, p⟩ lt hne (by simp [hne, hae]) fun v h' tk hv ho hst hT hsz hk => ?_
    obtain ⟨hit', _⟩ := hst
    have ev : v = u := by rw [List.getElem?_toArray, hu] at hv; exact (Option.some.inj hv).symm
    subst ev
    refine ⟨_, rfl, wpAny_letOwnedTupleGo_enum (s := { s with heap := h', toks := tk + 1 }) ho fun h'' he' sb => ?_⟩
    have hT2 : h''.get? s.heap.objs.size = some { cls := .type "tuple", data := .seq #[.int i tk, v] } := (sb.2 _ (Nat.ne_of_gt hel)).trans hT
    have new : ObjOk X.prog X.w (upd H s.heap.objs.size (.tup [.int (i : Nat), x])) h'' s.heap.objs.size (.tup [.int (i : Nat), x]) :=
      ⟨by show 2 ≤ sizeLine; decide, [.int i tk, v], .cons ⟨_, rfl⟩ (.cons ru .nil), ⟨_, hT2, rfl, _, rfl⟩⟩
    have I1 : Inv X pins σ (upd H s.heap.objs.size (.tup [.int (i : Nat), x])) { s with heap := h'', toks := tk + 1 } :=
      I.turnedNew (ch := [e, it]) (fun b ob hb q => (sb.2 b (fun z => hb (by simp [z]))).trans (hk b ob (fun z => hb (by simp [z])) (fun z => hb (by simp [z])) q)) hf (Nat.le_refl _) new
    refine ⟨.ref s.heap.objs.size, _, I1, rfl, ⟨_, x, rfl, I.hok.fresh (Nat.le_refl _), rfl, fun ys hy => by rw [I.tuple_inj hy hq]; exact hx⟩, ⟨⟨v, ?_⟩, ?_, hne⟩, fun b hb => ?_⟩
    · rw [show ((i + 1 : Nat) : Int) = (i : Int) + 1 by omega]; exact he'
    · obtain ⟨o, q, r⟩ := hit'
      exact ⟨o, (sb.2 it (Ne.symm hne)).trans q, r⟩
    · have hb' : b < s.heap.objs.size := by
        rcases (show b = e ∨ b = it by simpa using hb) with z | z
        · rw [z]; exact hel
        · rw [z]; exact hil
      rw [upd_ne (Nat.ne_of_lt hb')]; exact (hf b hb).1
  done := by
    intro X hP hw hK hc i pins s σ H E I hf st hg
    subst hP hw hK
    obtain ⟨⟨old, he⟩, hit, hne⟩ := st
    obtain ⟨xs, hq, hx⟩ := hg
    obtain ⟨its, rv, p, hz⟩ := I.tuple hq
    obtain ⟨f0, f1, f2, f3, f4, f5⟩ := hf it (by simp)
    have hl := rv.length
    have hT : s.TypeIs (.ref e) "enumerate" := ⟨_, he, rfl⟩
    unfold pyNext
    refine wpAny_bind (wpAny_attempt (wpAny_callSpecial?_slot (name := Str.ofString "__next__") hT F.slot_enumerate_next (wpAny_call_entry F.slot_enumerate_next hT F.entry_enumerate_next ?_ (F.args_enumerate_next_1 _))))
    show wpAny _ _ (field (.ref e) 2 >>= _) _ _ _
    refine wpAny_bind (wpAny_field he rfl (x := .ref it) rfl (wpAny_bind (wpAny_nextOf_tuple_end (A := X.A.in1) (I.ok.hd hc) hit p (by simp; omega) fun h' x eb hx' => ?_)))
    obtain ⟨o, ho, hcx⟩ := hx'
    refine wpAny_bind (wpAny_isInstance (T := "StopIteration") (b := true) ⟨o, ho, hcx⟩ isSubtype_stop (wpAny_pure ?_))
    exact ⟨rfl, I.turned (t' := s.toks) (fun b o hb q => eb b o hb q) f0 f1 f3 f4 f5⟩
  self := fun A i s Q E st h => let ⟨⟨_, he⟩, _⟩ := st; wpAny_pyIter_enum he h
def iEnumS (K : PySem.W.Frag) (ta : TA) : TI := fun σ H R => iEnum K ta σ H R ∨ ta σ H fun vs H1 => ∃ a xs, vs = [.ref a] ∧ SqT K H1 a xs ∧ R (IteT K a) H1
theorem pi_enumS {X : Cx} {e : Expr} {ta : TA} {p pos tpos : Pos} {es : List Expr} {kk : Nat} (hg : Gl X "enumerate") (hm : X.mg "enumerate" = none) (ha : PA X [e] ta) (hs : starEach [e] X.env = [(false, eval e X.env)] := by rfl) :
    PI X (.Tuple es kk tpos) (.Call (.Name "enumerate" p) [e] [] pos) (iEnumS X.K ta) := by
  refine PI.or2 (pi_enum hg hm ha hs) ⟨fun pins s σ H R I h => ?_⟩
  refine Call_ (ld_blt I hg hm boot_enumerate (PyProof.Rows.callWith_type1 (thn (ha.run pos pins s σ H _ I h) fun us s1 ⟨vs, H1, I1, r1, q1⟩ => ?_) hs rfl))
  obtain ⟨a, xs, ex, hq, q⟩ := q1
  subst ex
  cases r1 with
  | cons r rr =>
    cases rr; cases r
    obtain ⟨its, rv, p', hz⟩ := I1.tuple hq
    refine enumT_call p' fun h' he hit hk => wpAny_pyIter_enum he ?_
    refine ⟨s1.heap.objs.size + 1, [s1.heap.objs.size + 1, s1.heap.objs.size], _, _, H1, rfl, I1.kept (t' := s1.toks) hk, turn_enumT a (s1.heap.objs.size + 1) s1.heap.objs.size, ⟨⟨.none, he⟩, hit, Nat.succ_ne_self _⟩, fun b hb => ?_, q⟩
    have hle : s1.heap.objs.size ≤ b := by
      rcases (show b = s1.heap.objs.size + 1 ∨ b = s1.heap.objs.size by simpa using hb) with z | z <;> rw [z] <;> simp
    exact I1.fpOk hle (I1.hok.fresh hle)
/-- the walk: Pv by the turn; what stands is kept -/
theorem for_enumS {K : PySem.W.Frag} {t : Bool} {a : Addr} {xs : List V} {ta : TA} {g : TG} {tb : TS} {D : Ends} {σ : L2.St} {H : Hp} (e : ∀ R : List V → Hp → Prop, R [.ref a] H → ta σ H R) (hn : SqB K t H a xs) (Pv : Nat → L2.St → Hp → Prop) (h0 : Pv 0 σ H)
    (hl : ∀ i σ H', Pv i σ H' → SqB K t H' a xs)
    (hs : ∀ i x σ H' T, xs[i]? = some x → Pv i σ H' → H' T = none → g (.ref T) σ (upd H' T (.tup [.int (i : Nat), x])) fun σ2 H2 => tb { D with nx := Pv (i + 1), ct := Pv (i + 1), bk := D.nx } σ2 H2) (hd : ∀ σ H, Pv xs.length σ H → D.nx σ H) : tFor (iEnumS K ta) g tb D σ H := by
  cases t with
  | false =>
    refine .inl (e _ ⟨a, xs, rfl, hn, for_it (walk_enum (K := K) (a := a) (xs := xs)) Pv h0 (fun i σ H' _ p => hl i σ H' p) ?_ hd⟩)
    rintro i x σ H1 H2 hi p ⟨T, x1, x2, rfl, hT, rfl, e1, e2⟩
    cases Option.some.inj e1
    exact hs i x2 σ H1 T e2 p hT
  | true =>
    have W : Walk (IteT K a) xs.length (fun H => SqT K H a xs) (YPair (fun i => some (.int (i : Nat))) (fun i => xs[i]?)) := by
      refine ⟨fun i _ hi q => ⟨xs, xs[i], q, by simp [hi]⟩, fun _ q => ⟨xs, q, Nat.le_refl _⟩, fun i H v H' _ q y => ?_⟩
      obtain ⟨T, x, h1, h2, h3, h4⟩ := y
      exact ⟨T, .int (i : Nat), x, h1, h2, h3, rfl, h4 xs q⟩
    refine .inr (e _ ⟨a, xs, rfl, hn, for_it W Pv h0 (fun i σ H' _ p => hl i σ H' p) ?_ hd⟩)
    rintro i x σ H1 H2 hi p ⟨T, x1, x2, rfl, hT, rfl, e1, e2⟩
    cases Option.some.inj e1
    exact hs i x2 σ H1 T e2 p hT
end Cm
namespace Cm
open PySem PySem.Spec PyProof.Rows
open L2 hiding Same
/-! ### defs that may raise, each as one fact -/
def CalX (P : Program) (w : World) (K : PySem.W.Frag) (mg : Str → Option Value) (base : Heap) (k : Nat) (x : Str) (sp : Sp) : Prop :=
  ∃ f fd ps, FnOk P w K mg base (CX P w) k f fd ps sp ∧ Binds K fd ps [] ∧ mg x = some (.ref f) ∧ PySem.W.keepIn K (.ref f) = true
def MCalX (P : Program) (w : World) (K : PySem.W.Frag) (mg : Str → Option Value) (base : Heap) (k : Nat) (C : Addr) (m : Str) (sp : Sp) : Prop :=
  Cls K C ∧ ∃ f fd ps, FnOk P w K mg base (CX P w) k f fd ps sp ∧ Binds K fd ps [] ∧ Meth K C m f
def KCalX (P : Program) (w : World) (K : PySem.W.Frag) (mg : Str → Option Value) (base : Heap) (k : Nat) (x : Str) (C : Addr) (sp : Sp) (dv : List V) : Prop :=
  mg x = some (.ref C) ∧ ∃ f fd ps ds, Mk K C f ∧ FnOk P w K mg base (CX P w) k f fd ps sp ∧ Binds K fd ps ds ∧ Vals dv ds
/-- where nothing is raised -/
abbrev calm (sp : Sp) : Sp := fun vs H Q _ => sp vs H Q fun _ _ _ => False
theorem CalX.calm {P : Program} {w : World} {K : PySem.W.Frag} {mg : Str → Option Value} {base : Heap} {k : Nat} {x : Str} {sp : Sp} (c : CalX P w K mg base k x sp) : Cal P w K mg base k x (calm sp) :=
  let ⟨f, fd, ps, F, r⟩ := c; ⟨f, fd, ps, FnOk.calm F, r⟩
theorem MCalX.calm {P : Program} {w : World} {K : PySem.W.Frag} {mg : Str → Option Value} {base : Heap} {k : Nat} {C : Addr} {m : Str} {sp : Sp} (c : MCalX P w K mg base k C m sp) : MCal P w K mg base k C m (calm sp) :=
  let ⟨cl, f, fd, ps, F, r⟩ := c; ⟨cl, f, fd, ps, FnOk.calm F, r⟩
theorem KCalX.calm {P : Program} {w : World} {K : PySem.W.Frag} {mg : Str → Option Value} {base : Heap} {k : Nat} {x : Str} {C : Addr} {sp : Sp} {dv : List V} (c : KCalX P w K mg base k x C sp dv) : KCal P w K mg base k x C (calm sp) dv :=
  let ⟨g, f, fd, ps, ds, M, F, r⟩ := c; ⟨g, f, fd, ps, ds, M, FnOk.calm F, r⟩
section
variable {X : Cx} {j k : Nat} {x m : Str} {C : Addr} {sp : Sp} {E : XK} {dv : List V} {e o : Expr} {es : List Expr} {p pos apos : Pos} {t : TA} {ta : TE}
theorem pe_calX (c : CalX X.prog X.w X.K X.mg X.base k x sp) (hr : Room j X.A) (hk : k ≤ j) (hx : Passes (CX X.prog X.w) X E) (ha : PA X (e :: es) t) (hg : Gl X x := by rfl) (hd : (x == ("__debug__" : Str)) = false := by decide)
    (h1 : starEach (e :: es) X.env = (false, eval e X.env) :: starEach es X.env := by rfl) (h2 : (backTo pos (starEach es X.env)).any (·.1) = false := by rfl) :
    PE X (.Call (.Name x p) (e :: es) [] pos) (tCall sp [] E t) := by
  obtain ⟨f, fd, ps, F, b, g, kp⟩ := c
  exact pe_call F (hr.mono hk) hg g kp b .nil hx ha hd h1 h2
theorem pe_kalX (c : KCalX X.prog X.w X.K X.mg X.base k x C sp dv) (hr : Room j X.A) (hk : k + 1 ≤ j) (hx : Passes (CX X.prog X.w) X E) (ha : PA X (e :: es) t) (hg : Gl X x := by rfl) (hd : (x == ("__debug__" : Str)) = false := by decide)
    (h1 : starEach (e :: es) X.env = (false, eval e X.env) :: starEach es X.env := by rfl) (h2 : (backTo pos (starEach es X.env)).any (·.1) = false := by rfl) :
    PE X (.Call (.Name x p) (e :: es) [] pos) (tMake C sp dv E t) := by
  obtain ⟨g, f, fd, ps, ds, M, F, b, v⟩ := c
  exact pe_make M F (hr.mono hk) hg g b v hx ha hd h1 h2
theorem pe_mcalX {pl : Sem Bool} (c : MCalX X.prog X.w X.K X.mg X.base k C m sp) (hr : Room j X.A) (hk : k ≤ j) (hx : Passes (CX X.prog X.w) X E) (ho : PE X o ta) (ha : PA X (e :: es) t)
    (hst : starEach (e :: es) X.env = (false, eval e X.env) :: starEach es X.env := by rfl) (hpl : (backTo pos (starEach es X.env)).any (·.1) = false := by rfl)
    (ht : eval (.Call (.Attribute o m apos) (e :: es) [] pos) X.env = (do
      let ov ← eval o X.env
      standAt apos.atName
      let (f, first) ← holding [ov] (getMethod ov m pl)
      callWith pos f first (backTo pos (starEach (e :: es) X.env)) (backToKw pos (keywordEach [] X.env))) := by rfl) : PE X (.Call (.Attribute o m apos) (e :: es) [] pos) (tMeth C m sp [] E ta t) := by
  obtain ⟨cl, f, fd, ps, F, b, M⟩ := c
  exact pe_meth (pl := pl) ho cl M F (hr.mono hk) b .nil hx ha hst hpl ht
end
end Cm
namespace Cm
open PySem PySem.Spec PyProof.Rows L2
/-! ### operators, in, len of an instance by its own defs -/
section
open PySem.W
variable {prog : Program} {w : World} {A : Around} {E : Value → Shared → Prop} {s : Shared} {K : PySem.W.Frag} {x y C f : Addr} {ox oy : Obj} {od od' : Option Obj}
theorem bin_same {op : Operator} {Q : Value → Shared → Prop} (X : K.In s.heap) (I : InstAt s.heap x ox C od) (J : InstAt s.heap y oy C od') (hc : selfFirst K C = true)
    (hs : findIn K (.ref C) (PySem.dunder op.info.2) = some (some (.ref f))) (hf : isFn K (.ref f) = true) (h : wpAny (model prog w) A (call (.ref f) [.ref x, .ref y]) (PySem.W.CmpBack Q) E s) :
    wpAny (model prog w) A (binaryOp op (.ref x) (.ref y)) Q E s := by
  obtain ⟨cd, rest, hcd, hm⟩ := ksp_first hc
  rcases hi : op.info with ⟨sym, nm'⟩
  rw [hi] at hs
  dsimp only at hs
  have one := ksp_try X I hs hf h
  obtain ⟨hh, g, d, tt, os⟩ := s
  have L1 : Looks (model prog w) hh (typeOf (.ref x)) (.ref C) := I.type
  have L2 : Looks (model prog w) hh (typeOf (.ref y)) (.ref C) := J.type
  have L3 : Looks (model prog w) hh (fillsNumberSlot (.ref C) nm') true := fills_K X hcd hm hs
  have e1 : (Value.ref C == Value.ref C) = true := beq_self_eq_true _
  simp only [binaryOp, hi]
  refine wpAny_holding (wpAny_bind ?_)
  unfold binaryOp1
  refine wpAny_bind (L1.at (wpAny_bind (L2.at (wpAny_bind (L3.at ?_)))))
  simp only [e1, if_true]
  ksp_lk
  refine wpAny_mono one (fun r s' hr' => ?_) fun _ _ e => e
  obtain ⟨v, rfl, hq⟩ := hr'
  ksp_lk
  exact hq
theorem own_in {v : Value} {Q : Bool → Shared → Prop} (X : K.In s.heap) (I : InstAt s.heap x ox C od) (hs : findIn K (.ref C) "__contains__" = some (some (.ref f))) (hf : isFn K (.ref f) = true)
    (h : wpAny (model prog w) A (call (.ref f) [.ref x, v]) (fun r s' => ∃ b, r = .bool b ∧ Q b s') E s) : wpAny (model prog w) A (contains (.ref x) v) Q E s := by
  have hf2 := beq_iff_eq.mp hf
  unfold contains
  refine wpAny_holding ?_
  show wpAny _ _ (specialOf (.ref x) "__contains__" >>= _) _ _ _
  refine wpAny_bind ?_
  refine wpAny_bind (I.type.here ((looks_findIn X hs).here ?_))
  refine KFB.if_not rfl ?_
  refine wpAny_bind ?_
  unfold callSpecialUnlessNone?
  refine wpAny_bind ?_
  refine wpAny_bind (I.type.here ((looks_findIn X hs).here ?_))
  refine wpAny_holding (wpAny_bind ((bind_fn X _ hf2).here ?_))
  refine KFB.if_not rfl ?_
  refine wpAny_bind (wpAny_mono h (fun r s' z => ?_) fun _ _ e => e)
  obtain ⟨b, rfl, q⟩ := z
  exact wpAny_pure (wpAny_pure q)
end
/-! ### the same over the layer -/
section
variable {X : Cx} {j k : Nat} {m : Str}
def rOwnBin (P : Program) (w : World) (K : PySem.W.Frag) (mg : Str → Option Value) (base : Heap) (k : Nat) (m : Str) : R2 := fun x y H Q =>
  ∃ a b C dx dy fs gs sp, x = .ref a ∧ y = .ref b ∧ H a = some (.ins C dx fs) ∧ H b = some (.ins C dy gs) ∧ PySem.W.selfFirst K C = true ∧ MCal P w K mg base k C m sp ∧ sp [x, y] H Q E0
theorem op_ownBin {op : Operator} (hm : m = PySem.dunder op.info.2) (hr : Room j X.A) (hk : k ≤ j) : OpR X (binaryOp op) (rOwnBin X.prog X.w X.K X.mg X.base k m) := by
  intro pins s σ H x y v u Q I rx ry h
  obtain ⟨a, b', C, dx, dy, fs, gs, sp, ex, ey, ha, hb, hc, ⟨c, f, fd, ps, F, b, M⟩, q⟩ := h
  subst ex ey hm
  cases (show v = Value.ref a from rx)
  cases (show u = Value.ref b' from ry)
  obtain ⟨mA, O, _⟩ := ins_get I.hok ha
  obtain ⟨od, J, _⟩ := O.look
  obtain ⟨mB, O', _⟩ := ins_get I.hok hb
  obtain ⟨od', J', _⟩ := O'.look
  refine bin_same I.kIn J J' hc M.at_ M.fn ?_
  refine wpAny_mono (run_fn (us := [.ref a, .ref b']) (vs := [.ref a, .ref b']) F (hr.mono hk) b .nil pass0 I (.cons rfl (.cons rfl .nil)) q) ?_ fun _ _ z => z
  rintro r s' ⟨z, H', I', rz, qz⟩
  exact SlX.cmpback rz ⟨z, H', I', rz, qz⟩
def rOwnIn (P : Program) (w : World) (K : PySem.W.Frag) (mg : Str → Option Value) (base : Heap) (k : Nat) (neg : Bool) : R2 := fun x y H Q =>
  ∃ a C dx fs sp, y = .ref a ∧ H a = some (.ins C dx fs) ∧ MCal P w K mg base k C "__contains__" sp ∧ sp [y, x] H (fun z H' => ∃ b, z = .bl b ∧ Q (.bl (if neg then !b else b)) H') E0
theorem op_ownIn (hr : Room j X.A) (hk : k ≤ j) : OpR X (compareOp .In) (rOwnIn X.prog X.w X.K X.mg X.base k false) := by
  intro pins s σ H x y v u Q I rx ry h
  obtain ⟨a, C, dx, fs, sp, ey, ha, ⟨c, f, fd, ps, F, b, M⟩, q⟩ := h
  subst ey
  cases (show u = Value.ref a from ry)
  obtain ⟨mA, O, _⟩ := ins_get I.hok ha
  obtain ⟨od, J, _⟩ := O.look
  refine wpAny_bind (own_in I.kIn J M.at_ M.fn ?_)
  refine wpAny_mono (run_fn (us := [.ref a, v]) (vs := [.ref a, x]) F (hr.mono hk) b .nil pass0 I (.cons rfl (.cons rx .nil)) q) ?_ fun _ _ z => z
  rintro r s' ⟨z, H', I', rz, b, ez, qz⟩
  subst ez
  cases (show r = Value.bool b from rz)
  exact ⟨b, rfl, wpAny_pure ⟨.bl b, H', I', rfl, qz⟩⟩
theorem op_ownNotIn (hr : Room j X.A) (hk : k ≤ j) : OpR X (compareOp .NotIn) (rOwnIn X.prog X.w X.K X.mg X.base k true) := by
  intro pins s σ H x y v u Q I rx ry h
  obtain ⟨a, C, dx, fs, sp, ey, ha, ⟨c, f, fd, ps, F, b, M⟩, q⟩ := h
  subst ey
  cases (show u = Value.ref a from ry)
  obtain ⟨mA, O, _⟩ := ins_get I.hok ha
  obtain ⟨od, J, _⟩ := O.look
  refine wpAny_bind (own_in I.kIn J M.at_ M.fn ?_)
  refine wpAny_mono (run_fn (us := [.ref a, v]) (vs := [.ref a, x]) F (hr.mono hk) b .nil pass0 I (.cons rfl (.cons rx .nil)) q) ?_ fun _ _ z => z
  rintro r s' ⟨z, H', I', rz, b, ez, qz⟩
  subst ez
  cases (show r = Value.bool b from rz)
  exact ⟨b, rfl, wpAny_pure ⟨.bl (!b), H', I', rfl, qz⟩⟩
end
/-! ### len(x) by an own __len__ -/
section
variable {X : Cx} {j k : Nat}
theorem run_in {A' : Around} {pins : List (Addr × Obj)} {σ : L2.St} {H : Hp} {s : Shared} {Q : VK} {f : Addr} {fd : FuncData} {ps : List Str} {sp : Sp} {us : List Value} {vs : List V} (F : FnOk X.prog X.w X.K X.mg X.base CX0 k f fd ps sp) (hr : Room k A')
    (e0 : Env0 X.prog X.w X.K X.mg X.base A' X.stack s H) (hb : Binds X.K fd ps []) (I : Inv X pins σ H s) (r : Vals vs us) (h : sp vs H Q E0) : wpAny (model X.prog X.w) A' (call (.ref f) us) (EP X pins σ Q) X.xe s := by
  have hl : (us ++ []).length = ps.length := by rw [List.append_nil, ← r.length]; exact F.len _ _ _ _ h
  have b2 := hb s us I.kIn hl
  rw [List.append_nil] at b2
  refine wpAny_call (codeAny_mono (F.run A' X.stack s H ⟨us, []⟩ us vs Q E0 hr e0 b2 r h) fun r s2 z => ?_)
  match r, z with
  | .error e, z => exact (pass0 (X := X)) pins σ H s e s2 I z
  | .ok (.ret u), z => exact I.after z
  | .ok .next, z => exact (show False from z).elim
  | .ok .brk, z => exact (show False from z).elim
  | .ok .cont, z => exact (show False from z).elim
theorem call_ownLen (hr : Room j X.A) (hk : k + 1 ≤ j) : CallR X (.builtin "len") (fun xs H Q => ∃ a C dx fs sp, xs = [.ref a] ∧ H a = some (.ins C dx fs) ∧ MCal X.prog X.w X.K X.mg X.base k C "__len__" sp ∧ sp [.ref a] H (fun z H' => ∃ i : Int, z = .int i ∧ 0 ≤ i ∧ i < 2 ^ 63 ∧ Q (.int i) H') E0) := by
  intro pins s σ H xs us Q I r h
  obtain ⟨a, C, dx, fs, sp, rfl, ha, ⟨c, f, fd, ps, F, b, M⟩, q⟩ := h
  obtain ⟨u, rfl, e⟩ := vals1 r
  cases (show u = Value.ref a from e)
  obtain ⟨mA, O, _⟩ := ins_get I.hok ha
  obtain ⟨od, J, _⟩ := O.look
  refine PySem.Calls.call_function_entry PySem.kind_len PySem.plain_len PySem.entry_len (PySem.args_len1 _) ?_
  unfold Builtin.«len»
  refine wpAny_bind (m := oneArg "len" _) (wpAny_pure ?_)
  refine wpAny_bind (PySem.W.special_fn I.kIn J M.at_ (beq_iff_eq.mp M.fn) ?_)
  refine wpAny_mono (run_in (us := [.ref a]) (vs := [.ref a]) F (hr.mono hk).in1 I.env0.in1 b I (.cons rfl .nil) q) ?_ fun _ _ z => z
  rintro r s2 ⟨z, H', I', rz, i, ez, i0, i1, qz⟩
  subst ez
  obtain ⟨t, rfl⟩ := (show ∃ t, r = Value.int i t from rz)
  refine wpAny_bind (wpAny_holding (wpAny_pure ?_))
  refine wpAny_bind (wpAny_letGo ?_)
  show wpAny _ _ (if i < 0 then _ else _) _ _ _
  rw [if_neg (by omega)]
  show wpAny _ _ (if i ≥ 2 ^ 63 then _ else _) _ _ _
  rw [if_neg (by omega)]
  exact wpAny_bind (wpAny_mkInt (wpAny_pure ⟨_, rfl, ⟨.int i, H', I'.tok _, ⟨_, rfl⟩, qz⟩⟩))
end
/-! ### str(x) by an own __str__ -/
section
open PySem.W PySem.Calls
variable {prog : Program} {w : World} {A : Around} {E : Value → Shared → Prop} {s : Shared} {K : PySem.W.Frag} {x C f : Addr} {ox : Obj} {od : Option Obj}
theorem strOf_own {A : Around} {Q : Value → Shared → Prop} (hu : A.units < cLine) (X : K.In s.heap) (I : InstAt s.heap x ox C od) (hs : findIn K (.ref C) "__str__" = some (some (.ref f))) (hf : isFn K (.ref f) = true)
    (h : wpAny (model prog w) A (call (.ref f) [.ref x]) (fun r s' => ∃ y u, r = .str y u ∧ Q r s') E s) : wpAny (model prog w) A (PySem.Builtin.Str.strOf (.ref x)) (fun r s' => ∃ y u, r = .str y u ∧ Q r s') E s := by
  unfold PySem.Builtin.Str.strOf
  rw [show PySem.Builtin.Str.isExactStr (.ref x) = false from rfl]
  refine wpAny_bind (m := cRoomFor _ _) (wpAny_cRoomFor hu ?_)
  refine wpAny_bind (special_fn X I hs (beq_iff_eq.mp hf) (wpAny_mono h (fun r s2 z => ?_) fun _ _ y => y))
  obtain ⟨y, u, rfl, q⟩ := z
  exact wpAny_pure ⟨y, u, rfl, q⟩
theorem str_own {Q : Value → Shared → Prop} (hu : A.in1.in1.units < cLine) (X : K.In s.heap) (I : InstAt s.heap x ox C od) (hs : findIn K (.ref C) "__str__" = some (some (.ref f))) (hf : isFn K (.ref f) = true)
    (h : wpAny (model prog w) A.in1.in1 (call (.ref f) [.ref x]) (fun r s' => ∃ y u, r = .str y u ∧ Q r s') E s) : wpAny (model prog w) A (call (.type "str") [.ref x]) Q E s := by
  have one := strOf_own (A := A.in1.in1) hu X I hs hf h
  refine callType_codes (T := "str") (Bi := PySem.Builtin.«object.__init__») (Q₁ := fun r t => ∃ y u, r = .str y u ∧ Q r t) PySem.F.called_str (PySem.F.typeCall_str_1 _) PySem.F.entry_object_init (codeAny_of_tree ?_) ?_
  · show wpAny _ A.in1.in1 (do checkBuiltinCall "str.__new__" ⟨[.type "str", .ref x], []⟩; again (.builtin "str.__new__" ⟨[.type "str", .ref x], []⟩)) _ _ s
    refine wpAny_bind (wpAny_of_eq (PySem.F.newCall_str_1 _) (wpAny_pure ⟨PySem.plainId_quiet (by decide +kernel) _, codeAny_builtin PySem.F.entry_str_new ?_⟩))
    rw [Around.under_plainId (by decide +kernel) _, PySem.str_new_tree]
    refine wpAny_bind (wpAny_pure (wpAny_bind (wpAny_of_eq PySem.isSubtype_str_str ?_)))
    exact wpAny_bind (wpAny_mono one (fun r t z => wpAny_pure z) fun _ _ y => y)
  · rintro obj t ⟨y, u, rfl, q⟩
    exact ⟨typeIs_str _ _ _, PySem.F.args_object_init_2 _ _, PySem.object_init_meets PySem.F.called_str.init.lookup PySem.F.called_str.made (by decide) prog w A.in1 _ t ⟨typeIs_str _ _ _, rfl, q⟩⟩
end
section
variable {X : Cx} {j k : Nat}
theorem call_ownStr (hr : Room j X.A) (hk : k + 2 ≤ j) : CallR X (.type "str") (fun xs H Q => ∃ a C dx fs sp, xs = [.ref a] ∧ H a = some (.ins C dx fs) ∧ MCal X.prog X.w X.K X.mg X.base k C "__str__" sp ∧ sp [.ref a] H (fun z H' => ∃ y, z = .str y ∧ Q (.str y) H') E0) := by
  intro pins s σ H xs us Q I r h
  obtain ⟨a, C, dx, fs, sp, rfl, ha, ⟨c, f, fd, ps, F, b, M⟩, q⟩ := h
  obtain ⟨u, rfl, e⟩ := vals1 r
  cases (show u = Value.ref a from e)
  obtain ⟨mA, O, _⟩ := ins_get I.hok ha
  obtain ⟨od, J, _⟩ := O.look
  have r2 : Room k X.A.in1.in1 := (show Room (k + 1) X.A.in1 from Room.in1 (hr.mono hk)).in1
  refine str_own (by have := r2.units; omega) I.kIn J M.at_ M.fn ?_
  refine wpAny_mono (run_in (us := [.ref a]) (vs := [.ref a]) F r2 I.env0.in1.in1 b I (.cons rfl .nil) q) ?_ fun _ _ z => z
  rintro r s2 ⟨z, H', I', rz, y, ez, qz⟩
  subst ez
  obtain ⟨t, rfl⟩ := (show ∃ t, r = Value.str y t from rz)
  exact ⟨y, t, rfl, .str y, H', I', ⟨t, rfl⟩, qz⟩
end
end Cm
namespace Cm
open PySem PySem.Spec PyProof.Rows
open L2 hiding Same
/-! ### iter(t) as a value; list(x) of an own __iter__ that answers it -/
def ItT (t it : Addr) (i : Nat) : HO := .ext fun h => h.IsTupleIter it t i
def ItD (it : Addr) : HO := .ext fun h => ∃ o, h.get? it = some o
section
variable {P : Program} {w : World} {H : Hp} {h : Heap} {t it : Addr} {i : Nat}
theorem itT_ok (e : h.IsTupleIter it t i) : ObjOk P w H h it (ItT t it i) :=
  ⟨e, let ⟨o, ho, _⟩ := e; ⟨o, ho⟩, fun h1 h2 q k => Heap.IsTupleIter.at q fun o e => k o e⟩
theorem itD_ok (e : ∃ o, h.get? it = some o) : ObjOk P w H h it (ItD it) := ⟨e, e, fun h1 h2 ⟨o, q⟩ k => ⟨o, k o q⟩⟩
end
section
variable {X : Cx} {pins : List (Addr × Obj)} {σ : L2.St} {H : Hp} {s : Shared} {t it q a : Addr} {i : Nat} {zs : List V}
theorem itT_get (I : Inv X pins σ H s) (e : H it = some (ItT t it i)) : s.heap.IsTupleIter it t i := (I.hok it _ e).1
def rIterT (K : PySem.W.Frag) : List V → Hp → VK → Prop := fun xs H Q => ∃ t zs, xs = [V.ref t] ∧ SqT K H t zs ∧ ∀ it, H it = none → Q (.ref it) (upd H it (ItT t it 0))
theorem call_iterT : CallR X (.builtin "iter") (rIterT X.K) := by
  intro pins s σ H xs us Q I r h
  obtain ⟨t, zs, rfl, hq, q⟩ := h
  obtain ⟨u, rfl, ru⟩ := vals1 r
  cases (show u = Value.ref t from ru)
  obtain ⟨its, rv, pl, hz⟩ := I.tuple hq
  refine Calls.call_function_entry (by decide +kernel) (by decide +kernel) PySem.W.kdk_entry_iter (PySem.W.kdk_args_iter _) ?_
  unfold Builtin.«iter»
  refine wpAny_bind (m := someArgs "iter" 1 2 _) (wpAny_of_eq (a := [Value.ref t]) (by first | rfl | kernel_rfl!) ?_)
  show wpAny _ _ (pyIter (.ref t) >>= _) _ _ _
  refine wpAny_bind (wpAny_pyIter_tuple pl ?_)
  exact wpAny_pure ⟨_, rfl, ⟨.ref s.heap.objs.size, _, I.laid (t' := s.toks) (fun b u e => Heap.get?_push_of_some _ e) (Nat.le_refl _) (itT_ok ⟨_, Heap.get?_push_size _ rfl, rfl, rfl⟩), rfl, q _ (I.hok.fresh (Nat.le_refl _))⟩⟩
theorem next_end {prog : Program} {w : World} {A : Around} {E : Value → Shared → Prop} {items} {Q : Option Value → Shared → Prop} (hh : A.handled = none)
    (hit : s.heap.IsTupleIter it t i) (ht : s.heap.IsTuple t items) (hx : items[i]? = none)
    (hQ : ∀ h', Heap.ExtBut it s.heap h' → (∃ o, h'.get? it = some o) → Q none { s with heap := h' }) : wpAny (model prog w) A (pyNext (.ref it)) Q E s := by
  obtain ⟨o, ho, hc, hd⟩ := id hit
  obtain ⟨ol, hol, _, nl, hdl⟩ := ht
  unfold pyNext
  refine wpAny_bind (wpAny_attempt (wpAny_callSpecial?_slot (name := Str.ofString "__next__") hit.typeIs F.slot_tuple_iterator_next
    (wpAny_call_entry F.slot_tuple_iterator_next hit.typeIs F.entry_tuple_iterator_next ?_ (F.args_tuple_iterator_next_1 _))))
  show wpAny _ _ (field (.ref it) 0 >>= _) _ _ s
  refine wpAny_bind (wpAny_field ho hd (x := .ref t) rfl ?_)
  show wpAny _ _ (if (Value.ref t == Value.none) = true then _ else _) _ _ s
  rw [if_neg (show ¬ ((Value.ref t == Value.none) = true) from Bool.false_ne_true)]
  show wpAny _ _ (field (.ref it) 1 >>= _) _ _ s
  refine wpAny_bind (wpAny_field ho hd (x := .int i 0) rfl ?_)
  show wpAny _ _ (seqItems? (.ref t) >>= _) _ _ s
  refine wpAny_bind (wpAny_seqItems hol hdl ?_)
  simp only [Int.toNat_natCast, hx]
  refine wpAny_bind (wpAny_rule (wpAny_bind (wpAny_setField ho hd (by simp) ?_)))
  show wpAny _ _ (newExc (.type "StopIteration") [] >>= _) _ _ _
  refine wpAny_bind ?_
  simp only [newExc, newTuple]
  refine wpAny_bind (wpAny_newObj_type ?_ (by size_fits))
  refine wpAny_bind (m := firstArgMember _ _) (wpAny_of_eq (a := Value.none) (by first | rfl | (simp only [firstArgMember]; rfl)) ?_)
  refine wpAny_newObj_type ?_ (by size_fits)
  simp only [raiseNew]
  refine wpAny_bind (wpAny_handled ?_)
  first | rw [show A.in1.handled = none from hh] | rw [hh]
  refine wpAny_bind (wpAny_pure (wpAny_throw ?_))
  refine wpAny_bind (wpAny_isInstance (T := "StopIteration") (b := true) ⟨_, Heap.get?_push_size _ rfl, rfl⟩ isSubtype_stop ?_)
  exact wpAny_pure (hQ _ (((Heap.SameBut.update ..).extBut.push _).push _) ⟨_, Heap.get?_push_of_some _ (Heap.get?_push_of_some _ (Heap.get?_update_self _ ho (Obj.isFreed_of_fields (Obj.data_mapFields hd _))))⟩)
theorem upd_two {H : Hp} {it q : Addr} {a b c d : HO} (n : it ≠ q) : upd (upd (upd (upd H it a) q b) q c) it d = upd (upd H q c) it d := by
  funext x
  by_cases h1 : x = it
  · rw [h1, upd_same, upd_same]
  · by_cases h2 : x = q
    · rw [h2, upd_ne (Ne.symm n), upd_same, upd_ne (Ne.symm n), upd_same]
    · rw [upd_ne h1, upd_ne h2, upd_ne h2, upd_ne h1, upd_ne h1, upd_ne h2]
theorem tup_ne (I : Inv X pins σ H s) (h : SqT X.K H t zs) (e : H it = some (ItT t it i)) : t ≠ it := by
  obtain ⟨its, rv, ⟨o, ho, hc, _⟩, _⟩ := I.tuple h
  obtain ⟨o2, ho2, hc2, _⟩ := itT_get I e
  intro z
  rw [z, ho2] at ho
  cases ho
  rw [hc2] at hc
  exact absurd (Value.type.inj hc) (by decide)
theorem tup_neL {xs : List V} (I : Inv X pins σ H s) (h : SqT X.K H t zs) (e : H q = some (.lst xs)) : t ≠ q := by
  obtain ⟨its, rv, ⟨o, ho, hc, _⟩, _⟩ := I.tuple h
  obtain ⟨_, its2, n, _, _, ho2⟩ := I.lstM e
  intro z
  rw [z, ho2] at ho
  cases ho
  exact absurd (Value.type.inj hc) (by decide)
theorem tupit_loop {A1 : Around} {Rs : Result → Shared → Prop} (hh : A1.in1.handled = none) : ∀ (k i : Nat) (H : Hp) (s : Shared), zs.length - i = k → i ≤ zs.length → Inv X pins σ H s → H q = some (.lst (zs.take i)) → H it = some (ItT t it i) → SqT X.K H t zs → it ≠ q →
    (∀ s', Inv X pins σ (upd (upd H q (.lst zs)) it (ItD it)) s' → Rs (.ok (.ret .none)) s') → codeAny (model X.prog X.w) A1 (.builtin "list.extend.loop" ⟨[.ref q, .ref it, .none], []⟩) Rs s := by
  intro k
  induction k with
  | zero =>
    intro i H s hk hi I hq hit ht hne hd
    have ei : i = zs.length := by omega
    subst ei
    refine codeAny_builtin PySem.F.entry_extend_loop ?_
    rw [Around.under_plainId PySem.F.plain_extend_loop _]
    show wpAny _ A1.in1 (pyNext (.ref it) >>= _) _ _ s
    obtain ⟨its, rv, pl, hz⟩ := I.tuple ht
    refine wpAny_bind (next_end hh (itT_get I hit) pl (by rw [List.getElem?_toArray]; exact rv.none_of (List.getElem?_eq_none (Nat.le_refl _))) fun h' eb ho => ?_)
    have J := I.write (t' := s.toks) (x := it) (e := it) (o := ItD it) (h' := h') (by rw [hit]; exact True.intro) (.inl rfl) (fun b o hb e => eb b o hb e) ho (itD_ok ho)
    refine wpAny_pure (hd _ ?_)
    have e1 : upd H q (.lst zs) = H := by
      funext x
      by_cases hx : x = q
      · rw [hx, upd_same, hq, List.take_length]
      · rw [upd_ne hx]
    rw [e1]
    exact J
  | succ k ih =>
    intro i H s hk hi I hq hit ht hne hd
    have hi2 : i < zs.length := by omega
    refine codeAny_builtin PySem.F.entry_extend_loop ?_
    rw [Around.under_plainId PySem.F.plain_extend_loop _]
    show wpAny _ A1.in1 (pyNext (.ref it) >>= _) _ _ s
    obtain ⟨its, rv, pl, hz⟩ := I.tuple ht
    have tne := tup_ne I ht hit
    have tnq := tup_neL I ht hq
    obtain ⟨u, hu, ru⟩ := rv.get (List.getElem?_eq_getElem hi2)
    refine wpAny_bind (wpAny_pyNext_tuple_item (itT_get I hit) pl (x := u) (by rw [List.getElem?_toArray]; exact hu) fun h' st' sb => ?_)
    have J := I.write (t' := s.toks) (x := it) (e := it) (o := ItT t it (i + 1)) (h' := h') (by rw [hit]; exact True.intro) (.inl rfl) (fun b o hb e => (sb.2 b hb).trans e) (let ⟨o, ho, _⟩ := st'; ⟨o, ho⟩) (itT_ok st')
    have hq2 : upd H it (ItT t it (i + 1)) q = some (.lst (zs.take i)) := by rw [upd_ne (Ne.symm hne)]; exact hq
    show wpAny _ A1.in1 (updateSeq q (·.push u) >>= _) _ _ _
    obtain ⟨z, its2, n, r2, hl, e⟩ := J.lstM hq2
    have hzl : zs.length ≤ sizeLine := by
      have := rv.length
      omega
    refine wpAny_bind (wpAny_updateSeq e rfl (wpAny_pure ⟨plainId_quiet PySem.F.plain_extend_loop _, ?_⟩) (by rw [List.size_toArray]; omega) (by show (its2.toArray.push u).size ≤ sizeLine + 1; rw [Array.size_push, List.size_toArray]; omega))
    have hlt : (zs.take i ++ [zs[i]]).length ≤ sizeLine := by
      rw [List.length_append, List.length_take, List.length_singleton]; omega
    have J2 := J.lset (f := (·.push u)) (its' := its2 ++ [u]) (t' := s.toks) (ys := zs.take i ++ [zs[i]]) hq2 e (by simp) (r2.append (.cons ru .nil)) hlt
    have et : zs.take i ++ [zs[i]] = zs.take (i + 1) := by rw [List.take_succ, List.getElem?_eq_getElem hi2]; rfl
    rw [et] at J2
    have st2 : SqT X.K (upd (upd H it (ItT t it (i + 1))) q (.lst (zs.take (i + 1)))) t zs := by
      have k1 : Kp it H (upd H it (ItT t it (i + 1))) := Kp.refl.at
      have k2 : Kp q (upd H it (ItT t it (i + 1))) (upd (upd H it (ItT t it (i + 1))) q (.lst (zs.take (i + 1)))) := Kp.refl.at
      exact k2.st tnq (k1.st tne ht)
    refine ih (i + 1) _ _ (by omega) (by omega) J2 upd_same (by rw [upd_ne hne, upd_same]) st2 hne fun s' I' => hd s' ?_
    rw [upd_two hne] at I'
    exact I'
end
section
variable {X : Cx} {pins : List (Addr × Obj)} {σ : L2.St} {H : Hp} {s : Shared} {a C dx : Addr} {k : Nat} {fs : List (Str × V)}
theorem run_inE {A' : Around} {Q : VK} {E : Value → Shared → Prop} {f : Addr} {fd : FuncData} {ps : List Str} {sp : Sp} {us : List Value} {vs : List V} (F : FnOk X.prog X.w X.K X.mg X.base CX0 k f fd ps sp) (hr : Room k A')
    (e0 : Env0 X.prog X.w X.K X.mg X.base A' X.stack s H) (hb : Binds X.K fd ps []) (I : Inv X pins σ H s) (r : Vals vs us) (h : sp vs H Q E0) : wpAny (model X.prog X.w) A' (call (.ref f) us) (EP X pins σ Q) E s := by
  have hl : (us ++ []).length = ps.length := by rw [List.append_nil, ← r.length]; exact F.len _ _ _ _ h
  have b2 := hb s us I.kIn hl
  rw [List.append_nil] at b2
  refine wpAny_call (codeAny_mono (F.run A' X.stack s H ⟨us, []⟩ us vs Q E0 hr e0 b2 r h) fun r s2 z => ?_)
  match r, z with
  | .error e, z => exact (show False from z).elim
  | .ok (.ret u), z => exact I.after z
  | .ok .next, z => exact (show False from z).elim
  | .ok .brk, z => exact (show False from z).elim
  | .ok .cont, z => exact (show False from z).elim
/-- len(x) by an own __len__, under another around -/
theorem len_in {A' : Around} {sp : Sp} {E : Value → Shared → Prop} (hr : Room k A'.in1) (fr : A'.frames = X.A.frames) (I : Inv X pins σ H s) (ha : H a = some (.ins C dx fs)) (M : MCal X.prog X.w X.K X.mg X.base k C "__len__" sp)
    (q : sp [.ref a] H (fun z H2 => H2 = H ∧ ∃ n : Nat, z = .int n ∧ n ≤ 1000) E0) {Q : Value → Shared → Prop} (h : ∀ (n : Nat) t s', n ≤ 1000 → Inv X pins σ H s' → Q (.int n t) s') :
    wpAny (model X.prog X.w) A' (call (.builtin "len") [.ref a]) Q E s := by
  obtain ⟨c, f, fd, ps, F, b, M⟩ := M
  obtain ⟨mA, O, _⟩ := ins_get I.hok ha
  obtain ⟨od, J, _⟩ := O.look
  have e0 : Env0 X.prog X.w X.K X.mg X.base A'.in1 X.stack s H := by
    have e := I.env0
    exact ⟨fr.trans e.frames, e.mod, e.bs, e.bsz, e.funs, e.frf, e.hok, e.bare⟩
  refine PySem.Calls.call_function_entry PySem.kind_len PySem.plain_len PySem.entry_len (PySem.args_len1 _) ?_
  unfold Builtin.«len»
  refine wpAny_bind (m := oneArg "len" _) (wpAny_pure ?_)
  refine wpAny_bind (PySem.W.special_fn I.kIn J M.at_ (beq_iff_eq.mp M.fn) ?_)
  refine wpAny_mono (run_inE (us := [.ref a]) (vs := [.ref a]) F hr e0 b I (.cons rfl .nil) q) ?_ fun _ _ z => z
  rintro r s2 ⟨z, H', I', rz, eH, n, ez, hn⟩
  subst ez eH
  obtain ⟨t, rfl⟩ := (show ∃ t, r = Value.int (n : Nat) t from rz)
  refine wpAny_bind (wpAny_holding (wpAny_pure ?_))
  refine wpAny_bind (wpAny_letGo ?_)
  show wpAny _ _ (if ((n : Nat) : Int) < 0 then _ else _) _ _ _
  rw [if_neg (by omega)]
  show wpAny _ _ (if ((n : Nat) : Int) ≥ 2 ^ 63 then _ else _) _ _ _
  rw [if_neg (by omega)]
  exact wpAny_bind (wpAny_mkInt (wpAny_pure ⟨_, rfl, h n _ _ hn (I'.tok _)⟩))
theorem hint_in {A' : Around} {sp : Sp} {E : Value → Shared → Prop} (hr : Room k A'.in1) (fr : A'.frames = X.A.frames) (I : Inv X pins σ H s) (ha : H a = some (.ins C dx fs)) (M : MCal X.prog X.w X.K X.mg X.base k C "__len__" sp)
    (q : sp [.ref a] H (fun z H2 => H2 = H ∧ ∃ n : Nat, z = .int n ∧ n ≤ 1000) E0) {Q : Bool → Shared → Prop} (hQ : ∀ b s', Inv X pins σ H s' → Q b s') :
    wpAny (model X.prog X.w) A' (Builtin.List.listLengthHint (.ref a)) Q E s := by
  obtain ⟨c, f, fd, ps, F, b, Mt⟩ := id M
  obtain ⟨mA, O, _⟩ := ins_get I.hok ha
  obtain ⟨od, J, _⟩ := O.look
  unfold Builtin.List.listLengthHint
  refine wpAny_bind (wpAny_bind (J.type.here ((PySem.W.looks_findIn I.kIn Mt.at_).here ?_)))
  refine PySem.W.KFB.if_not rfl ?_
  refine PySem.W.KFB.if_so rfl ?_
  refine wpAny_bind (wpAny_rule ?_)
  refine wpAny_bind (wpAny_attempt (len_in hr fr I ha M q (fun n t s' hn I' => ?_)))
  refine wpAny_bind (wpAny_pure ?_)
  show wpAny _ _ (if Builtin.List.listTooLong ((n : Nat) : Int).toNat = true then _ else _) _ _ _
  rw [if_neg (by rw [Int.toNat_natCast, notLongL (by rw [sizeLine_eq]; omega)]; decide)]
  exact wpAny_pure (hQ _ _ I')
/-- the iterator that an own __iter__ answers -/
def rOwnT (P : Program) (w : World) (K : PySem.W.Frag) (mg : Str → Option Value) (base : Heap) (k : Nat) : List V → Hp → VK → Prop := fun xs H Q =>
  ∃ a C dx fs spI spL, xs = [V.ref a] ∧ H a = some (.ins C dx fs) ∧ MCal P w K mg base k C "__iter__" spI ∧ MCal P w K mg base k C "__len__" spL ∧
    ∀ q, H q = none → spI [.ref a] (upd H q (.lst [])) (fun v H' => ∃ it t zs, v = .ref it ∧ it ≠ q ∧ H' it = some (ItT t it 0) ∧ SqT K H' t zs ∧ H' q = some (.lst []) ∧ H' a = some (.ins C dx fs) ∧
      spL [.ref a] H' (fun z H2 => H2 = H' ∧ ∃ n : Nat, z = .int n ∧ n ≤ 1000) E0 ∧ Q (.ref q) (upd (upd H' q (.lst zs)) it (ItD it))) E0
theorem own_extT {A1 : Around} {Rs : Result → Shared → Prop} {q : Addr} {Q : VK} {spI spL : Sp} (hh : A1.in1.handled = none) (hr : Room k A1.in1) (hr2 : Room k A1.in1.in1) (fr : A1.frames = X.A.frames)
    (MI : MCal X.prog X.w X.K X.mg X.base k C "__iter__" spI) (ML : MCal X.prog X.w X.K X.mg X.base k C "__len__" spL)
    (I : Inv X pins σ H s) (ha : H a = some (.ins C dx fs)) (hq : H q = some (.lst []))
    (sp : spI [.ref a] H (fun v H' => ∃ it t zs, v = .ref it ∧ it ≠ q ∧ H' it = some (ItT t it 0) ∧ SqT X.K H' t zs ∧ H' q = some (.lst []) ∧ H' a = some (.ins C dx fs) ∧
      spL [.ref a] H' (fun z H2 => H2 = H' ∧ ∃ n : Nat, z = .int n ∧ n ≤ 1000) E0 ∧ Q (.ref q) (upd (upd H' q (.lst zs)) it (ItD it))) E0)
    (hdone : ∀ H' s', Inv X pins σ H' s' → Q (.ref q) H' → Rs (.ok (.ret .none)) s') :
    wpAny (model X.prog X.w) A1.in1 (Builtin.List.listExtendWith (.ref q) (.ref a) .none)
      (fun fin s' => match fin with | .done f => Rs (.ok f) s' | .again c' => c'.quiet = true ∧ codeAny (model X.prog X.w) A1 c' Rs s') (fun e s' => Rs (.error e) s') s := by
  have hne : q ≠ a := ne_of hq ha (fun z => nomatch z)
  obtain ⟨mA, O, _⟩ := ins_get I.hok ha
  obtain ⟨od, J, _⟩ := O.look
  obtain ⟨m0, hF⟩ := I.fr
  obtain ⟨c, f, fd, ps, F, b, M⟩ := MI
  unfold Builtin.List.listExtendWith
  refine wpAny_bind (J.type.here ?_)
  have h1 : Builtin.List.listSameRef (.ref q) (.ref a) = false := by simp [Builtin.List.listSameRef, hne]
  have h2 : (Value.ref C == Value.type "list") = false := rfl
  have h3 : (Value.ref C == Value.type "tuple") = false := rfl
  simp only [h1, h2, h3, Bool.or_false, Bool.false_eq_true, if_false]
  refine wpAny_bind (PySem.W.owit_iter hF I.ok.mod.kin J M.at_ M.fn ?_)
  have e0 : Env0 X.prog X.w X.K X.mg X.base A1.in1 X.stack s H := by
    have e := I.env0
    exact ⟨fr.trans e.frames, e.mod, e.bs, e.bsz, e.funs, e.frf, e.hok, e.bare⟩
  refine wpAny_mono (run_inE (us := [.ref a]) (vs := [.ref a]) F hr e0 b I (.cons rfl .nil) sp) ?_ fun _ _ z => z
  rintro r s2 ⟨z, H', I', rz, it, t, zs, ez, hnq, hit, ht, hq', ha', hl, qd⟩
  subst ez
  cases (show r = Value.ref it from rz)
  have ti := (itT_get I' hit).typeIs
  unfold PySem.W.OwitIt
  refine wpAny_specialOf (name := Str.ofString "__next__") ti PySem.F.slot_tuple_iterator_next.lookup ?_
  show wpAny _ A1.in1 (holding [Value.ref it] (Builtin.List.listLengthHint (.ref a)) >>= _) _ _ _
  refine wpAny_bind (wpAny_holding (hint_in (A' := A1.in1) hr2 fr I' ha' ML hl fun bb s3 I3 => ?_))
  obtain ⟨z, its, kk, r3, hl3, e3⟩ := I3.lstM hq'
  cases r3
  have go : ∀ s4, Inv X pins σ H' s4 → codeAny (model X.prog X.w) A1 (.builtin "list.extend.loop" ⟨[.ref q, .ref it, .none], []⟩) Rs s4 := fun s4 I4 =>
    tupit_loop hh zs.length 0 H' s4 (Nat.sub_zero _) (Nat.zero_le _) I4 (by rw [List.take_zero]; exact hq') hit ht hnq fun s' I5 => hdone _ s' I5 qd
  refine wpAny_ite_split (fun _ => ?_) (fun _ => wpAny_pure ⟨plainId_quiet PySem.F.plain_extend_loop _, go _ I3⟩)
  refine wpAny_bind (wpAny_rule ?_)
  refine wpAny_bind ?_
  show wpAny _ _ (updateSeq q (·.push .none) >>= fun _ => updateSeq q (·.pop)) _ _ _
  refine wpAny_bind (wpAny_updateSeq e3 rfl ?_)
  have I2 := I3.lset (f := (·.push Value.none)) (its' := [Value.none]) (ys := [.non]) (t' := s3.toks) hq' e3 (by simp) (.cons rfl .nil) (by rw [List.length_singleton, sizeLine_eq]; decide)
  obtain ⟨z4, its4, k4, r4, hl4, e4⟩ := I2.lstM upd_same
  obtain ⟨u4, rfl, ru4⟩ := r4.one
  refine wpAny_updateSeq e4 rfl ?_ (by show 1 ≤ sizeLine; rw [sizeLine_eq]; decide) (by show 0 ≤ sizeLine + 1; exact Nat.zero_le _)
  refine wpAny_pure ⟨plainId_quiet PySem.F.plain_extend_loop _, go _ ?_⟩
  have I5 := I2.lset (f := (·.pop)) (its := [u4]) (its' := []) (ys := []) (t' := s3.toks) upd_same e4 (by rfl) .nil (Nat.zero_le _)
  rw [upd_upd] at I5
  have hH : upd H' q (.lst []) = H' := by
    funext x
    by_cases hb : x = q
    · rw [hb, upd_same, hq']
    · rw [upd_ne hb]
  rw [hH] at I5
  exact I5
theorem call_listOwnT {j : Nat} (hc : X.calm = true) (hr : Room j X.A) (hk : k + 3 ≤ j) : CallR X (.type "list") (rOwnT X.prog X.w X.K X.mg X.base k) := by
  intro pins s σ H xs us Q I rv h
  obtain ⟨a, C, dx, fs, spI, spL, rfl, ha, MI, ML, hq⟩ := h
  obtain ⟨u, rfl, ru⟩ := vals1 rv
  cases (show u = Value.ref a from ru)
  have sb : Sub X (k + 1) X.A.in1.in1 := Sub.in1 (Sub.in1 (⟨hr.mono hk, rfl⟩ : Sub X (k + 3) X.A))
  have sb2 : Sub X k X.A.in1.in1.in1 := Sub.in1 sb
  refine callType_codes (Q₁ := fun obj s₁ => obj = .ref s.heap.objs.size ∧ s₁ = { s with heap := s.heap.push { cls := .type "list", data := .seq #[] } }) PySem.F.called_list (PySem.F.typeCall_list_1 _) PySem.F.entry_list_init
    (code_list_new _ ⟨rfl, rfl⟩) fun obj s₁ h₁ => ?_
  obtain ⟨rfl, rfl⟩ := h₁
  have hS : (s.heap.push { cls := .type "list", data := .seq #[] }).get? s.heap.objs.size = some { cls := .type "list", data := .seq #[] } := Heap.get?_push_size _ rfl
  refine ⟨⟨_, hS, rfl⟩, PySem.F.args_list_init_2 _ _, ?_⟩
  have fr : H s.heap.objs.size = none := I.hok.fresh (Nat.le_refl _)
  have I1 : Inv X pins σ (upd H s.heap.objs.size (.lst [])) { s with heap := s.heap.push { cls := .type "list", data := .seq #[] } } := I.lnew (its := []) (t' := s.toks) .nil (Nat.zero_le _)
  show wpAny _ _ (do let old ← Builtin.List.listItems (.ref s.heap.objs.size); Builtin.List.listUpdate (.ref s.heap.objs.size) (fun _ => #[]); letGo old.toList.reverse; Builtin.List.listExtendWith (.ref s.heap.objs.size) (.ref a) .none) _ _ _
  refine wpAny_bind ?_
  unfold Builtin.List.listItems
  refine wpAny_bind (wpAny_seqItems hS rfl (wpAny_pure ?_))
  show wpAny _ _ (updateSeq s.heap.objs.size (fun _ => #[]) >>= fun _ => letGo (#[] : Array Value).toList.reverse >>= fun _ => Builtin.List.listExtendWith (.ref s.heap.objs.size) (.ref a) .none) _ _ _
  refine wpAny_bind (wpAny_updateSeq hS rfl ?_)
  have I2 := I1.lset (f := fun _ => #[]) (its := []) (its' := []) (ys := []) (t' := s.toks) upd_same hS rfl .nil (Nat.zero_le _)
  rw [upd_upd] at I2
  refine wpAny_bind (wpAny_letGo ?_)
  have ha2 : upd H s.heap.objs.size (.lst []) a = some (.ins C dx fs) := by rw [upd_ne (ne_of_none ha fr)]; exact ha
  exact own_extT (A1 := X.A.in1) (Rs := wants (fun r s₂ => r = .none ∧ EP X pins σ Q (.ref s.heap.objs.size) s₂) X.xe) (I.ok.hd hc) (sb.room.mono (Nat.le_succ _)) sb2.room rfl MI ML I2 ha2 upd_same (hq _ fr)
    fun H' s' I' hR => ⟨rfl, .ref s.heap.objs.size, H', I', rfl, hR⟩
end
end Cm
namespace Cm
open PySem PySem.Spec PyProof.Rows
open L2 hiding Same
section
variable {X : Cx} {j k : Nat} {m : Str} {C : Addr} {sp : Sp} {e o : Expr} {es : List Expr} {pos apos : Pos} {t : TA} {ta : TE}
theorem pe_mcalA {pl : Sem Bool} (c : MCal X.prog X.w X.K X.mg X.base k C m sp) (hr : Room j X.A) (hk : k ≤ j) (ho : PE X o ta) (ha : PA X (e :: es) t)
    (hst : starEach (e :: es) X.env = (false, eval e X.env) :: starEach es X.env := by rfl) (hpl : (backTo pos (starEach es X.env)).any (·.1) = false := by rfl)
    (ht : eval (.Call (.Attribute o m apos) (e :: es) [] pos) X.env = (do
      let ov ← eval o X.env
      standAt apos.atName
      let (f, first) ← holding [ov] (getMethod ov m pl)
      callWith pos f first (backTo pos (starEach (e :: es) X.env)) (backToKw pos (keywordEach [] X.env))) := by rfl) : PE X (.Call (.Attribute o m apos) (e :: es) [] pos) (tMeth C m sp [] E0 ta t) := by
  obtain ⟨cl, f, fd, ps, F, b, M⟩ := c
  exact pe_meth (pl := pl) ho cl M F (hr.mono hk) b .nil pass0 ha hst hpl ht
/-- x == t, by x's own __eq__, t a tuple -/
def rOwnGT (P : Program) (w : World) (K : PySem.W.Frag) (mg : Str → Option Value) (base : Heap) (k : Nat) : R2 := fun x y H Q =>
  ∃ a C dx fs sp t xs, x = .ref a ∧ y = .ref t ∧ H a = some (.ins C dx fs) ∧ SqT K H t xs ∧ MCal P w K mg base k C "__eq__" sp ∧ PySem.W.notFirst K C (.type "tuple") = true ∧ sp [x, y] H Q E0
theorem op_ownGT (hr : Room j X.A) (hk : k ≤ j) : OpR X (compareOp .Eq) (rOwnGT X.prog X.w X.K X.mg X.base k) := by
  intro pins s σ H x y v u Q I rx ry h
  obtain ⟨a, C, dx, fs, sp, t, xs, ex, ey, ha, ht, ⟨c, f, fd, ps, F, b, M⟩, hn, q⟩ := h
  subst ex ey
  cases (show v = Value.ref a from rx)
  cases (show u = Value.ref t from ry)
  obtain ⟨mA, O, _⟩ := ins_get I.hok ha
  obtain ⟨od, J, _⟩ := O.look
  obtain ⟨mm, hF⟩ := I.fr
  obtain ⟨its, rv, ⟨o, ho, hc, _⟩, _⟩ := I.tuple ht
  have hb : PySem.W.Looks (model X.prog X.w) s.heap (typeOf (.ref t)) (.type "tuple") := by
    have z := (PySem.W.Looks.ld (M := model X.prog X.w) (part := none) ho)
    intro A Q E s k q
    exact wpAny_typeOf_ref (k _ _ ho) (by rw [hc]; exact q)
  show wpAny _ X.A (richCompare .Eq (.ref a) (.ref t)) _ _ s
  refine PySem.W.cmp_K (op := .Eq) hr.units0 hF I.ok.mod.kin J hb hn M.at_ M.fn ?_
  refine wpAny_mono (run_fn (us := [.ref a, .ref t]) (vs := [.ref a, .ref t]) F (hr.mono hk) b .nil pass0 I (.cons rfl (.cons rfl .nil)) q) ?_ fun _ _ z => z
  rintro r s' ⟨z, H', I', rz, qz⟩
  exact SlX.cmpback rz ⟨z, H', I', rz, qz⟩
end
theorem cutT (xs : List V) (c : Nat) : cutV xs none (some (c : Int)) = xs.take c := by
  unfold cutV
  rw [HT.sIx_none, HT.sIx_nat, List.drop_zero, Nat.sub_zero]
  by_cases h : c ≤ xs.length
  · rw [Nat.min_eq_left h]
  · rw [Nat.min_eq_right (by omega), List.take_length, List.take_of_length_le (by omega)]
theorem cutD (xs : List V) (c : Nat) : cutV xs (some (c : Int)) none = xs.drop c := by
  unfold cutV
  rw [HT.sIx_none, HT.sIx_nat]
  by_cases h : c ≤ xs.length
  · rw [Nat.min_eq_left h, List.take_of_length_le (by rw [List.length_drop]; omega)]
  · rw [Nat.min_eq_right (by omega), Nat.sub_self, List.take_zero, List.drop_of_length_le (by omega)]
end Cm
namespace Cm
open PySem PySem.Spec PyProof.Rows
open L2 hiding Same
/-! ### {x} and {x!r} of what an error may keep -/
inductive OdF
  | non | tru | int (i : Int) | str (z : Str) | tup
def FdAt (H : Hp) (v : V) : OdF → Prop
  | .non => v = .non
  | .tru => v = .bl true
  | .int i => v = .int i ∧ i.natAbs ≤ 10 ^ 25
  | .str z => v = .str z ∧ z.length ≤ 1000 ∧ ∀ c ∈ z.cps.toList, c < 128
  | .tup => ∃ a, v = .ref a ∧ H a = some (.tup [.str "x", .int 1])
def tFmtF (te : TE) : TE := fun σ H Q => te σ H fun x H1 => (∃ k, FdAt H1 x k) ∧ ∀ m : Str, m.length ≤ 11000 → Q (.str m) H1
theorem fd_log {i : Int} (h : i.natAbs ≤ 10 ^ 25) : i.natAbs.log2 < 1920 := log_of (Nat.lt_of_le_of_lt h (by decide +kernel))
theorem fd_len {i : Int} (h : i.natAbs ≤ 10 ^ 25) : ((toString i : String) : Str).length ≤ 1921 := int_text_len_1921 (fd_log h)
theorem fd_tupT : (tupleText [reprText ("x" : Str), ((toString (1 : Int) : String) : Str)]).length ≤ 100 := by decide +kernel
theorem fd_all {prog : Program} {w : World} {its : List Value} (r : Vals [V.str "x", V.int 1] its) : ReprAll prog w its [reprText ("x" : Str), ((toString (1 : Int) : String) : Str)] := by
  cases r with
  | cons r1 r2 => cases r2 with
    | cons r2 r3 =>
      cases r3
      obtain ⟨t1, rfl⟩ := r1
      obtain ⟨t2, rfl⟩ := r2
      exact .cons (ReprIs.str "x" t1 (by decide +kernel)) (.cons (ReprIs.int t2 (by decide +kernel)) .nil)
theorem pe_fmtF {X : Cx} {e : Expr} {te : TE} {pos : Pos} {k : Nat} (hr : Room k X.A) (he : PE X e te) : PE X (.FormattedValue e (-1) none pos) (tFmtF te) := by
  refine ⟨fun pins s σ H Q I h => ?_⟩
  refine wpAny_FormattedValue_plain (thn (he.run pins s σ H _ I h) fun v s1 hv => ?_)
  obtain ⟨x, H1, I1, r1, ⟨k, ho⟩, q⟩ := hv
  have hu := hr.units
  cases k with
  | str z =>
    obtain ⟨rfl, hz, hc⟩ := ho
    obtain ⟨t, rfl⟩ := r1
    exact wpAny_formatField_str ⟨.str z, H1, I1, ⟨_, rfl⟩, q z (by omega)⟩ ⟨.str z, H1, I1.tok _, ⟨_, rfl⟩, q z (by omega)⟩ (small (by omega))
  | int i =>
    obtain ⟨rfl, hi⟩ := ho
    obtain ⟨t, rfl⟩ := r1
    exact wpAny_formatField_int (fd_log hi) ⟨.str (toString i), H1, I1.tok _, ⟨_, rfl⟩, q _ (Nat.le_trans (fd_len hi) (by decide))⟩
  | non =>
    obtain rfl : x = .non := ho
    obtain rfl : v = Value.none := r1
    exact wpAny_formatField_none ⟨.str "None", H1, I1.tok _, ⟨_, rfl⟩, q _ (by decide +kernel)⟩
  | tru =>
    obtain rfl : x = .bl true := ho
    obtain rfl : v = Value.bool true := r1
    exact wpAny_formatField_bool ⟨.str "True", H1, I1.tok _, ⟨_, rfl⟩, q _ (by decide +kernel)⟩
  | tup =>
    obtain ⟨a, rfl, ha⟩ := ho
    obtain rfl : v = Value.ref a := r1
    obtain ⟨its, rv, ⟨o, ho, hcl, n, hd⟩, _⟩ := I1.tuple (SqT.of ha)
    refine fmt_tuple (by omega) ho hcl hd (fd_all rv) (Nat.le_trans fd_tupT (by decide)) fun m u tk hm => ⟨.str m, H1, I1.tok _, ⟨_, rfl⟩, q m ?_⟩
    have := fd_tupT
    omega
theorem pe_fmtRF {X : Cx} {e : Expr} {te : TE} {pos : Pos} {k : Nat} (hr : Room k X.A) (he : PE X e te) : PE X (.FormattedValue e 114 none pos) (tFmtF te) := by
  refine ⟨fun pins s σ H Q I h => ?_⟩
  refine wpAny_FormattedValue_repr (thn (he.run pins s σ H _ I h) fun v s1 hv => ?_)
  obtain ⟨x, H1, I1, r1, ⟨k, ho⟩, q⟩ := hv
  have hu := hr.units
  have fin : ∀ (m : Str) (u : Tok) (s2 : Shared), m.length ≤ 11000 → Inv X pins σ H1 s2 → wpAny (model X.prog X.w) X.A (formatField (.str m u) Str.empty) (EP X pins σ Q) X.xe s2 := fun m u s2 hm J =>
    wpAny_formatField_str ⟨.str m, H1, J, ⟨_, rfl⟩, q m hm⟩ ⟨.str m, H1, J.tok _, ⟨_, rfl⟩, q m hm⟩ (small hm)
  cases k with
  | str z =>
    obtain ⟨rfl, hz, hc⟩ := ho
    obtain ⟨t, rfl⟩ := r1
    have h1 := StrLaws.reprText_len z fun c h => Nat.lt_of_lt_of_le (hc c h) (by decide)
    exact pyReprObj_str (fin _ _ _ (by omega) (I1.tok _)) (small (by omega))
  | int i =>
    obtain ⟨rfl, hi⟩ := ho
    obtain ⟨t, rfl⟩ := r1
    exact pyReprObj_int (fd_log hi) (fin _ _ _ (Nat.le_trans (fd_len hi) (by decide)) (I1.tok _))
  | non =>
    obtain rfl : x = .non := ho
    obtain rfl : v = Value.none := r1
    exact pyReprObj_none (fin _ _ _ (by decide +kernel) (I1.tok _))
  | tru =>
    obtain rfl : x = .bl true := ho
    obtain rfl : v = Value.bool true := r1
    exact pyReprObj_bool (fin _ _ _ (by decide +kernel) (I1.tok _))
  | tup =>
    obtain ⟨a, rfl, ha⟩ := ho
    obtain rfl : v = Value.ref a := r1
    obtain ⟨its, rv, ⟨o, ho, hcl, n, hd⟩, _⟩ := I1.tuple (SqT.of ha)
    refine wpAny_pyReprObj_slot (by omega) ⟨o, ho, hcl⟩ F.slot_tuple_repr (fmt_tuple_repr ho hcl hd (fd_all rv) (Nat.le_trans fd_tupT (by decide)) fun m u tk hm => ⟨m, u, rfl, fin m u _ ?_ (I1.tok _)⟩)
    have := fd_tupT
    omega
/-! ### own errors as values -/
def tMkV (C : Addr) (sp : Sp) (dvs : List V) (ta : TA) : TE := fun σ H Q => ta σ H fun vs H1 => vs.length ≤ 1000 ∧ ∀ a, H1 a = none → sp (.ref a :: (vs ++ dvs)) (upd H1 a (exo a C none)) (fun v H2 => v = .non ∧ Q (.ref a) H2) (fun _ _ _ => False)
section
variable {X : Cx} {e : Expr} {es : List Expr} {ta : TA} {p pos : Pos}
theorem pe_oexV {CX : CXT} {x : Str} {C fI : Addr} {k : Nat} {fd : FuncData} {ps : List Str} {sp : Sp} {ds : List Value} {dvs : List V} (T : OexC X.K C) (iC : PySem.W.findIn X.K (.ref C) "__init__" = some (some (.ref fI))) (tI : PySem.W.typeIn X.K (.ref fI) = some (.type "function"))
    (F1 : FnOk X.prog X.w X.K X.mg X.base CX k fI fd ps sp) (hr : Room (k + 1) X.A) (hb : Binds X.K fd ps ds) (hd : Vals dvs ds) (hx : Passes CX X (fun _ _ _ => False)) (hm : X.mg x = some (.ref C)) (ha : PA X (e :: es) ta) (hg : Gl X x := by rfl)
    (hdb : (x == ("__debug__" : Str)) = false := by decide) (he : starEach (e :: es) X.env = (false, eval e X.env) :: starEach es X.env := by rfl) (hpl : (backTo pos (starEach es X.env)).any (·.1) = false := by rfl) :
    PE X (.Call (.Name x p) (e :: es) [] pos) (tMkV C sp dvs ta) := by
  refine ⟨fun pins s σ H Q I h => ?_⟩
  obtain ⟨nm, q, N, bs, bm, sn, sub, ab, col, dd, k0, k1, k2, k3, k5, hC, hbm⟩ := T.cls
  refine wpAny_Call_Name_kw (ld_glob I hg hm ?_ hdb)
  refine PySem.W.callWith_K (h₀ := X.base) I.ok.mod.kin T.kC (thn (ha.run pos pins s σ H _ I h) fun us s1 ⟨vs, H1, I1, r1, hz, q1⟩ => ⟨I1.kIn, ?_⟩) he hpl
  show wpAny _ _ (call (.ref C) us) _ _ _
  obtain ⟨hp, g, dr, tk, os⟩ := s1
  obtain ⟨ad, ead⟩ : ∃ ad, ad = hp.objs.size + 1 := ⟨_, rfl⟩
  have hsz : hp.objs.size ≤ ad := by rw [ead]; exact Nat.le_succ _
  have hq := q1 ad (I1.hok.fresh hsz)
  obtain ⟨h3, eh3⟩ : ∃ h3, h3 = (hp.push (PySem.W.kdv_tup us)).push (PySem.HandSPX.excO C hp.objs.size) := ⟨_, rfl⟩
  have kk : ∀ b o, hp.get? b = some o → h3.get? b = some o := fun b o z => by rw [eh3]; exact Heap.get?_push_of_some _ (Heap.get?_push_of_some _ z)
  have hget : h3.get? ad = some (PySem.HandSPX.excO C hp.objs.size) := by rw [eh3, ead]; heap_get
  have I2 : Inv X pins σ (upd H1 ad (exo ad C none)) ⟨h3, g, dr, tk, os⟩ := I1.laid (t' := tk) (a := ad) (o := exo ad C none) (h' := h3) kk hsz (exo_ok hget)
  have r2 : Vals (V.ref ad :: (vs ++ dvs)) (Value.ref ad :: (us ++ ds)) := .cons rfl (r1.append hd)
  have hl : (Value.ref ad :: us ++ ds).length = ps.length := by
    rw [show Value.ref ad :: us ++ ds = Value.ref ad :: (us ++ ds) from rfl, ← r2.length]
    exact F1.len _ _ _ _ hq
  have hus : us.length ≤ sizeLine := by
    have e := Paired.length r1
    have := sizeLine_eq
    omega
  refine wpAny_call (PySem.HandSPX.call_own F.excBase_ValueError (fun Y => PySem.HandSPX.refsVE_contains Y bm hbm) (I1.kIn _ _ hC) (PySem.W.looks_findIn I1.kIn iC) (fun self => PySem.W.bind_fn I1.kIn self tI) hus ?_)
  subst ead eh3
  refine codeAny_mono (F1.run _ X.stack _ _ ⟨Value.ref _ :: us, []⟩ (Value.ref _ :: (us ++ ds)) _ _ (fun _ _ _ => False) (hr.make C us []) (I2.env0.make C us []) (hb _ (Value.ref _ :: us) I2.kIn hl) r2 hq) fun r s' hq' => ?_
  cases r with
  | error er => exact hx pins σ _ _ er s' I2 hq'
  | ok fl =>
    cases fl with
    | ret u =>
      obtain ⟨v, H', I3, rv, ev, q3⟩ := I2.after hq'
      subst ev
      exact ⟨rv, ⟨V.ref _, H', I3, rfl, q3⟩⟩
    | next => exact False.elim hq'
    | brk => exact False.elim hq'
    | cont => exact False.elim hq'
/-- x.f of such a value -/
def tOxf (K : PySem.W.Frag) (f : Str) (te : TE) : TE := fun σ H Q => te σ H fun x H1 => ∃ (a C dd : Addr) (fs : List (Str × V)) (v : V), x = .ref a ∧ H1 a = some (exo a C (some dd)) ∧ H1 dd = some (exd dd fs) ∧ XfC K C ∧ PySem.W.findIn K (.ref C) f = some none ∧ fs.lookup f = some v ∧ Q v H1
theorem inst_exo {pins : List (Addr × Obj)} {σ : L2.St} {H : Hp} {s : Shared} {a C dd : Addr} {fs : List (Str × V)} (I : Inv X pins σ H s) (ha : H a = some (exo a C (some dd))) (hd : H dd = some (exd dd fs)) :
    ∃ (oe od : Obj) (mA : Str → Option Value), PySem.W.InstAt s.heap a oe C (some od) ∧ (∀ f, PySem.W.lookIn f od = some (mA f)) ∧ ∀ f, RelO (fs.lookup f) (mA f) := by
  obtain ⟨t1, ho⟩ := exo_at I.hok ha
  obtain ⟨mA, hns, hr⟩ := exd_at I.hok hd
  obtain ⟨od, h2, hl⟩ := lookIn_ns hns
  exact ⟨_, od, mA, ⟨ho, rfl, rfl, h2⟩, hl, hr⟩
theorem pe_oxf {te : TE} {n : Str} (he : PE X e te) (hb : attributeBase e n X.env (eval e X.env) = eval e X.env := by rfl) : PE X (.Attribute e n pos) (tOxf X.K n te) := by
  refine ⟨fun pins s σ H Q I h => ?_⟩
  refine attr_of hb (thn (he.run pins s σ H _ I h) fun u s1 ⟨x, H1, I1, rx, a, C, dd, fs, v, ex, ha, hd, T, hno, l, q⟩ => ?_)
  subst ex
  obtain rfl : u = Value.ref a := rx
  obtain ⟨oe, od, mA, J, hl, hr⟩ := inst_exo I1 ha hd
  obtain ⟨z, hz, rz⟩ := RelO.some_of (v := v) (o := mA n) (by rw [← l]; exact hr n)
  exact HandSPX.exc_get I1.kIn J T.ga T.gg T.exC (PySem.W.findObj_own T.hdC hno rfl (by rw [hl, hz])) (handed_of rz) ⟨v, H1, I1.tok _, rz, q⟩
/-- isinstance of such a value -/
def rIsO (K : PySem.W.Frag) : List V → Hp → VK → Prop := fun xs H Q => ∃ (a C dd : Addr) (fs : List (Str × V)) (c : V) (cv : Value) (b : Bool), xs = [.ref a, c] ∧ H a = some (exo a C (some dd)) ∧ H dd = some (exd dd fs) ∧ ExcC K C ∧ ClsV c cv ∧ PySem.W.kitOne K (.ref C) cv = some b ∧ Q (.bl b) H
theorem call_isO : CallR X (.builtin "isinstance") (rIsO X.K) := by
  intro pins s σ H xs us Q I r h
  obtain ⟨a, C, dd, fs, c, cv, b, rfl, ha, hd, T, kc, e, q⟩ := h
  obtain ⟨u1, u2, rfl, r1, r2⟩ := vals2 r
  obtain rfl : u1 = Value.ref a := r1
  have e2 := kc.eq r2
  subst e2
  obtain ⟨oe, od, mA, J, _⟩ := inst_exo I ha hd
  exact PySem.W.kia_one (PySem.W.kitx_excO T.hg T.hk T.hs T.hd T.ha T.hn T.ht T.hm) I.kIn J e (fun z => nomatch z) fun tk => ⟨.bl b, H, I.kept (t' := tk) fun _ _ z => z, rfl, q⟩
end
end Cm
namespace Cm
open PySem PySem.Spec PyProof.Rows
/-- which error is of which class -/
def kitB (K : PySem.W.Frag) (cs : List Addr) (q : Addr) : Bool := cs.zipIdx.all fun c => (cs.zipIdx.all fun d => decide (PySem.W.kitOne K (.ref c.1) (.ref d.1) = some (decide (c.2 = d.2)))) && (decide (PySem.W.kitOne K (.ref c.1) (.ref q) = some true) && decide (PySem.W.kitOne K (.ref c.1) (.type "ValueError") = some true))
theorem kitB_ok {K : PySem.W.Frag} {cs : List Addr} {q : Addr} (h : kitB K cs q = true) {i : Nat} {c : Addr} (hi : cs[i]? = some c) :
    (∀ {j : Nat} {d : Addr}, cs[j]? = some d → PySem.W.kitOne K (.ref c) (.ref d) = some (decide (i = j))) ∧ PySem.W.kitOne K (.ref c) (.ref q) = some true ∧ PySem.W.kitOne K (.ref c) (.type "ValueError") = some true := by
  have g := List.all_eq_true.mp h (c, i) (List.mem_zipIdx_iff_getElem?.mpr hi)
  obtain ⟨g1, g⟩ := Bool.and_eq_true_iff.mp g
  obtain ⟨g2, g3⟩ := Bool.and_eq_true_iff.mp g
  exact ⟨fun {j d} hj => of_decide_eq_true (List.all_eq_true.mp g1 (d, j) (List.mem_zipIdx_iff_getElem?.mpr hj)), of_decide_eq_true g2, of_decide_eq_true g3⟩
end Cm
namespace K88
open PySem PySem.Spec PyProof.Rows Cm
open L2 hiding Same
def top (i : Nat) : Stmt := PySem.Challenge.pw_quietedition_k88_errors_and_long_units.main.body.getD i (.Pass ⟨0, 0, 0, 0⟩)
abbrev s_value_text : Stmt := top 16
theorem sc_value_text : FnScope ["value", "kind"] ["value"] (defScope s_value_text) := ⟨rfl, rfl, rfl, by decide +kernel, rfl, by decide +kernel, by decide +kernel⟩
abbrev s_Tell_init : Stmt := inClass (top 19) 0
theorem sc_Tell_init : FnScope ["self", "value"] ["self", "value"] (defScope s_Tell_init) := ⟨rfl, rfl, rfl, by decide +kernel, rfl, by decide +kernel, by decide +kernel⟩
abbrev s_Tell_text : Stmt := inClass (top 19) 1
theorem sc_Tell_text : FnScope ["self"] ["self"] (defScope s_Tell_text) := ⟨rfl, rfl, rfl, by decide +kernel, rfl, by decide +kernel, by decide +kernel⟩
abbrev s_Tell_operands : Stmt := inClass (top 19) 2
theorem sc_Tell_operands : FnScope ["self"] ["self"] (defScope s_Tell_operands) := ⟨rfl, rfl, rfl, by decide +kernel, rfl, by decide +kernel, by decide +kernel⟩
abbrev s_Tell_eq : Stmt := inClass (top 19) 4
theorem sc_Tell_eq : FnScope ["self", "other"] ["self", "other"] (defScope s_Tell_eq) := ⟨rfl, rfl, rfl, by decide +kernel, rfl, by decide +kernel, by decide +kernel⟩
abbrev s_Put_init : Stmt := inClass (top 20) 0
theorem sc_Put_init : FnScope ["self", "place", "value"] ["self", "place", "value"] (defScope s_Put_init) := ⟨rfl, rfl, rfl, by decide +kernel, rfl, by decide +kernel, by decide +kernel⟩
abbrev s_Put_text : Stmt := inClass (top 20) 1
theorem sc_Put_text : FnScope ["self"] ["self"] (defScope s_Put_text) := ⟨rfl, rfl, rfl, by decide +kernel, rfl, by decide +kernel, by decide +kernel⟩
abbrev s_Put_operands : Stmt := inClass (top 20) 2
theorem sc_Put_operands : FnScope ["self"] ["self"] (defScope s_Put_operands) := ⟨rfl, rfl, rfl, by decide +kernel, rfl, by decide +kernel, by decide +kernel⟩
abbrev s_Put_eq : Stmt := inClass (top 20) 4
theorem sc_Put_eq : FnScope ["self", "other"] ["self", "other"] (defScope s_Put_eq) := ⟨rfl, rfl, rfl, by decide +kernel, rfl, by decide +kernel, by decide +kernel⟩
abbrev s_Same_init : Stmt := inClass (top 21) 0
theorem sc_Same_init : FnScope ["self", "left", "right", "skip"] ["self", "left", "right", "skip"] (defScope s_Same_init) := ⟨rfl, rfl, rfl, by decide +kernel, rfl, by decide +kernel, by decide +kernel⟩
abbrev s_Same_text : Stmt := inClass (top 21) 1
theorem sc_Same_text : FnScope ["self"] ["self"] (defScope s_Same_text) := ⟨rfl, rfl, rfl, by decide +kernel, rfl, by decide +kernel, by decide +kernel⟩
abbrev s_Same_operands : Stmt := inClass (top 21) 2
theorem sc_Same_operands : FnScope ["self"] ["self"] (defScope s_Same_operands) := ⟨rfl, rfl, rfl, by decide +kernel, rfl, by decide +kernel, by decide +kernel⟩
abbrev s_Same_eq : Stmt := inClass (top 21) 4
theorem sc_Same_eq : FnScope ["self", "other"] ["self", "other"] (defScope s_Same_eq) := ⟨rfl, rfl, rfl, by decide +kernel, rfl, by decide +kernel, by decide +kernel⟩
abbrev s_There_init : Stmt := inClass (top 22) 0
theorem sc_There_init : FnScope ["self", "name", "skip"] ["self", "name", "skip"] (defScope s_There_init) := ⟨rfl, rfl, rfl, by decide +kernel, rfl, by decide +kernel, by decide +kernel⟩
abbrev s_There_text : Stmt := inClass (top 22) 1
theorem sc_There_text : FnScope ["self"] ["self"] (defScope s_There_text) := ⟨rfl, rfl, rfl, by decide +kernel, rfl, by decide +kernel, by decide +kernel⟩
abbrev s_There_operands : Stmt := inClass (top 22) 2
theorem sc_There_operands : FnScope ["self"] ["self"] (defScope s_There_operands) := ⟨rfl, rfl, rfl, by decide +kernel, rfl, by decide +kernel, by decide +kernel⟩
abbrev s_There_eq : Stmt := inClass (top 22) 4
theorem sc_There_eq : FnScope ["self", "other"] ["self", "other"] (defScope s_There_eq) := ⟨rfl, rfl, rfl, by decide +kernel, rfl, by decide +kernel, by decide +kernel⟩
abbrev s_Call_init : Stmt := inClass (top 23) 0
theorem sc_Call_init : FnScope ["self", "name", "value", "tag"] ["self", "name", "value", "tag"] (defScope s_Call_init) := ⟨rfl, rfl, rfl, by decide +kernel, rfl, by decide +kernel, by decide +kernel⟩
abbrev s_Call_text : Stmt := inClass (top 23) 1
theorem sc_Call_text : FnScope ["self", "line"] ["self"] (defScope s_Call_text) := ⟨rfl, rfl, rfl, by decide +kernel, rfl, by decide +kernel, by decide +kernel⟩
abbrev s_Call_operands : Stmt := inClass (top 23) 2
theorem sc_Call_operands : FnScope ["self"] ["self"] (defScope s_Call_operands) := ⟨rfl, rfl, rfl, by decide +kernel, rfl, by decide +kernel, by decide +kernel⟩
abbrev s_Call_eq : Stmt := inClass (top 23) 4
theorem sc_Call_eq : FnScope ["self", "other"] ["self", "other"] (defScope s_Call_eq) := ⟨rfl, rfl, rfl, by decide +kernel, rfl, by decide +kernel, by decide +kernel⟩
abbrev s_End_text : Stmt := inClass (top 24) 0
theorem sc_End_text : FnScope ["self"] ["self"] (defScope s_End_text) := ⟨rfl, rfl, rfl, by decide +kernel, rfl, by decide +kernel, by decide +kernel⟩
abbrev s_End_operands : Stmt := inClass (top 24) 1
theorem sc_End_operands : FnScope ["self"] ["self"] (defScope s_End_operands) := ⟨rfl, rfl, rfl, by decide +kernel, rfl, by decide +kernel, by decide +kernel⟩
abbrev s_End_eq : Stmt := inClass (top 24) 3
theorem sc_End_eq : FnScope ["self", "other"] ["self", "other"] (defScope s_End_eq) := ⟨rfl, rfl, rfl, by decide +kernel, rfl, by decide +kernel, by decide +kernel⟩
abbrev s_is_digits : Stmt := top 28
theorem sc_is_digits : FnScope ["word", "sign"] ["word"] (defScope s_is_digits) := ⟨rfl, rfl, rfl, by decide +kernel, rfl, by decide +kernel, by decide +kernel⟩
abbrev s_is_name : Stmt := top 29
theorem sc_is_name : FnScope ["word", "sign"] ["word"] (defScope s_is_name) := ⟨rfl, rfl, rfl, by decide +kernel, rfl, by decide +kernel, by decide +kernel⟩
abbrev s_is_numeral : Stmt := top 30
theorem sc_is_numeral : FnScope ["word", "digits"] ["word"] (defScope s_is_numeral) := ⟨rfl, rfl, rfl, by decide +kernel, rfl, by decide +kernel, by decide +kernel⟩
abbrev s_is_index : Stmt := top 31
theorem sc_is_index : FnScope ["word"] ["word"] (defScope s_is_index) := ⟨rfl, rfl, rfl, by decide +kernel, rfl, by decide +kernel, by decide +kernel⟩
abbrev s_is_tag : Stmt := top 32
theorem sc_is_tag : FnScope ["word"] ["word"] (defScope s_is_tag) := ⟨rfl, rfl, rfl, by decide +kernel, rfl, by decide +kernel, by decide +kernel⟩
abbrev s_place_of : Stmt := top 33
theorem sc_place_of : FnScope ["word", "name", "_", "index"] ["word"] (defScope s_place_of) := ⟨rfl, rfl, rfl, by decide +kernel, rfl, by decide +kernel, by decide +kernel⟩
abbrev s_value_of : Stmt := top 34
theorem sc_value_of : FnScope ["word"] ["word"] (defScope s_value_of) := ⟨rfl, rfl, rfl, by decide +kernel, rfl, by decide +kernel, by decide +kernel⟩
abbrev s_fits : Stmt := top 39
theorem sc_fits : FnScope ["word", "slot"] ["word", "slot"] (defScope s_fits) := ⟨rfl, rfl, rfl, by decide +kernel, rfl, by decide +kernel, by decide +kernel⟩
abbrev s_stretched : Stmt := top 40
theorem sc_stretched : FnScope ["form", "count"] ["form", "count"] (defScope s_stretched) := ⟨rfl, rfl, rfl, by decide +kernel, rfl, by decide +kernel, by decide +kernel⟩
abbrev s_Grammar_init : Stmt := inClass (top 41) 0
theorem sc_Grammar_init : FnScope ["self", "order", "forms", "value_kinds", "place_kinds", "rank", "heads", "head", "form", "slots"] ["self", "order", "forms", "value_kinds", "place_kinds"] (defScope s_Grammar_init) := ⟨rfl, rfl, rfl, by decide +kernel, rfl, by decide +kernel, by decide +kernel⟩
abbrev s_Grammar_parse : Stmt := inClass (top 41) 1
theorem sc_Grammar_parse : FnScope ["self", "text", "lines", "rank", "at", "line", "words"] ["self", "text"] (defScope s_Grammar_parse) := ⟨rfl, rfl, rfl, by decide +kernel, rfl, by decide +kernel, by decide +kernel⟩
abbrev s_Grammar_may_stand : Stmt := inClass (top 41) 2
theorem sc_Grammar_may_stand : FnScope ["self", "head", "at", "rank", "own"] ["self", "head", "at", "rank"] (defScope s_Grammar_may_stand) := ⟨rfl, rfl, rfl, by decide +kernel, rfl, by decide +kernel, by decide +kernel⟩
abbrev s_Grammar_slots : Stmt := inClass (top 41) 3
theorem sc_Grammar_slots : FnScope ["self", "words", "form", "slots", "word", "slot"] ["self", "words"] (defScope s_Grammar_slots) := ⟨rfl, rfl, rfl, by decide +kernel, rfl, by decide +kernel, by decide +kernel⟩
abbrev s_Grammar_parts : Stmt := inClass (top 41) 4
theorem sc_Grammar_parts : FnScope ["self", "words", "at", "slots", "parts", "word", "slot", "part"] ["self", "words", "at"] (defScope s_Grammar_parts) := ⟨rfl, rfl, rfl, by decide +kernel, rfl, by decide +kernel, by decide +kernel⟩
abbrev s_Grammar_part : Stmt := inClass (top 41) 5
theorem sc_Grammar_part : FnScope ["self", "word", "slot", "value"] ["self", "word", "slot"] (defScope s_Grammar_part) := ⟨rfl, rfl, rfl, by decide +kernel, rfl, by decide +kernel, by decide +kernel⟩
abbrev s_row_of : Stmt := top 42
theorem sc_row_of : FnScope ["parts", "head"] ["parts"] (defScope s_row_of) := ⟨rfl, rfl, rfl, by decide +kernel, rfl, by decide +kernel, by decide +kernel⟩
abbrev s_sections : Stmt := top 43
theorem sc_sections : FnScope ["lines", "heads", "ahead", "blocks", "at", "parts"] ["lines", "heads"] (defScope s_sections) := ⟨rfl, rfl, rfl, by decide +kernel, rfl, by decide +kernel, by decide +kernel⟩
abbrev s_of_kind : Stmt := top 44
theorem sc_of_kind : FnScope ["ahead", "head", "at", "parts"] ["ahead", "head"] (defScope s_of_kind) := ⟨rfl, rfl, rfl, by decide +kernel, rfl, by decide +kernel, by decide +kernel⟩
abbrev s_check_declared : Stmt := top 45
theorem sc_check_declared : FnScope ["declared", "most", "total", "seen", "at", "name", "count"] ["declared", "most"] (defScope s_check_declared) := ⟨rfl, rfl, rfl, by decide +kernel, rfl, by decide +kernel, by decide +kernel⟩
abbrev s_is_wrong_skip : Stmt := top 46
theorem sc_is_wrong_skip : FnScope ["row", "behind"] ["row", "behind"] (defScope s_is_wrong_skip) := ⟨rfl, rfl, rfl, by decide +kernel, rfl, by decide +kernel, by decide +kernel⟩
abbrev s_key_of : Stmt := top 58
theorem sc_key_of : FnScope ["parts"] ["parts"] (defScope s_key_of) := ⟨rfl, rfl, rfl, by decide +kernel, rfl, by decide +kernel, by decide +kernel⟩
abbrev s_row_fault : Stmt := top 59
theorem sc_row_fault : FnScope ["rows", "index", "cells", "has_argument", "row", "value"] ["rows", "index", "cells", "has_argument"] (defScope s_row_fault) := ⟨rfl, rfl, rfl, by decide +kernel, rfl, by decide +kernel, by decide +kernel⟩
abbrev s_check_blocks : Stmt := top 60
theorem sc_check_blocks : FnScope ["blocks", "cells", "seen", "count", "at", "parts", "rows", "index", "cause"] ["blocks", "cells"] (defScope s_check_blocks) := ⟨rfl, rfl, rfl, by decide +kernel, rfl, by decide +kernel, by decide +kernel⟩
abbrev s_unit_sections : Stmt := top 61
theorem sc_unit_sections : FnScope ["text", "lines", "ahead", "blocks", "cells", "at", "parts", "_"] ["text"] (defScope s_unit_sections) := ⟨rfl, rfl, rfl, by decide +kernel, rfl, by decide +kernel, by decide +kernel⟩
abbrev s_Block_init : Stmt := inClass (top 62) 0
theorem sc_Block_init : FnScope ["self", "kind", "name", "rows"] ["self", "kind", "name", "rows"] (defScope s_Block_init) := ⟨rfl, rfl, rfl, by decide +kernel, rfl, by decide +kernel, by decide +kernel⟩
abbrev s_Block_head : Stmt := inClass (top 62) 1
theorem sc_Block_head : FnScope ["self"] ["self"] (defScope s_Block_head) := ⟨rfl, rfl, rfl, by decide +kernel, rfl, by decide +kernel, by decide +kernel⟩
abbrev s_block_of : Stmt := top 63
theorem sc_block_of : FnScope ["parts", "rows", "kind"] ["parts", "rows"] (defScope s_block_of) := ⟨rfl, rfl, rfl, by decide +kernel, rfl, by decide +kernel, by decide +kernel⟩
abbrev s_Unit_init : Stmt := inClass (top 65) 0
theorem sc_Unit_init : FnScope ["self", "name", "is_late", "cells", "blocks"] ["self", "name", "is_late", "cells", "blocks"] (defScope s_Unit_init) := ⟨rfl, rfl, rfl, by decide +kernel, rfl, by decide +kernel, by decide +kernel⟩
abbrev s_Unit_text : Stmt := inClass (top 65) 2
theorem sc_Unit_text : FnScope ["self", "lines", "name", "integer"] ["self"] (defScope s_Unit_text) := ⟨rfl, rfl, rfl, by decide +kernel, rfl, by decide +kernel, by decide +kernel⟩
abbrev s_Block_eq : Stmt := inClass (top 62) 2
theorem sc_Block_eq : FnScope ["self", "other"] ["self", "other"] (defScope s_Block_eq) := ⟨rfl, rfl, rfl, by decide +kernel, rfl, by decide +kernel, by decide +kernel⟩
abbrev s_Unit_str : Stmt := inClass (top 65) 3
theorem sc_Unit_str : FnScope ["self"] ["self"] (defScope s_Unit_str) := ⟨rfl, rfl, rfl, by decide +kernel, rfl, by decide +kernel, by decide +kernel⟩
abbrev s_Unit_eq : Stmt := inClass (top 65) 4
theorem sc_Unit_eq : FnScope ["self", "other"] ["self", "other"] (defScope s_Unit_eq) := ⟨rfl, rfl, rfl, by decide +kernel, rfl, by decide +kernel, by decide +kernel⟩
abbrev s_block_lines : Stmt := top 17
theorem sc_block_lines : FnScope ["blocks", "block", "line", "row"] ["blocks"] (defScope s_block_lines) := ⟨rfl, rfl, rfl, by decide +kernel, rfl, by decide +kernel, by decide +kernel⟩
abbrev s_copied : Stmt := top 2
theorem sc_copied : FnScope ["thing", "part"] ["thing"] (defScope s_copied) := ⟨rfl, rfl, rfl, by decide +kernel, rfl, by decide +kernel, by decide +kernel⟩
abbrev s_l_draw : Stmt := top 67
theorem sc_l_draw : FnScope ["_law_pool", "_law_many", "_law_cell", "_law_number_here"] ["_law_pool", "_law_many"] (defScope s_l_draw) := ⟨rfl, rfl, rfl, by decide +kernel, rfl, by decide +kernel, by decide +kernel⟩
abbrev s_l_pick : Stmt := top 68
theorem sc_l_pick : FnScope ["_law_pool", "_law_things"] ["_law_pool", "_law_things"] (defScope s_l_pick) := ⟨rfl, rfl, rfl, by decide +kernel, rfl, by decide +kernel, by decide +kernel⟩
abbrev s_l_name : Stmt := top 69
theorem sc_l_name : FnScope ["_law_pool", "_law_k", "_law_letters", "_law_name_here", "_law_step"] ["_law_pool", "_law_k"] (defScope s_l_name) := ⟨rfl, rfl, rfl, by decide +kernel, rfl, by decide +kernel, by decide +kernel⟩
abbrev s_l_number : Stmt := top 70
theorem sc_l_number : FnScope ["_law_pool", "_law_kind"] ["_law_pool"] (defScope s_l_number) := ⟨rfl, rfl, rfl, by decide +kernel, rfl, by decide +kernel, by decide +kernel⟩
abbrev s_l_field : Stmt := top 71
theorem sc_l_field : FnScope ["_law_pool"] ["_law_pool"] (defScope s_l_field) := ⟨rfl, rfl, rfl, by decide +kernel, rfl, by decide +kernel, by decide +kernel⟩
abbrev s_l_errors : Stmt := top 72
theorem sc_l_errors : FnScope ["_law_one", "_law_two", "_law_three", "_law_made"] ["_law_one", "_law_two", "_law_three"] (defScope s_l_errors) := ⟨rfl, rfl, rfl, by decide +kernel, rfl, by decide +kernel, by decide +kernel⟩
abbrev s_l_is_of : Stmt := top 73
theorem sc_l_is_of : FnScope ["_law_e", "_law_found"] ["_law_e"] (defScope s_l_is_of) := ⟨rfl, rfl, rfl, by decide +kernel, rfl, by decide +kernel, by decide +kernel⟩
abbrev s_l_fields : Stmt := top 74
theorem sc_l_fields : FnScope ["_law_k", "_law_e"] ["_law_k", "_law_e"] (defScope s_l_fields) := ⟨rfl, rfl, rfl, by decide +kernel, rfl, by decide +kernel, by decide +kernel⟩
abbrev s_l_errors_hold : Stmt := top 75
theorem sc_l_errors_hold : FnScope ["_law_pool", "_law_one", "_law_two", "_law_three", "_law_made", "_law_k", "_law_fields_here", "_law_j"] ["_law_pool"] (defScope s_l_errors_hold) := ⟨rfl, rfl, rfl, by decide +kernel, rfl, by decide +kernel, by decide +kernel⟩
abbrev s_l_read : Stmt := top 76
theorem sc_l_read : FnScope ["_law_lines", "_law_text", "_law_unit", "_law_e"] ["_law_lines"] (defScope s_l_read) := ⟨rfl, rfl, rfl, by decide +kernel, rfl, by decide +kernel, by decide +kernel⟩
abbrev s_l_block : Stmt := top 77
theorem sc_l_block : FnScope ["_law_pool", "_law_size", "_law_skip", "_law_rows", "_law_word", "_law_k"] ["_law_pool", "_law_size", "_law_skip"] (defScope s_l_block) := ⟨rfl, rfl, rfl, by decide +kernel, rfl, by decide +kernel, by decide +kernel⟩
abbrev s_law : Stmt := top 78
theorem sc_law : FnScope ["_law_script", "_law_pool", "_law_head", "_law_size", "_law_block_here", "_law_tail", "_law_due", "_law_lines", "_law_k", "_law_skip"] ["_law_script"] (defScope s_law) := ⟨rfl, rfl, rfl, by decide +kernel, rfl, by decide +kernel, by decide +kernel⟩
abbrev s_BadText_init : Stmt := inClass (top 4) 0
abbrev s_BadClient_init : Stmt := inClass (top 5) 0
abbrev s_BadManner_init : Stmt := inClass (top 6) 0
abbrev s_BadMoment_init : Stmt := inClass (top 7) 0
abbrev s_NotAssembled_init : Stmt := inClass (top 8) 0
abbrev s_NotLinked_init : Stmt := inClass (top 9) 0
abbrev s_NotLoaded_init : Stmt := inClass (top 10) 0
abbrev s_BadRenaming_init : Stmt := inClass (top 11) 0
abbrev s_TooMany_init : Stmt := inClass (top 12) 0
abbrev s_BadHouse_init : Stmt := inClass (top 13) 0
abbrev s_BadMend_init : Stmt := inClass (top 14) 0
abbrev s_Unit_read : Stmt := inClass (top 65) 1
theorem sc_Unit_read : FnScope ["cls", "text", "ahead", "blocks", "head", "cells", "_", "parts", "rows"] ["cls", "text"] (defScope s_Unit_read) := ⟨rfl, rfl, rfl, by decide +kernel, rfl, by decide +kernel, by decide +kernel⟩
def d_value_text : He.DefD := ⟨("value_text", none), "value_text", "value_text", defArgs s_value_text, defBody s_value_text, defScope s_value_text, [], []⟩
def d_Tell_init : He.DefD := ⟨("Tell", some "__init__"), "__init__", "Tell.__init__", defArgs s_Tell_init, defBody s_Tell_init, defScope s_Tell_init, [], []⟩
def d_Tell_text : He.DefD := ⟨("Tell", some "text"), "text", "Tell.text", defArgs s_Tell_text, defBody s_Tell_text, defScope s_Tell_text, [], []⟩
def d_Tell_operands : He.DefD := ⟨("Tell", some "operands"), "operands", "Tell.operands", defArgs s_Tell_operands, defBody s_Tell_operands, defScope s_Tell_operands, [], []⟩
def d_Tell_eq : He.DefD := ⟨("Tell", some "__eq__"), "__eq__", "Tell.__eq__", defArgs s_Tell_eq, defBody s_Tell_eq, defScope s_Tell_eq, [], []⟩
def d_Put_init : He.DefD := ⟨("Put", some "__init__"), "__init__", "Put.__init__", defArgs s_Put_init, defBody s_Put_init, defScope s_Put_init, [], []⟩
def d_Put_text : He.DefD := ⟨("Put", some "text"), "text", "Put.text", defArgs s_Put_text, defBody s_Put_text, defScope s_Put_text, [], []⟩
def d_Put_operands : He.DefD := ⟨("Put", some "operands"), "operands", "Put.operands", defArgs s_Put_operands, defBody s_Put_operands, defScope s_Put_operands, [], []⟩
def d_Put_eq : He.DefD := ⟨("Put", some "__eq__"), "__eq__", "Put.__eq__", defArgs s_Put_eq, defBody s_Put_eq, defScope s_Put_eq, [], []⟩
def d_Same_init : He.DefD := ⟨("Same", some "__init__"), "__init__", "Same.__init__", defArgs s_Same_init, defBody s_Same_init, defScope s_Same_init, [], []⟩
def d_Same_text : He.DefD := ⟨("Same", some "text"), "text", "Same.text", defArgs s_Same_text, defBody s_Same_text, defScope s_Same_text, [], []⟩
def d_Same_operands : He.DefD := ⟨("Same", some "operands"), "operands", "Same.operands", defArgs s_Same_operands, defBody s_Same_operands, defScope s_Same_operands, [], []⟩
def d_Same_eq : He.DefD := ⟨("Same", some "__eq__"), "__eq__", "Same.__eq__", defArgs s_Same_eq, defBody s_Same_eq, defScope s_Same_eq, [], []⟩
def d_There_init : He.DefD := ⟨("There", some "__init__"), "__init__", "There.__init__", defArgs s_There_init, defBody s_There_init, defScope s_There_init, [], []⟩
def d_There_text : He.DefD := ⟨("There", some "text"), "text", "There.text", defArgs s_There_text, defBody s_There_text, defScope s_There_text, [], []⟩
def d_There_operands : He.DefD := ⟨("There", some "operands"), "operands", "There.operands", defArgs s_There_operands, defBody s_There_operands, defScope s_There_operands, [], []⟩
def d_There_eq : He.DefD := ⟨("There", some "__eq__"), "__eq__", "There.__eq__", defArgs s_There_eq, defBody s_There_eq, defScope s_There_eq, [], []⟩
def d_Call_init : He.DefD := ⟨("Call", some "__init__"), "__init__", "Call.__init__", defArgs s_Call_init, defBody s_Call_init, defScope s_Call_init, [.int 0], []⟩
def d_Call_text : He.DefD := ⟨("Call", some "text"), "text", "Call.text", defArgs s_Call_text, defBody s_Call_text, defScope s_Call_text, [], []⟩
def d_Call_operands : He.DefD := ⟨("Call", some "operands"), "operands", "Call.operands", defArgs s_Call_operands, defBody s_Call_operands, defScope s_Call_operands, [], []⟩
def d_Call_eq : He.DefD := ⟨("Call", some "__eq__"), "__eq__", "Call.__eq__", defArgs s_Call_eq, defBody s_Call_eq, defScope s_Call_eq, [], []⟩
def d_End_text : He.DefD := ⟨("End", some "text"), "text", "End.text", defArgs s_End_text, defBody s_End_text, defScope s_End_text, [], []⟩
def d_End_operands : He.DefD := ⟨("End", some "operands"), "operands", "End.operands", defArgs s_End_operands, defBody s_End_operands, defScope s_End_operands, [], []⟩
def d_End_eq : He.DefD := ⟨("End", some "__eq__"), "__eq__", "End.__eq__", defArgs s_End_eq, defBody s_End_eq, defScope s_End_eq, [], []⟩
def d_is_digits : He.DefD := ⟨("is_digits", none), "is_digits", "is_digits", defArgs s_is_digits, defBody s_is_digits, defScope s_is_digits, [], []⟩
def d_is_name : He.DefD := ⟨("is_name", none), "is_name", "is_name", defArgs s_is_name, defBody s_is_name, defScope s_is_name, [], []⟩
def d_is_numeral : He.DefD := ⟨("is_numeral", none), "is_numeral", "is_numeral", defArgs s_is_numeral, defBody s_is_numeral, defScope s_is_numeral, [], []⟩
def d_is_index : He.DefD := ⟨("is_index", none), "is_index", "is_index", defArgs s_is_index, defBody s_is_index, defScope s_is_index, [], []⟩
def d_is_tag : He.DefD := ⟨("is_tag", none), "is_tag", "is_tag", defArgs s_is_tag, defBody s_is_tag, defScope s_is_tag, [], []⟩
def d_place_of : He.DefD := ⟨("place_of", none), "place_of", "place_of", defArgs s_place_of, defBody s_place_of, defScope s_place_of, [], []⟩
def d_value_of : He.DefD := ⟨("value_of", none), "value_of", "value_of", defArgs s_value_of, defBody s_value_of, defScope s_value_of, [], []⟩
def d_fits : He.DefD := ⟨("fits", none), "fits", "fits", defArgs s_fits, defBody s_fits, defScope s_fits, [], []⟩
def d_stretched : He.DefD := ⟨("stretched", none), "stretched", "stretched", defArgs s_stretched, defBody s_stretched, defScope s_stretched, [], []⟩
def d_Grammar_init : He.DefD := ⟨("Grammar", some "__init__"), "__init__", "Grammar.__init__", defArgs s_Grammar_init, defBody s_Grammar_init, defScope s_Grammar_init, [], []⟩
def d_Grammar_parse : He.DefD := ⟨("Grammar", some "parse"), "parse", "Grammar.parse", defArgs s_Grammar_parse, defBody s_Grammar_parse, defScope s_Grammar_parse, [], []⟩
def d_Grammar_may_stand : He.DefD := ⟨("Grammar", some "may_stand"), "may_stand", "Grammar.may_stand", defArgs s_Grammar_may_stand, defBody s_Grammar_may_stand, defScope s_Grammar_may_stand, [], []⟩
def d_Grammar_slots : He.DefD := ⟨("Grammar", some "slots"), "slots", "Grammar.slots", defArgs s_Grammar_slots, defBody s_Grammar_slots, defScope s_Grammar_slots, [], []⟩
def d_Grammar_parts : He.DefD := ⟨("Grammar", some "parts"), "parts", "Grammar.parts", defArgs s_Grammar_parts, defBody s_Grammar_parts, defScope s_Grammar_parts, [], []⟩
def d_Grammar_part : He.DefD := ⟨("Grammar", some "part"), "part", "Grammar.part", defArgs s_Grammar_part, defBody s_Grammar_part, defScope s_Grammar_part, [], []⟩
def d_row_of : He.DefD := ⟨("row_of", none), "row_of", "row_of", defArgs s_row_of, defBody s_row_of, defScope s_row_of, [], []⟩
def d_sections : He.DefD := ⟨("sections", none), "sections", "sections", defArgs s_sections, defBody s_sections, defScope s_sections, [], []⟩
def d_of_kind : He.DefD := ⟨("of_kind", none), "of_kind", "of_kind", defArgs s_of_kind, defBody s_of_kind, defScope s_of_kind, [], []⟩
def d_check_declared : He.DefD := ⟨("check_declared", none), "check_declared", "check_declared", defArgs s_check_declared, defBody s_check_declared, defScope s_check_declared, [], []⟩
def d_is_wrong_skip : He.DefD := ⟨("is_wrong_skip", none), "is_wrong_skip", "is_wrong_skip", defArgs s_is_wrong_skip, defBody s_is_wrong_skip, defScope s_is_wrong_skip, [], []⟩
def d_key_of : He.DefD := ⟨("key_of", none), "key_of", "key_of", defArgs s_key_of, defBody s_key_of, defScope s_key_of, [], []⟩
def d_row_fault : He.DefD := ⟨("row_fault", none), "row_fault", "row_fault", defArgs s_row_fault, defBody s_row_fault, defScope s_row_fault, [], []⟩
def d_check_blocks : He.DefD := ⟨("check_blocks", none), "check_blocks", "check_blocks", defArgs s_check_blocks, defBody s_check_blocks, defScope s_check_blocks, [], []⟩
def d_unit_sections : He.DefD := ⟨("unit_sections", none), "unit_sections", "unit_sections", defArgs s_unit_sections, defBody s_unit_sections, defScope s_unit_sections, [], []⟩
def d_Block_init : He.DefD := ⟨("Block", some "__init__"), "__init__", "Block.__init__", defArgs s_Block_init, defBody s_Block_init, defScope s_Block_init, [], []⟩
def d_Block_head : He.DefD := ⟨("Block", some "head"), "head", "Block.head", defArgs s_Block_head, defBody s_Block_head, defScope s_Block_head, [], []⟩
def d_block_of : He.DefD := ⟨("block_of", none), "block_of", "block_of", defArgs s_block_of, defBody s_block_of, defScope s_block_of, [], []⟩
def d_Unit_init : He.DefD := ⟨("Unit", some "__init__"), "__init__", "Unit.__init__", defArgs s_Unit_init, defBody s_Unit_init, defScope s_Unit_init, [], []⟩
def d_Unit_text : He.DefD := ⟨("Unit", some "text"), "text", "Unit.text", defArgs s_Unit_text, defBody s_Unit_text, defScope s_Unit_text, [], []⟩
def d_Block_eq : He.DefD := ⟨("Block", some "__eq__"), "__eq__", "Block.__eq__", defArgs s_Block_eq, defBody s_Block_eq, defScope s_Block_eq, [], []⟩
def d_Unit_str : He.DefD := ⟨("Unit", some "__str__"), "__str__", "Unit.__str__", defArgs s_Unit_str, defBody s_Unit_str, defScope s_Unit_str, [], []⟩
def d_Unit_eq : He.DefD := ⟨("Unit", some "__eq__"), "__eq__", "Unit.__eq__", defArgs s_Unit_eq, defBody s_Unit_eq, defScope s_Unit_eq, [], []⟩
def d_block_lines : He.DefD := ⟨("block_lines", none), "block_lines", "block_lines", defArgs s_block_lines, defBody s_block_lines, defScope s_block_lines, [], []⟩
def d_copied : He.DefD := ⟨("copied", none), "copied", "copied", defArgs s_copied, defBody s_copied, defScope s_copied, [], []⟩
def d_l_draw : He.DefD := ⟨("_law_draw", none), "_law_draw", "_law_draw", defArgs s_l_draw, defBody s_l_draw, defScope s_l_draw, [], []⟩
def d_l_pick : He.DefD := ⟨("_law_pick", none), "_law_pick", "_law_pick", defArgs s_l_pick, defBody s_l_pick, defScope s_l_pick, [], []⟩
def d_l_name : He.DefD := ⟨("_law_name", none), "_law_name", "_law_name", defArgs s_l_name, defBody s_l_name, defScope s_l_name, [], []⟩
def d_l_number : He.DefD := ⟨("_law_number", none), "_law_number", "_law_number", defArgs s_l_number, defBody s_l_number, defScope s_l_number, [], []⟩
def d_l_field : He.DefD := ⟨("_law_field", none), "_law_field", "_law_field", defArgs s_l_field, defBody s_l_field, defScope s_l_field, [], []⟩
def d_l_errors : He.DefD := ⟨("_law_errors", none), "_law_errors", "_law_errors", defArgs s_l_errors, defBody s_l_errors, defScope s_l_errors, [], []⟩
def d_l_is_of : He.DefD := ⟨("_law_is_of", none), "_law_is_of", "_law_is_of", defArgs s_l_is_of, defBody s_l_is_of, defScope s_l_is_of, [], []⟩
def d_l_fields : He.DefD := ⟨("_law_fields", none), "_law_fields", "_law_fields", defArgs s_l_fields, defBody s_l_fields, defScope s_l_fields, [], []⟩
def d_l_errors_hold : He.DefD := ⟨("_law_errors_hold", none), "_law_errors_hold", "_law_errors_hold", defArgs s_l_errors_hold, defBody s_l_errors_hold, defScope s_l_errors_hold, [], []⟩
def d_l_read : He.DefD := ⟨("_law_read", none), "_law_read", "_law_read", defArgs s_l_read, defBody s_l_read, defScope s_l_read, [], []⟩
def d_l_block : He.DefD := ⟨("_law_block", none), "_law_block", "_law_block", defArgs s_l_block, defBody s_l_block, defScope s_l_block, [], []⟩
def d_law : He.DefD := ⟨("law", none), "law", "law", defArgs s_law, defBody s_law, defScope s_law, [], []⟩
def fn : List He.DefD := [d_value_text, d_Tell_init, d_Tell_text, d_Tell_operands, d_Tell_eq, d_Put_init, d_Put_text, d_Put_operands, d_Put_eq, d_Same_init, d_Same_text, d_Same_operands, d_Same_eq, d_There_init, d_There_text, d_There_operands, d_There_eq, d_Call_init, d_Call_text, d_Call_operands, d_Call_eq, d_End_text, d_End_operands, d_End_eq, d_is_digits, d_is_name, d_is_numeral, d_is_index, d_is_tag, d_place_of, d_value_of, d_fits, d_stretched, d_Grammar_init, d_Grammar_parse, d_Grammar_may_stand, d_Grammar_slots, d_Grammar_parts, d_Grammar_part, d_row_of, d_sections, d_of_kind, d_check_declared, d_is_wrong_skip, d_key_of, d_row_fault, d_check_blocks, d_unit_sections, d_Block_init, d_Block_head, d_block_of, d_Unit_init, d_Unit_text, d_Block_eq, d_Unit_str, d_Unit_eq, d_block_lines, d_copied, d_l_draw, d_l_pick, d_l_name, d_l_number, d_l_field, d_l_errors, d_l_is_of, d_l_fields, d_l_errors_hold, d_l_read, d_l_block, d_law]
def fa : List He.Fa := [.glo "value_text",
  .glo "is_digits",
  .glo "is_name",
  .glo "is_numeral",
  .glo "is_index",
  .glo "is_tag",
  .glo "place_of",
  .glo "value_of",
  .glo "fits",
  .glo "stretched",
  .glo "row_of",
  .glo "sections",
  .glo "of_kind",
  .glo "check_declared",
  .glo "is_wrong_skip",
  .glo "key_of",
  .glo "row_fault",
  .glo "check_blocks",
  .glo "unit_sections",
  .glo "block_of",
  .glo "block_lines",
  .glo "copied",
  .glo "_law_draw",
  .glo "_law_pick",
  .glo "_law_name",
  .glo "_law_number",
  .glo "_law_field",
  .glo "_law_errors",
  .glo "_law_is_of",
  .glo "_law_fields",
  .glo "_law_errors_hold",
  .glo "_law_read",
  .glo "_law_block",
  .glo "law",
  .glo "Tell",
  .glo "Put",
  .glo "Same",
  .glo "There",
  .glo "Call",
  .glo "End",
  .glo "Grammar",
  .glo "Block",
  .glo "Unit",
  .glo "BadText",
  .glo "BadClient",
  .glo "BadManner",
  .glo "BadMoment",
  .glo "NotAssembled",
  .glo "NotLinked",
  .glo "NotLoaded",
  .glo "BadRenaming",
  .glo "TooMany",
  .glo "BadHouse",
  .glo "BadMend",
  .glo "QuietError",
  .glo "ACCESSES",
  .glo "CELL_ACCESSES",
  .glo "CAUSES",
  .glo "ORDER",
  .glo "FORMS",
  .glo "VALUE_KINDS",
  .glo "PLACE_KINDS",
  .glo "HEADS",
  .free "len",
  .free "range",
  .free "int",
  .free "str",
  .free "tuple",
  .free "list",
  .free "isinstance",
  .free "all",
  .free "min",
  .free "enumerate",
  .free "zip",
  .free "dict",
  .free "super",
  .free "ValueError",
  .cls "Tell",
  .mkr "Tell",
  .cls "Put",
  .mkr "Put",
  .cls "Same",
  .mkr "Same",
  .cls "There",
  .mkr "There",
  .cls "Call",
  .mkr "Call",
  .cls "End",
  .cls "Grammar",
  .mkr "Grammar",
  .cls "Block",
  .mkr "Block",
  .cls "Unit",
  .mkr "Unit",
  .meth "Tell" "text",
  .meth "Tell" "operands",
  .meth "Tell" "__eq__",
  .meth "Put" "text",
  .meth "Put" "operands",
  .meth "Put" "__eq__",
  .meth "Same" "text",
  .meth "Same" "operands",
  .meth "Same" "__eq__",
  .meth "There" "text",
  .meth "There" "operands",
  .meth "There" "__eq__",
  .meth "Call" "text",
  .meth "Call" "operands",
  .meth "Call" "__eq__",
  .meth "End" "text",
  .meth "End" "operands",
  .meth "End" "__eq__",
  .meth "Grammar" "parse",
  .meth "Grammar" "may_stand",
  .meth "Grammar" "slots",
  .meth "Grammar" "parts",
  .meth "Grammar" "part",
  .meth "Block" "head",
  .meth "Unit" "text",
  .meth "Block" "__eq__",
  .meth "Unit" "__str__",
  .meth "Unit" "__eq__",
  .noat "Tell" "value",
  .noat "Put" "place",
  .noat "Put" "value",
  .noat "Same" "left",
  .noat "Same" "right",
  .noat "Same" "skip",
  .noat "There" "name",
  .noat "There" "skip",
  .noat "Call" "name",
  .noat "Call" "value",
  .noat "Call" "tag",
  .noat "Grammar" "ranks",
  .noat "Grammar" "block_rank",
  .noat "Grammar" "forms",
  .noat "Grammar" "kinds",
  .noat "Block" "kind",
  .noat "Block" "name",
  .noat "Block" "rows",
  .noat "Unit" "name",
  .noat "Unit" "is_late",
  .noat "Unit" "cells",
  .noat "Unit" "blocks",
  .int "MOST_CELLS" 9,
  .int "MOST_BLOCKS" 20,
  .int "MOST_ROWS" 600,
  .str "LETTERS" Um.LETS,
  .str "DIGITS" Um.DIGS]
def exs (K : PySem.W.Frag) : List Bool := [decide (PySem.W.specialIn K (.builtin "object.__class__") "__get__" = some (some (.builtin "getset_descriptor.__get__"))),
  decide (PySem.W.takesIn K (.builtin "object.__class__") = some true),
  decide (PySem.W.findIn K (.ref (He.ga K "Tell")) "__class__" = some (some (.builtin "object.__class__"))),
  decide (PySem.W.mroIn K (He.ga K "Tell") (.type "object") = some true),
  decide (PySem.W.findIn K (.ref (He.ga K "Put")) "__class__" = some (some (.builtin "object.__class__"))),
  decide (PySem.W.mroIn K (He.ga K "Put") (.type "object") = some true),
  decide (PySem.W.findIn K (.ref (He.ga K "Same")) "__class__" = some (some (.builtin "object.__class__"))),
  decide (PySem.W.mroIn K (He.ga K "Same") (.type "object") = some true),
  decide (PySem.W.findIn K (.ref (He.ga K "There")) "__class__" = some (some (.builtin "object.__class__"))),
  decide (PySem.W.mroIn K (He.ga K "There") (.type "object") = some true),
  decide (PySem.W.findIn K (.ref (He.ga K "Call")) "__class__" = some (some (.builtin "object.__class__"))),
  decide (PySem.W.mroIn K (He.ga K "Call") (.type "object") = some true),
  decide (PySem.W.findIn K (.ref (He.ga K "End")) "__class__" = some (some (.builtin "object.__class__"))),
  decide (PySem.W.mroIn K (He.ga K "End") (.type "object") = some true),
  decide (PySem.W.findIn K (.ref (He.ga K "Block")) "__class__" = some (some (.builtin "object.__class__"))),
  decide (PySem.W.mroIn K (He.ga K "Block") (.type "object") = some true),
  decide (PySem.W.findIn K (.ref (He.ga K "Unit")) "__class__" = some (some (.builtin "object.__class__"))),
  decide (PySem.W.mroIn K (He.ga K "Unit") (.type "object") = some true),
  decide (PySem.W.kitOne K (.ref (He.ga K "Tell")) (.ref (He.ga K "Tell")) = some true),
  decide (PySem.W.notFirst K (He.ga K "Tell") (.ref (He.ga K "Tell")) = true),
  decide (PySem.W.kitOne K (.ref (He.ga K "Tell")) (.ref (He.ga K "Put")) = some false),
  decide (PySem.W.notFirst K (He.ga K "Tell") (.ref (He.ga K "Put")) = true),
  decide (PySem.W.kitOne K (.ref (He.ga K "Tell")) (.ref (He.ga K "Same")) = some false),
  decide (PySem.W.notFirst K (He.ga K "Tell") (.ref (He.ga K "Same")) = true),
  decide (PySem.W.kitOne K (.ref (He.ga K "Tell")) (.ref (He.ga K "There")) = some false),
  decide (PySem.W.notFirst K (He.ga K "Tell") (.ref (He.ga K "There")) = true),
  decide (PySem.W.kitOne K (.ref (He.ga K "Tell")) (.ref (He.ga K "Call")) = some false),
  decide (PySem.W.notFirst K (He.ga K "Tell") (.ref (He.ga K "Call")) = true),
  decide (PySem.W.kitOne K (.ref (He.ga K "Tell")) (.ref (He.ga K "End")) = some false),
  decide (PySem.W.notFirst K (He.ga K "Tell") (.ref (He.ga K "End")) = true),
  decide (PySem.W.kitOne K (.type "str") (.ref (He.ga K "Tell")) = some false),
  decide (PySem.W.kitOne K (.ref (He.ga K "Put")) (.ref (He.ga K "Tell")) = some false),
  decide (PySem.W.notFirst K (He.ga K "Put") (.ref (He.ga K "Tell")) = true),
  decide (PySem.W.kitOne K (.ref (He.ga K "Put")) (.ref (He.ga K "Put")) = some true),
  decide (PySem.W.notFirst K (He.ga K "Put") (.ref (He.ga K "Put")) = true),
  decide (PySem.W.kitOne K (.ref (He.ga K "Put")) (.ref (He.ga K "Same")) = some false),
  decide (PySem.W.notFirst K (He.ga K "Put") (.ref (He.ga K "Same")) = true),
  decide (PySem.W.kitOne K (.ref (He.ga K "Put")) (.ref (He.ga K "There")) = some false),
  decide (PySem.W.notFirst K (He.ga K "Put") (.ref (He.ga K "There")) = true),
  decide (PySem.W.kitOne K (.ref (He.ga K "Put")) (.ref (He.ga K "Call")) = some false),
  decide (PySem.W.notFirst K (He.ga K "Put") (.ref (He.ga K "Call")) = true),
  decide (PySem.W.kitOne K (.ref (He.ga K "Put")) (.ref (He.ga K "End")) = some false),
  decide (PySem.W.notFirst K (He.ga K "Put") (.ref (He.ga K "End")) = true),
  decide (PySem.W.kitOne K (.type "str") (.ref (He.ga K "Put")) = some false),
  decide (PySem.W.kitOne K (.ref (He.ga K "Same")) (.ref (He.ga K "Tell")) = some false),
  decide (PySem.W.notFirst K (He.ga K "Same") (.ref (He.ga K "Tell")) = true),
  decide (PySem.W.kitOne K (.ref (He.ga K "Same")) (.ref (He.ga K "Put")) = some false),
  decide (PySem.W.notFirst K (He.ga K "Same") (.ref (He.ga K "Put")) = true),
  decide (PySem.W.kitOne K (.ref (He.ga K "Same")) (.ref (He.ga K "Same")) = some true),
  decide (PySem.W.notFirst K (He.ga K "Same") (.ref (He.ga K "Same")) = true),
  decide (PySem.W.kitOne K (.ref (He.ga K "Same")) (.ref (He.ga K "There")) = some false),
  decide (PySem.W.notFirst K (He.ga K "Same") (.ref (He.ga K "There")) = true),
  decide (PySem.W.kitOne K (.ref (He.ga K "Same")) (.ref (He.ga K "Call")) = some false),
  decide (PySem.W.notFirst K (He.ga K "Same") (.ref (He.ga K "Call")) = true),
  decide (PySem.W.kitOne K (.ref (He.ga K "Same")) (.ref (He.ga K "End")) = some false),
  decide (PySem.W.notFirst K (He.ga K "Same") (.ref (He.ga K "End")) = true),
  decide (PySem.W.kitOne K (.type "str") (.ref (He.ga K "Same")) = some false),
  decide (PySem.W.kitOne K (.ref (He.ga K "There")) (.ref (He.ga K "Tell")) = some false),
  decide (PySem.W.notFirst K (He.ga K "There") (.ref (He.ga K "Tell")) = true),
  decide (PySem.W.kitOne K (.ref (He.ga K "There")) (.ref (He.ga K "Put")) = some false),
  decide (PySem.W.notFirst K (He.ga K "There") (.ref (He.ga K "Put")) = true),
  decide (PySem.W.kitOne K (.ref (He.ga K "There")) (.ref (He.ga K "Same")) = some false),
  decide (PySem.W.notFirst K (He.ga K "There") (.ref (He.ga K "Same")) = true),
  decide (PySem.W.kitOne K (.ref (He.ga K "There")) (.ref (He.ga K "There")) = some true),
  decide (PySem.W.notFirst K (He.ga K "There") (.ref (He.ga K "There")) = true),
  decide (PySem.W.kitOne K (.ref (He.ga K "There")) (.ref (He.ga K "Call")) = some false),
  decide (PySem.W.notFirst K (He.ga K "There") (.ref (He.ga K "Call")) = true),
  decide (PySem.W.kitOne K (.ref (He.ga K "There")) (.ref (He.ga K "End")) = some false),
  decide (PySem.W.notFirst K (He.ga K "There") (.ref (He.ga K "End")) = true),
  decide (PySem.W.kitOne K (.type "str") (.ref (He.ga K "There")) = some false),
  decide (PySem.W.kitOne K (.ref (He.ga K "Call")) (.ref (He.ga K "Tell")) = some false),
  decide (PySem.W.notFirst K (He.ga K "Call") (.ref (He.ga K "Tell")) = true),
  decide (PySem.W.kitOne K (.ref (He.ga K "Call")) (.ref (He.ga K "Put")) = some false),
  decide (PySem.W.notFirst K (He.ga K "Call") (.ref (He.ga K "Put")) = true),
  decide (PySem.W.kitOne K (.ref (He.ga K "Call")) (.ref (He.ga K "Same")) = some false),
  decide (PySem.W.notFirst K (He.ga K "Call") (.ref (He.ga K "Same")) = true),
  decide (PySem.W.kitOne K (.ref (He.ga K "Call")) (.ref (He.ga K "There")) = some false),
  decide (PySem.W.notFirst K (He.ga K "Call") (.ref (He.ga K "There")) = true),
  decide (PySem.W.kitOne K (.ref (He.ga K "Call")) (.ref (He.ga K "Call")) = some true),
  decide (PySem.W.notFirst K (He.ga K "Call") (.ref (He.ga K "Call")) = true),
  decide (PySem.W.kitOne K (.ref (He.ga K "Call")) (.ref (He.ga K "End")) = some false),
  decide (PySem.W.notFirst K (He.ga K "Call") (.ref (He.ga K "End")) = true),
  decide (PySem.W.kitOne K (.type "str") (.ref (He.ga K "Call")) = some false),
  decide (PySem.W.kitOne K (.ref (He.ga K "End")) (.ref (He.ga K "Tell")) = some false),
  decide (PySem.W.notFirst K (He.ga K "End") (.ref (He.ga K "Tell")) = true),
  decide (PySem.W.kitOne K (.ref (He.ga K "End")) (.ref (He.ga K "Put")) = some false),
  decide (PySem.W.notFirst K (He.ga K "End") (.ref (He.ga K "Put")) = true),
  decide (PySem.W.kitOne K (.ref (He.ga K "End")) (.ref (He.ga K "Same")) = some false),
  decide (PySem.W.notFirst K (He.ga K "End") (.ref (He.ga K "Same")) = true),
  decide (PySem.W.kitOne K (.ref (He.ga K "End")) (.ref (He.ga K "There")) = some false),
  decide (PySem.W.notFirst K (He.ga K "End") (.ref (He.ga K "There")) = true),
  decide (PySem.W.kitOne K (.ref (He.ga K "End")) (.ref (He.ga K "Call")) = some false),
  decide (PySem.W.notFirst K (He.ga K "End") (.ref (He.ga K "Call")) = true),
  decide (PySem.W.kitOne K (.ref (He.ga K "End")) (.ref (He.ga K "End")) = some true),
  decide (PySem.W.notFirst K (He.ga K "End") (.ref (He.ga K "End")) = true),
  decide (PySem.W.kitOne K (.type "str") (.ref (He.ga K "End")) = some false),
  decide (PySem.W.kitOne K (.ref (He.ga K "Block")) (.ref (He.ga K "Block")) = some true),
  decide (PySem.W.notFirst K (He.ga K "Block") (.ref (He.ga K "Block")) = true),
  decide (PySem.W.kitOne K (.ref (He.ga K "Unit")) (.ref (He.ga K "Unit")) = some true),
  decide (PySem.W.notFirst K (He.ga K "Unit") (.ref (He.ga K "Unit")) = true),
  decide (PySem.W.makesIn K (He.ga K "End") = true),
  decide (PySem.W.keepIn K (.ref (He.ga K "End")) = true),
  decide (PySem.W.findIn K (.ref (He.ga K "End")) "__init__" = some (some (.builtin "object.__init__"))),
  decide ((exB K (He.ga K "BadText") (He.ma K (He.ga K "BadText") "__init__")).all id = true),
  decide (supB PySem.Challenge.pw_quietedition_k88_errors_and_long_units.main.file K (He.ga K "BadText") (He.ma K (He.ga K "BadText") "__init__") "BadText.__init__" = true),
  decide (dfN K (He.ma K (He.ga K "BadText") "__init__") = true),
  decide ((exB K (He.ga K "BadClient") (He.ma K (He.ga K "BadClient") "__init__")).all id = true),
  decide (supB PySem.Challenge.pw_quietedition_k88_errors_and_long_units.main.file K (He.ga K "BadClient") (He.ma K (He.ga K "BadClient") "__init__") "BadClient.__init__" = true),
  decide (dfN K (He.ma K (He.ga K "BadClient") "__init__") = true),
  decide ((exB K (He.ga K "BadManner") (He.ma K (He.ga K "BadManner") "__init__")).all id = true),
  decide (supB PySem.Challenge.pw_quietedition_k88_errors_and_long_units.main.file K (He.ga K "BadManner") (He.ma K (He.ga K "BadManner") "__init__") "BadManner.__init__" = true),
  decide (dfN K (He.ma K (He.ga K "BadManner") "__init__") = true),
  decide ((exB K (He.ga K "BadMoment") (He.ma K (He.ga K "BadMoment") "__init__")).all id = true),
  decide (supB PySem.Challenge.pw_quietedition_k88_errors_and_long_units.main.file K (He.ga K "BadMoment") (He.ma K (He.ga K "BadMoment") "__init__") "BadMoment.__init__" = true),
  decide (dfN K (He.ma K (He.ga K "BadMoment") "__init__") = true),
  decide ((exB K (He.ga K "NotAssembled") (He.ma K (He.ga K "NotAssembled") "__init__")).all id = true),
  decide (supB PySem.Challenge.pw_quietedition_k88_errors_and_long_units.main.file K (He.ga K "NotAssembled") (He.ma K (He.ga K "NotAssembled") "__init__") "NotAssembled.__init__" = true),
  decide (dfN K (He.ma K (He.ga K "NotAssembled") "__init__") = true),
  decide ((exB K (He.ga K "NotLinked") (He.ma K (He.ga K "NotLinked") "__init__")).all id = true),
  decide (supB PySem.Challenge.pw_quietedition_k88_errors_and_long_units.main.file K (He.ga K "NotLinked") (He.ma K (He.ga K "NotLinked") "__init__") "NotLinked.__init__" = true),
  decide (dfN K (He.ma K (He.ga K "NotLinked") "__init__") = true),
  decide ((exB K (He.ga K "NotLoaded") (He.ma K (He.ga K "NotLoaded") "__init__")).all id = true),
  decide (supB PySem.Challenge.pw_quietedition_k88_errors_and_long_units.main.file K (He.ga K "NotLoaded") (He.ma K (He.ga K "NotLoaded") "__init__") "NotLoaded.__init__" = true),
  decide (dfN K (He.ma K (He.ga K "NotLoaded") "__init__") = true),
  decide ((exB K (He.ga K "BadRenaming") (He.ma K (He.ga K "BadRenaming") "__init__")).all id = true),
  decide (supB PySem.Challenge.pw_quietedition_k88_errors_and_long_units.main.file K (He.ga K "BadRenaming") (He.ma K (He.ga K "BadRenaming") "__init__") "BadRenaming.__init__" = true),
  decide (dfN K (He.ma K (He.ga K "BadRenaming") "__init__") = true),
  decide ((exB K (He.ga K "TooMany") (He.ma K (He.ga K "TooMany") "__init__")).all id = true),
  decide (supB PySem.Challenge.pw_quietedition_k88_errors_and_long_units.main.file K (He.ga K "TooMany") (He.ma K (He.ga K "TooMany") "__init__") "TooMany.__init__" = true),
  decide (dfN K (He.ma K (He.ga K "TooMany") "__init__") = true),
  decide ((exB K (He.ga K "BadHouse") (He.ma K (He.ga K "BadHouse") "__init__")).all id = true),
  decide (supB PySem.Challenge.pw_quietedition_k88_errors_and_long_units.main.file K (He.ga K "BadHouse") (He.ma K (He.ga K "BadHouse") "__init__") "BadHouse.__init__" = true),
  decide (dfN K (He.ma K (He.ga K "BadHouse") "__init__") = true),
  decide ((exB K (He.ga K "BadMend") (He.ma K (He.ga K "BadMend") "__init__")).all id = true),
  decide (supB PySem.Challenge.pw_quietedition_k88_errors_and_long_units.main.file K (He.ga K "BadMend") (He.ma K (He.ga K "BadMend") "__init__") "BadMend.__init__" = true),
  decide (dfN K (He.ma K (He.ga K "BadMend") "__init__") = true),
  decide (PySem.W.findIn K (.ref (He.ga K "BadText")) "row" = some none),
  decide (PySem.W.findIn K (.ref (He.ga K "BadText")) "cause" = some none),
  decide (PySem.W.readsIn K (He.ga K "Unit") (.type "type") = true),
  decide (PySem.W.specialIn K (.ref (He.ga K "Unit")) "__getattribute__" = some (some (.builtin "type.__getattribute__"))),
  decide (cmB K (He.ga K "Unit") (.type "type") "read" = true),
  decide (starB K (cmG K (He.ga K "Unit") (.type "type") "read") "Unit.read" = true),
  decide (tsB K (He.ga K "ACCESSES") ["open", "guarded", "hidden"] = true),
  decide (tsB K (He.ga K "CELL_ACCESSES") ["open", "hidden"] = true),
  decide (tsB K (He.ga K "ORDER") ["unit", "cell", "routine inner start", "tell set same there call end"] = true),
  decide (tsB K (He.ga K "FORMS") ["unit NAME", "unit NAME late", "cell NAME N", "routine NAME", "inner NAME", "start", "tell V", "set P V", "same V V else K", "there NAME else K", "call NAME V", "call NAME V at T", "end"] = true),
  decide (tsB K (He.ga K "VALUE_KINDS") ["number", "argument", "place", "own", "named"] = true),
  decide (tsB K (He.ga K "PLACE_KINDS") ["place", "own"] = true),
  decide (Um.slotW.map (Um.ctab K (He.ga K "CAUSES")) = Um.slotW.map fun s => some (Um.causeOf s)),
  decide (Um.kindW.map (Um.ctab K (He.ga K "HEADS")) = Um.kindW.map fun s => some (Um.headOf s)),
  decide (PySem.W.findIn K (.ref (He.ga K "BadText")) "row" = some none),
  decide (PySem.W.findIn K (.ref (He.ga K "BadText")) "cause" = some none),
  decide (PySem.W.findIn K (.ref (He.ga K "BadClient")) "at" = some none),
  decide (PySem.W.findIn K (.ref (He.ga K "BadClient")) "row" = some none),
  decide (PySem.W.findIn K (.ref (He.ga K "BadClient")) "cause" = some none),
  decide (PySem.W.findIn K (.ref (He.ga K "BadManner")) "name" = some none),
  decide (PySem.W.findIn K (.ref (He.ga K "BadMoment")) "moment" = some none),
  decide (PySem.W.findIn K (.ref (He.ga K "NotAssembled")) "unit" = some none),
  decide (PySem.W.findIn K (.ref (He.ga K "NotAssembled")) "name" = some none),
  decide (PySem.W.findIn K (.ref (He.ga K "NotLinked")) "cause" = some none),
  decide (PySem.W.findIn K (.ref (He.ga K "NotLinked")) "unit" = some none),
  decide (PySem.W.findIn K (.ref (He.ga K "NotLinked")) "name" = some none),
  decide (PySem.W.findIn K (.ref (He.ga K "NotLoaded")) "cause" = some none),
  decide (PySem.W.findIn K (.ref (He.ga K "NotLoaded")) "unit" = some none),
  decide (PySem.W.findIn K (.ref (He.ga K "NotLoaded")) "name" = some none),
  decide (PySem.W.findIn K (.ref (He.ga K "BadRenaming")) "at" = some none),
  decide (PySem.W.findIn K (.ref (He.ga K "TooMany")) "what" = some none),
  decide (PySem.W.findIn K (.ref (He.ga K "BadHouse")) "at" = some none),
  decide (PySem.W.findIn K (.ref (He.ga K "BadMend")) "at" = some none),
  decide (PySem.W.findIn K (.ref (He.ga K "BadMend")) "cause" = some none),
  decide (kitB K [He.ga K "BadText", He.ga K "BadClient", He.ga K "BadManner", He.ga K "BadMoment", He.ga K "NotAssembled", He.ga K "NotLinked", He.ga K "NotLoaded", He.ga K "BadRenaming", He.ga K "TooMany", He.ga K "BadHouse", He.ga K "BadMend"] (He.ga K "QuietError") = true)]
def wsl (K : PySem.W.Frag) : List FnWS := [fnWS K (He.ma K (He.ga K "BadText") "__init__"), fnWS K (He.ma K (He.ga K "BadClient") "__init__"), fnWS K (cmG K (He.ga K "Unit") (.type "type") "read"), fnWS K (He.ma K (He.ga K "BadManner") "__init__"), fnWS K (He.ma K (He.ga K "BadMoment") "__init__"), fnWS K (He.ma K (He.ga K "NotAssembled") "__init__"), fnWS K (He.ma K (He.ga K "NotLinked") "__init__"), fnWS K (He.ma K (He.ga K "NotLoaded") "__init__"), fnWS K (He.ma K (He.ga K "BadRenaming") "__init__"), fnWS K (He.ma K (He.ga K "TooMany") "__init__"), fnWS K (He.ma K (He.ga K "BadHouse") "__init__"), fnWS K (He.ma K (He.ga K "BadMend") "__init__")]
def wsv : List FnWS := [some ("__init__", "BadText.__init__", defArgs s_BadText_init, FuncBody.stmts (defBody s_BadText_init), defScope s_BadText_init, mainGlobals, ["__class__"], builtinsNs),
  some ("__init__", "BadClient.__init__", defArgs s_BadClient_init, FuncBody.stmts (defBody s_BadClient_init), defScope s_BadClient_init, mainGlobals, ["__class__"], builtinsNs),
  some ("read", "Unit.read", defArgs s_Unit_read, FuncBody.stmts (defBody s_Unit_read), defScope s_Unit_read, mainGlobals, [], builtinsNs),
  some ("__init__", "BadManner.__init__", defArgs s_BadManner_init, FuncBody.stmts (defBody s_BadManner_init), defScope s_BadManner_init, mainGlobals, ["__class__"], builtinsNs),
  some ("__init__", "BadMoment.__init__", defArgs s_BadMoment_init, FuncBody.stmts (defBody s_BadMoment_init), defScope s_BadMoment_init, mainGlobals, ["__class__"], builtinsNs),
  some ("__init__", "NotAssembled.__init__", defArgs s_NotAssembled_init, FuncBody.stmts (defBody s_NotAssembled_init), defScope s_NotAssembled_init, mainGlobals, ["__class__"], builtinsNs),
  some ("__init__", "NotLinked.__init__", defArgs s_NotLinked_init, FuncBody.stmts (defBody s_NotLinked_init), defScope s_NotLinked_init, mainGlobals, ["__class__"], builtinsNs),
  some ("__init__", "NotLoaded.__init__", defArgs s_NotLoaded_init, FuncBody.stmts (defBody s_NotLoaded_init), defScope s_NotLoaded_init, mainGlobals, ["__class__"], builtinsNs),
  some ("__init__", "BadRenaming.__init__", defArgs s_BadRenaming_init, FuncBody.stmts (defBody s_BadRenaming_init), defScope s_BadRenaming_init, mainGlobals, ["__class__"], builtinsNs),
  some ("__init__", "TooMany.__init__", defArgs s_TooMany_init, FuncBody.stmts (defBody s_TooMany_init), defScope s_TooMany_init, mainGlobals, ["__class__"], builtinsNs),
  some ("__init__", "BadHouse.__init__", defArgs s_BadHouse_init, FuncBody.stmts (defBody s_BadHouse_init), defScope s_BadHouse_init, mainGlobals, ["__class__"], builtinsNs),
  some ("__init__", "BadMend.__init__", defArgs s_BadMend_init, FuncBody.stmts (defBody s_BadMend_init), defScope s_BadMend_init, mainGlobals, ["__class__"], builtinsNs)]
def tabA : List (Str × List Str) := [("CAUSES", Um.causeK), ("HEADS", Um.headK)]
def tabs (K : PySem.W.Frag) : List (Option (List (Option (Str × Int)))) := tabA.map fun t => He.dicW K (He.ga K t.1)
def tabV (w : World) : List (Option (List (Option (Str × Int)))) := tabA.map fun t => some (He.keysIn w.params t.2)
def Wx (K : PySem.W.Frag) (w : World) : Prop := tabs K = tabV w
structure Tx (K : PySem.W.Frag) (mg : Str → Option Value) (sa : Addr) (sx : List Int) : Prop where
  c : He.SaysD fa fn K
  k : (exs K).all id = true
  w : wsl K = wsv
  g0 : mg "value_text" = some (.ref (He.ga K "value_text"))
  g1 : mg "is_digits" = some (.ref (He.ga K "is_digits"))
  g2 : mg "is_name" = some (.ref (He.ga K "is_name"))
  g3 : mg "is_numeral" = some (.ref (He.ga K "is_numeral"))
  g4 : mg "is_index" = some (.ref (He.ga K "is_index"))
  g5 : mg "is_tag" = some (.ref (He.ga K "is_tag"))
  g6 : mg "place_of" = some (.ref (He.ga K "place_of"))
  g7 : mg "value_of" = some (.ref (He.ga K "value_of"))
  g8 : mg "fits" = some (.ref (He.ga K "fits"))
  g9 : mg "stretched" = some (.ref (He.ga K "stretched"))
  g10 : mg "row_of" = some (.ref (He.ga K "row_of"))
  g11 : mg "sections" = some (.ref (He.ga K "sections"))
  g12 : mg "of_kind" = some (.ref (He.ga K "of_kind"))
  g13 : mg "check_declared" = some (.ref (He.ga K "check_declared"))
  g14 : mg "is_wrong_skip" = some (.ref (He.ga K "is_wrong_skip"))
  g15 : mg "key_of" = some (.ref (He.ga K "key_of"))
  g16 : mg "row_fault" = some (.ref (He.ga K "row_fault"))
  g17 : mg "check_blocks" = some (.ref (He.ga K "check_blocks"))
  g18 : mg "unit_sections" = some (.ref (He.ga K "unit_sections"))
  g19 : mg "block_of" = some (.ref (He.ga K "block_of"))
  g20 : mg "block_lines" = some (.ref (He.ga K "block_lines"))
  g21 : mg "copied" = some (.ref (He.ga K "copied"))
  g22 : mg "_law_draw" = some (.ref (He.ga K "_law_draw"))
  g23 : mg "_law_pick" = some (.ref (He.ga K "_law_pick"))
  g24 : mg "_law_name" = some (.ref (He.ga K "_law_name"))
  g25 : mg "_law_number" = some (.ref (He.ga K "_law_number"))
  g26 : mg "_law_field" = some (.ref (He.ga K "_law_field"))
  g27 : mg "_law_errors" = some (.ref (He.ga K "_law_errors"))
  g28 : mg "_law_is_of" = some (.ref (He.ga K "_law_is_of"))
  g29 : mg "_law_fields" = some (.ref (He.ga K "_law_fields"))
  g30 : mg "_law_errors_hold" = some (.ref (He.ga K "_law_errors_hold"))
  g31 : mg "_law_read" = some (.ref (He.ga K "_law_read"))
  g32 : mg "_law_block" = some (.ref (He.ga K "_law_block"))
  g33 : mg "law" = some (.ref (He.ga K "law"))
  g34 : mg "Tell" = some (.ref (He.ga K "Tell"))
  g35 : mg "Put" = some (.ref (He.ga K "Put"))
  g36 : mg "Same" = some (.ref (He.ga K "Same"))
  g37 : mg "There" = some (.ref (He.ga K "There"))
  g38 : mg "Call" = some (.ref (He.ga K "Call"))
  g39 : mg "End" = some (.ref (He.ga K "End"))
  g40 : mg "Grammar" = some (.ref (He.ga K "Grammar"))
  g41 : mg "Block" = some (.ref (He.ga K "Block"))
  g42 : mg "Unit" = some (.ref (He.ga K "Unit"))
  g43 : mg "BadText" = some (.ref (He.ga K "BadText"))
  g44 : mg "BadClient" = some (.ref (He.ga K "BadClient"))
  g45 : mg "BadManner" = some (.ref (He.ga K "BadManner"))
  g46 : mg "BadMoment" = some (.ref (He.ga K "BadMoment"))
  g47 : mg "NotAssembled" = some (.ref (He.ga K "NotAssembled"))
  g48 : mg "NotLinked" = some (.ref (He.ga K "NotLinked"))
  g49 : mg "NotLoaded" = some (.ref (He.ga K "NotLoaded"))
  g50 : mg "BadRenaming" = some (.ref (He.ga K "BadRenaming"))
  g51 : mg "TooMany" = some (.ref (He.ga K "TooMany"))
  g52 : mg "BadHouse" = some (.ref (He.ga K "BadHouse"))
  g53 : mg "BadMend" = some (.ref (He.ga K "BadMend"))
  g54 : mg "QuietError" = some (.ref (He.ga K "QuietError"))
  g55 : mg "ACCESSES" = some (.ref (He.ga K "ACCESSES"))
  g56 : mg "CELL_ACCESSES" = some (.ref (He.ga K "CELL_ACCESSES"))
  g57 : mg "CAUSES" = some (.ref (He.ga K "CAUSES"))
  g58 : mg "ORDER" = some (.ref (He.ga K "ORDER"))
  g59 : mg "FORMS" = some (.ref (He.ga K "FORMS"))
  g60 : mg "VALUE_KINDS" = some (.ref (He.ga K "VALUE_KINDS"))
  g61 : mg "PLACE_KINDS" = some (.ref (He.ga K "PLACE_KINDS"))
  g62 : mg "HEADS" = some (.ref (He.ga K "HEADS"))
  n0 : mg "len" = none
  n1 : mg "range" = none
  n2 : mg "int" = none
  n3 : mg "str" = none
  n4 : mg "tuple" = none
  n5 : mg "list" = none
  n6 : mg "isinstance" = none
  n7 : mg "all" = none
  n8 : mg "min" = none
  n9 : mg "enumerate" = none
  n10 : mg "zip" = none
  n11 : mg "dict" = none
  n12 : mg "super" = none
  n13 : mg "ValueError" = none
  i0 : ∃ t, mg "MOST_CELLS" = some (.int 9 t)
  i1 : ∃ t, mg "MOST_BLOCKS" = some (.int 20 t)
  i2 : ∃ t, mg "MOST_ROWS" = some (.int 600 t)
  s0 : ∃ t, mg "LETTERS" = some (.str Um.LETS t)
  s1 : ∃ t, mg "DIGITS" = some (.str Um.DIGS t)
section
variable {K : PySem.W.Frag} {mg : Str → Option Value} {sa : Addr} {sx : List Int}
theorem tx_of {h : Heap} (X : K.In h) (G : h.Ns mainGlobals mg) (c : He.SaysD fa fn K) (k : (exs K).all id = true) (w : wsl K = wsv) : Tx K mg sa sx :=
  ⟨c, k, w,
    He.glo_ok X G (c.fact 0 (f := .glo "value_text") rfl),
    He.glo_ok X G (c.fact 1 (f := .glo "is_digits") rfl),
    He.glo_ok X G (c.fact 2 (f := .glo "is_name") rfl),
    He.glo_ok X G (c.fact 3 (f := .glo "is_numeral") rfl),
    He.glo_ok X G (c.fact 4 (f := .glo "is_index") rfl),
    He.glo_ok X G (c.fact 5 (f := .glo "is_tag") rfl),
    He.glo_ok X G (c.fact 6 (f := .glo "place_of") rfl),
    He.glo_ok X G (c.fact 7 (f := .glo "value_of") rfl),
    He.glo_ok X G (c.fact 8 (f := .glo "fits") rfl),
    He.glo_ok X G (c.fact 9 (f := .glo "stretched") rfl),
    He.glo_ok X G (c.fact 10 (f := .glo "row_of") rfl),
    He.glo_ok X G (c.fact 11 (f := .glo "sections") rfl),
    He.glo_ok X G (c.fact 12 (f := .glo "of_kind") rfl),
    He.glo_ok X G (c.fact 13 (f := .glo "check_declared") rfl),
    He.glo_ok X G (c.fact 14 (f := .glo "is_wrong_skip") rfl),
    He.glo_ok X G (c.fact 15 (f := .glo "key_of") rfl),
    He.glo_ok X G (c.fact 16 (f := .glo "row_fault") rfl),
    He.glo_ok X G (c.fact 17 (f := .glo "check_blocks") rfl),
    He.glo_ok X G (c.fact 18 (f := .glo "unit_sections") rfl),
    He.glo_ok X G (c.fact 19 (f := .glo "block_of") rfl),
    He.glo_ok X G (c.fact 20 (f := .glo "block_lines") rfl),
    He.glo_ok X G (c.fact 21 (f := .glo "copied") rfl),
    He.glo_ok X G (c.fact 22 (f := .glo "_law_draw") rfl),
    He.glo_ok X G (c.fact 23 (f := .glo "_law_pick") rfl),
    He.glo_ok X G (c.fact 24 (f := .glo "_law_name") rfl),
    He.glo_ok X G (c.fact 25 (f := .glo "_law_number") rfl),
    He.glo_ok X G (c.fact 26 (f := .glo "_law_field") rfl),
    He.glo_ok X G (c.fact 27 (f := .glo "_law_errors") rfl),
    He.glo_ok X G (c.fact 28 (f := .glo "_law_is_of") rfl),
    He.glo_ok X G (c.fact 29 (f := .glo "_law_fields") rfl),
    He.glo_ok X G (c.fact 30 (f := .glo "_law_errors_hold") rfl),
    He.glo_ok X G (c.fact 31 (f := .glo "_law_read") rfl),
    He.glo_ok X G (c.fact 32 (f := .glo "_law_block") rfl),
    He.glo_ok X G (c.fact 33 (f := .glo "law") rfl),
    He.glo_ok X G (c.fact 34 (f := .glo "Tell") rfl),
    He.glo_ok X G (c.fact 35 (f := .glo "Put") rfl),
    He.glo_ok X G (c.fact 36 (f := .glo "Same") rfl),
    He.glo_ok X G (c.fact 37 (f := .glo "There") rfl),
    He.glo_ok X G (c.fact 38 (f := .glo "Call") rfl),
    He.glo_ok X G (c.fact 39 (f := .glo "End") rfl),
    He.glo_ok X G (c.fact 40 (f := .glo "Grammar") rfl),
    He.glo_ok X G (c.fact 41 (f := .glo "Block") rfl),
    He.glo_ok X G (c.fact 42 (f := .glo "Unit") rfl),
    He.glo_ok X G (c.fact 43 (f := .glo "BadText") rfl),
    He.glo_ok X G (c.fact 44 (f := .glo "BadClient") rfl),
    He.glo_ok X G (c.fact 45 (f := .glo "BadManner") rfl),
    He.glo_ok X G (c.fact 46 (f := .glo "BadMoment") rfl),
    He.glo_ok X G (c.fact 47 (f := .glo "NotAssembled") rfl),
    He.glo_ok X G (c.fact 48 (f := .glo "NotLinked") rfl),
    He.glo_ok X G (c.fact 49 (f := .glo "NotLoaded") rfl),
    He.glo_ok X G (c.fact 50 (f := .glo "BadRenaming") rfl),
    He.glo_ok X G (c.fact 51 (f := .glo "TooMany") rfl),
    He.glo_ok X G (c.fact 52 (f := .glo "BadHouse") rfl),
    He.glo_ok X G (c.fact 53 (f := .glo "BadMend") rfl),
    He.glo_ok X G (c.fact 54 (f := .glo "QuietError") rfl),
    He.glo_ok X G (c.fact 55 (f := .glo "ACCESSES") rfl),
    He.glo_ok X G (c.fact 56 (f := .glo "CELL_ACCESSES") rfl),
    He.glo_ok X G (c.fact 57 (f := .glo "CAUSES") rfl),
    He.glo_ok X G (c.fact 58 (f := .glo "ORDER") rfl),
    He.glo_ok X G (c.fact 59 (f := .glo "FORMS") rfl),
    He.glo_ok X G (c.fact 60 (f := .glo "VALUE_KINDS") rfl),
    He.glo_ok X G (c.fact 61 (f := .glo "PLACE_KINDS") rfl),
    He.glo_ok X G (c.fact 62 (f := .glo "HEADS") rfl),
    He.free_ok X G (c.fact 63 (f := .free "len") rfl),
    He.free_ok X G (c.fact 64 (f := .free "range") rfl),
    He.free_ok X G (c.fact 65 (f := .free "int") rfl),
    He.free_ok X G (c.fact 66 (f := .free "str") rfl),
    He.free_ok X G (c.fact 67 (f := .free "tuple") rfl),
    He.free_ok X G (c.fact 68 (f := .free "list") rfl),
    He.free_ok X G (c.fact 69 (f := .free "isinstance") rfl),
    He.free_ok X G (c.fact 70 (f := .free "all") rfl),
    He.free_ok X G (c.fact 71 (f := .free "min") rfl),
    He.free_ok X G (c.fact 72 (f := .free "enumerate") rfl),
    He.free_ok X G (c.fact 73 (f := .free "zip") rfl),
    He.free_ok X G (c.fact 74 (f := .free "dict") rfl),
    He.free_ok X G (c.fact 75 (f := .free "super") rfl),
    He.free_ok X G (c.fact 76 (f := .free "ValueError") rfl),
    He.int_ok X G (c.fact 144 (f := .int "MOST_CELLS" 9) rfl),
    He.int_ok X G (c.fact 145 (f := .int "MOST_BLOCKS" 20) rfl),
    He.int_ok X G (c.fact 146 (f := .int "MOST_ROWS" 600) rfl),
    He.str_ok X G (c.fact 147 (f := .str "LETTERS" Um.LETS) rfl),
    He.str_ok X G (c.fact 148 (f := .str "DIGITS" Um.DIGS) rfl)⟩
theorem s_LETTERS (T : Tx K mg sa sx) : ∃ t, mg "LETTERS" = some (.str Um.LETS t) := T.s0
theorem s_DIGITS (T : Tx K mg sa sx) : ∃ t, mg "DIGITS" = some (.str Um.DIGS t) := T.s1
theorem i_MOST_CELLS (T : Tx K mg sa sx) : ∃ t, mg "MOST_CELLS" = some (.int 9 t) := T.i0
theorem i_MOST_BLOCKS (T : Tx K mg sa sx) : ∃ t, mg "MOST_BLOCKS" = some (.int 20 t) := T.i1
theorem i_MOST_ROWS (T : Tx K mg sa sx) : ∃ t, mg "MOST_ROWS" = some (.int 600 t) := T.i2
theorem g_value_text (T : Tx K mg sa sx) : mg "value_text" = some (.ref (He.ga K "value_text")) := T.g0
theorem g_is_digits (T : Tx K mg sa sx) : mg "is_digits" = some (.ref (He.ga K "is_digits")) := T.g1
theorem g_is_name (T : Tx K mg sa sx) : mg "is_name" = some (.ref (He.ga K "is_name")) := T.g2
theorem g_is_numeral (T : Tx K mg sa sx) : mg "is_numeral" = some (.ref (He.ga K "is_numeral")) := T.g3
theorem g_is_index (T : Tx K mg sa sx) : mg "is_index" = some (.ref (He.ga K "is_index")) := T.g4
theorem g_is_tag (T : Tx K mg sa sx) : mg "is_tag" = some (.ref (He.ga K "is_tag")) := T.g5
theorem g_place_of (T : Tx K mg sa sx) : mg "place_of" = some (.ref (He.ga K "place_of")) := T.g6
theorem g_value_of (T : Tx K mg sa sx) : mg "value_of" = some (.ref (He.ga K "value_of")) := T.g7
theorem g_fits (T : Tx K mg sa sx) : mg "fits" = some (.ref (He.ga K "fits")) := T.g8
theorem g_stretched (T : Tx K mg sa sx) : mg "stretched" = some (.ref (He.ga K "stretched")) := T.g9
theorem g_row_of (T : Tx K mg sa sx) : mg "row_of" = some (.ref (He.ga K "row_of")) := T.g10
theorem g_sections (T : Tx K mg sa sx) : mg "sections" = some (.ref (He.ga K "sections")) := T.g11
theorem g_of_kind (T : Tx K mg sa sx) : mg "of_kind" = some (.ref (He.ga K "of_kind")) := T.g12
theorem g_check_declared (T : Tx K mg sa sx) : mg "check_declared" = some (.ref (He.ga K "check_declared")) := T.g13
theorem g_is_wrong_skip (T : Tx K mg sa sx) : mg "is_wrong_skip" = some (.ref (He.ga K "is_wrong_skip")) := T.g14
theorem g_key_of (T : Tx K mg sa sx) : mg "key_of" = some (.ref (He.ga K "key_of")) := T.g15
theorem g_row_fault (T : Tx K mg sa sx) : mg "row_fault" = some (.ref (He.ga K "row_fault")) := T.g16
theorem g_check_blocks (T : Tx K mg sa sx) : mg "check_blocks" = some (.ref (He.ga K "check_blocks")) := T.g17
theorem g_unit_sections (T : Tx K mg sa sx) : mg "unit_sections" = some (.ref (He.ga K "unit_sections")) := T.g18
theorem g_block_of (T : Tx K mg sa sx) : mg "block_of" = some (.ref (He.ga K "block_of")) := T.g19
theorem g_block_lines (T : Tx K mg sa sx) : mg "block_lines" = some (.ref (He.ga K "block_lines")) := T.g20
theorem g_copied (T : Tx K mg sa sx) : mg "copied" = some (.ref (He.ga K "copied")) := T.g21
theorem g__law_draw (T : Tx K mg sa sx) : mg "_law_draw" = some (.ref (He.ga K "_law_draw")) := T.g22
theorem g__law_pick (T : Tx K mg sa sx) : mg "_law_pick" = some (.ref (He.ga K "_law_pick")) := T.g23
theorem g__law_name (T : Tx K mg sa sx) : mg "_law_name" = some (.ref (He.ga K "_law_name")) := T.g24
theorem g__law_number (T : Tx K mg sa sx) : mg "_law_number" = some (.ref (He.ga K "_law_number")) := T.g25
theorem g__law_field (T : Tx K mg sa sx) : mg "_law_field" = some (.ref (He.ga K "_law_field")) := T.g26
theorem g__law_errors (T : Tx K mg sa sx) : mg "_law_errors" = some (.ref (He.ga K "_law_errors")) := T.g27
theorem g__law_is_of (T : Tx K mg sa sx) : mg "_law_is_of" = some (.ref (He.ga K "_law_is_of")) := T.g28
theorem g__law_fields (T : Tx K mg sa sx) : mg "_law_fields" = some (.ref (He.ga K "_law_fields")) := T.g29
theorem g__law_errors_hold (T : Tx K mg sa sx) : mg "_law_errors_hold" = some (.ref (He.ga K "_law_errors_hold")) := T.g30
theorem g__law_read (T : Tx K mg sa sx) : mg "_law_read" = some (.ref (He.ga K "_law_read")) := T.g31
theorem g__law_block (T : Tx K mg sa sx) : mg "_law_block" = some (.ref (He.ga K "_law_block")) := T.g32
theorem g_law (T : Tx K mg sa sx) : mg "law" = some (.ref (He.ga K "law")) := T.g33
theorem g_Tell (T : Tx K mg sa sx) : mg "Tell" = some (.ref (He.ga K "Tell")) := T.g34
theorem g_Put (T : Tx K mg sa sx) : mg "Put" = some (.ref (He.ga K "Put")) := T.g35
theorem g_Same (T : Tx K mg sa sx) : mg "Same" = some (.ref (He.ga K "Same")) := T.g36
theorem g_There (T : Tx K mg sa sx) : mg "There" = some (.ref (He.ga K "There")) := T.g37
theorem g_Call (T : Tx K mg sa sx) : mg "Call" = some (.ref (He.ga K "Call")) := T.g38
theorem g_End (T : Tx K mg sa sx) : mg "End" = some (.ref (He.ga K "End")) := T.g39
theorem g_Grammar (T : Tx K mg sa sx) : mg "Grammar" = some (.ref (He.ga K "Grammar")) := T.g40
theorem g_Block (T : Tx K mg sa sx) : mg "Block" = some (.ref (He.ga K "Block")) := T.g41
theorem g_Unit (T : Tx K mg sa sx) : mg "Unit" = some (.ref (He.ga K "Unit")) := T.g42
theorem g_BadText (T : Tx K mg sa sx) : mg "BadText" = some (.ref (He.ga K "BadText")) := T.g43
theorem g_BadClient (T : Tx K mg sa sx) : mg "BadClient" = some (.ref (He.ga K "BadClient")) := T.g44
theorem g_BadManner (T : Tx K mg sa sx) : mg "BadManner" = some (.ref (He.ga K "BadManner")) := T.g45
theorem g_BadMoment (T : Tx K mg sa sx) : mg "BadMoment" = some (.ref (He.ga K "BadMoment")) := T.g46
theorem g_NotAssembled (T : Tx K mg sa sx) : mg "NotAssembled" = some (.ref (He.ga K "NotAssembled")) := T.g47
theorem g_NotLinked (T : Tx K mg sa sx) : mg "NotLinked" = some (.ref (He.ga K "NotLinked")) := T.g48
theorem g_NotLoaded (T : Tx K mg sa sx) : mg "NotLoaded" = some (.ref (He.ga K "NotLoaded")) := T.g49
theorem g_BadRenaming (T : Tx K mg sa sx) : mg "BadRenaming" = some (.ref (He.ga K "BadRenaming")) := T.g50
theorem g_TooMany (T : Tx K mg sa sx) : mg "TooMany" = some (.ref (He.ga K "TooMany")) := T.g51
theorem g_BadHouse (T : Tx K mg sa sx) : mg "BadHouse" = some (.ref (He.ga K "BadHouse")) := T.g52
theorem g_BadMend (T : Tx K mg sa sx) : mg "BadMend" = some (.ref (He.ga K "BadMend")) := T.g53
theorem g_QuietError (T : Tx K mg sa sx) : mg "QuietError" = some (.ref (He.ga K "QuietError")) := T.g54
theorem g_ACCESSES (T : Tx K mg sa sx) : mg "ACCESSES" = some (.ref (He.ga K "ACCESSES")) := T.g55
theorem g_CELL_ACCESSES (T : Tx K mg sa sx) : mg "CELL_ACCESSES" = some (.ref (He.ga K "CELL_ACCESSES")) := T.g56
theorem g_CAUSES (T : Tx K mg sa sx) : mg "CAUSES" = some (.ref (He.ga K "CAUSES")) := T.g57
theorem g_ORDER (T : Tx K mg sa sx) : mg "ORDER" = some (.ref (He.ga K "ORDER")) := T.g58
theorem g_FORMS (T : Tx K mg sa sx) : mg "FORMS" = some (.ref (He.ga K "FORMS")) := T.g59
theorem g_VALUE_KINDS (T : Tx K mg sa sx) : mg "VALUE_KINDS" = some (.ref (He.ga K "VALUE_KINDS")) := T.g60
theorem g_PLACE_KINDS (T : Tx K mg sa sx) : mg "PLACE_KINDS" = some (.ref (He.ga K "PLACE_KINDS")) := T.g61
theorem g_HEADS (T : Tx K mg sa sx) : mg "HEADS" = some (.ref (He.ga K "HEADS")) := T.g62
theorem n_len (T : Tx K mg sa sx) : mg "len" = none := T.n0
theorem n_range (T : Tx K mg sa sx) : mg "range" = none := T.n1
theorem n_int (T : Tx K mg sa sx) : mg "int" = none := T.n2
theorem n_str (T : Tx K mg sa sx) : mg "str" = none := T.n3
theorem n_tuple (T : Tx K mg sa sx) : mg "tuple" = none := T.n4
theorem n_list (T : Tx K mg sa sx) : mg "list" = none := T.n5
theorem n_isinstance (T : Tx K mg sa sx) : mg "isinstance" = none := T.n6
theorem n_all (T : Tx K mg sa sx) : mg "all" = none := T.n7
theorem n_min (T : Tx K mg sa sx) : mg "min" = none := T.n8
theorem n_enumerate (T : Tx K mg sa sx) : mg "enumerate" = none := T.n9
theorem n_zip (T : Tx K mg sa sx) : mg "zip" = none := T.n10
theorem n_dict (T : Tx K mg sa sx) : mg "dict" = none := T.n11
theorem n_super (T : Tx K mg sa sx) : mg "super" = none := T.n12
theorem n_ValueError (T : Tx K mg sa sx) : mg "ValueError" = none := T.n13
theorem exs_at (T : Tx K mg sa sx) (i : Nat) {b : Bool} (h : (exs K)[i]? = some b := by rfl) : b = true := List.all_eq_true.mp T.k b (List.mem_of_getElem? h)
theorem x_cget (T : Tx K mg sa sx) : PySem.W.specialIn K (.builtin "object.__class__") "__get__" = some (some (.builtin "getset_descriptor.__get__")) := of_decide_eq_true (exs_at T 0)
theorem x_ctak (T : Tx K mg sa sx) : PySem.W.takesIn K (.builtin "object.__class__") = some true := of_decide_eq_true (exs_at T 1)
theorem x_cc_Tell (T : Tx K mg sa sx) : PySem.W.findIn K (.ref (He.ga K "Tell")) "__class__" = some (some (.builtin "object.__class__")) := of_decide_eq_true (exs_at T 2)
theorem x_mro_Tell (T : Tx K mg sa sx) : PySem.W.mroIn K (He.ga K "Tell") (.type "object") = some true := of_decide_eq_true (exs_at T 3)
theorem x_cc_Put (T : Tx K mg sa sx) : PySem.W.findIn K (.ref (He.ga K "Put")) "__class__" = some (some (.builtin "object.__class__")) := of_decide_eq_true (exs_at T 4)
theorem x_mro_Put (T : Tx K mg sa sx) : PySem.W.mroIn K (He.ga K "Put") (.type "object") = some true := of_decide_eq_true (exs_at T 5)
theorem x_cc_Same (T : Tx K mg sa sx) : PySem.W.findIn K (.ref (He.ga K "Same")) "__class__" = some (some (.builtin "object.__class__")) := of_decide_eq_true (exs_at T 6)
theorem x_mro_Same (T : Tx K mg sa sx) : PySem.W.mroIn K (He.ga K "Same") (.type "object") = some true := of_decide_eq_true (exs_at T 7)
theorem x_cc_There (T : Tx K mg sa sx) : PySem.W.findIn K (.ref (He.ga K "There")) "__class__" = some (some (.builtin "object.__class__")) := of_decide_eq_true (exs_at T 8)
theorem x_mro_There (T : Tx K mg sa sx) : PySem.W.mroIn K (He.ga K "There") (.type "object") = some true := of_decide_eq_true (exs_at T 9)
theorem x_cc_Call (T : Tx K mg sa sx) : PySem.W.findIn K (.ref (He.ga K "Call")) "__class__" = some (some (.builtin "object.__class__")) := of_decide_eq_true (exs_at T 10)
theorem x_mro_Call (T : Tx K mg sa sx) : PySem.W.mroIn K (He.ga K "Call") (.type "object") = some true := of_decide_eq_true (exs_at T 11)
theorem x_cc_End (T : Tx K mg sa sx) : PySem.W.findIn K (.ref (He.ga K "End")) "__class__" = some (some (.builtin "object.__class__")) := of_decide_eq_true (exs_at T 12)
theorem x_mro_End (T : Tx K mg sa sx) : PySem.W.mroIn K (He.ga K "End") (.type "object") = some true := of_decide_eq_true (exs_at T 13)
theorem x_cc_Block (T : Tx K mg sa sx) : PySem.W.findIn K (.ref (He.ga K "Block")) "__class__" = some (some (.builtin "object.__class__")) := of_decide_eq_true (exs_at T 14)
theorem x_mro_Block (T : Tx K mg sa sx) : PySem.W.mroIn K (He.ga K "Block") (.type "object") = some true := of_decide_eq_true (exs_at T 15)
theorem x_cc_Unit (T : Tx K mg sa sx) : PySem.W.findIn K (.ref (He.ga K "Unit")) "__class__" = some (some (.builtin "object.__class__")) := of_decide_eq_true (exs_at T 16)
theorem x_mro_Unit (T : Tx K mg sa sx) : PySem.W.mroIn K (He.ga K "Unit") (.type "object") = some true := of_decide_eq_true (exs_at T 17)
theorem x_kit_Tell_Tell (T : Tx K mg sa sx) : PySem.W.kitOne K (.ref (He.ga K "Tell")) (.ref (He.ga K "Tell")) = some true := of_decide_eq_true (exs_at T 18)
theorem x_nf_Tell_Tell (T : Tx K mg sa sx) : PySem.W.notFirst K (He.ga K "Tell") (.ref (He.ga K "Tell")) = true := of_decide_eq_true (exs_at T 19)
theorem x_kit_Tell_Put (T : Tx K mg sa sx) : PySem.W.kitOne K (.ref (He.ga K "Tell")) (.ref (He.ga K "Put")) = some false := of_decide_eq_true (exs_at T 20)
theorem x_nf_Tell_Put (T : Tx K mg sa sx) : PySem.W.notFirst K (He.ga K "Tell") (.ref (He.ga K "Put")) = true := of_decide_eq_true (exs_at T 21)
theorem x_kit_Tell_Same (T : Tx K mg sa sx) : PySem.W.kitOne K (.ref (He.ga K "Tell")) (.ref (He.ga K "Same")) = some false := of_decide_eq_true (exs_at T 22)
theorem x_nf_Tell_Same (T : Tx K mg sa sx) : PySem.W.notFirst K (He.ga K "Tell") (.ref (He.ga K "Same")) = true := of_decide_eq_true (exs_at T 23)
theorem x_kit_Tell_There (T : Tx K mg sa sx) : PySem.W.kitOne K (.ref (He.ga K "Tell")) (.ref (He.ga K "There")) = some false := of_decide_eq_true (exs_at T 24)
theorem x_nf_Tell_There (T : Tx K mg sa sx) : PySem.W.notFirst K (He.ga K "Tell") (.ref (He.ga K "There")) = true := of_decide_eq_true (exs_at T 25)
theorem x_kit_Tell_Call (T : Tx K mg sa sx) : PySem.W.kitOne K (.ref (He.ga K "Tell")) (.ref (He.ga K "Call")) = some false := of_decide_eq_true (exs_at T 26)
theorem x_nf_Tell_Call (T : Tx K mg sa sx) : PySem.W.notFirst K (He.ga K "Tell") (.ref (He.ga K "Call")) = true := of_decide_eq_true (exs_at T 27)
theorem x_kit_Tell_End (T : Tx K mg sa sx) : PySem.W.kitOne K (.ref (He.ga K "Tell")) (.ref (He.ga K "End")) = some false := of_decide_eq_true (exs_at T 28)
theorem x_nf_Tell_End (T : Tx K mg sa sx) : PySem.W.notFirst K (He.ga K "Tell") (.ref (He.ga K "End")) = true := of_decide_eq_true (exs_at T 29)
theorem x_kits_Tell (T : Tx K mg sa sx) : PySem.W.kitOne K (.type "str") (.ref (He.ga K "Tell")) = some false := of_decide_eq_true (exs_at T 30)
theorem x_kit_Put_Tell (T : Tx K mg sa sx) : PySem.W.kitOne K (.ref (He.ga K "Put")) (.ref (He.ga K "Tell")) = some false := of_decide_eq_true (exs_at T 31)
theorem x_nf_Put_Tell (T : Tx K mg sa sx) : PySem.W.notFirst K (He.ga K "Put") (.ref (He.ga K "Tell")) = true := of_decide_eq_true (exs_at T 32)
theorem x_kit_Put_Put (T : Tx K mg sa sx) : PySem.W.kitOne K (.ref (He.ga K "Put")) (.ref (He.ga K "Put")) = some true := of_decide_eq_true (exs_at T 33)
theorem x_nf_Put_Put (T : Tx K mg sa sx) : PySem.W.notFirst K (He.ga K "Put") (.ref (He.ga K "Put")) = true := of_decide_eq_true (exs_at T 34)
theorem x_kit_Put_Same (T : Tx K mg sa sx) : PySem.W.kitOne K (.ref (He.ga K "Put")) (.ref (He.ga K "Same")) = some false := of_decide_eq_true (exs_at T 35)
theorem x_nf_Put_Same (T : Tx K mg sa sx) : PySem.W.notFirst K (He.ga K "Put") (.ref (He.ga K "Same")) = true := of_decide_eq_true (exs_at T 36)
theorem x_kit_Put_There (T : Tx K mg sa sx) : PySem.W.kitOne K (.ref (He.ga K "Put")) (.ref (He.ga K "There")) = some false := of_decide_eq_true (exs_at T 37)
theorem x_nf_Put_There (T : Tx K mg sa sx) : PySem.W.notFirst K (He.ga K "Put") (.ref (He.ga K "There")) = true := of_decide_eq_true (exs_at T 38)
theorem x_kit_Put_Call (T : Tx K mg sa sx) : PySem.W.kitOne K (.ref (He.ga K "Put")) (.ref (He.ga K "Call")) = some false := of_decide_eq_true (exs_at T 39)
theorem x_nf_Put_Call (T : Tx K mg sa sx) : PySem.W.notFirst K (He.ga K "Put") (.ref (He.ga K "Call")) = true := of_decide_eq_true (exs_at T 40)
theorem x_kit_Put_End (T : Tx K mg sa sx) : PySem.W.kitOne K (.ref (He.ga K "Put")) (.ref (He.ga K "End")) = some false := of_decide_eq_true (exs_at T 41)
theorem x_nf_Put_End (T : Tx K mg sa sx) : PySem.W.notFirst K (He.ga K "Put") (.ref (He.ga K "End")) = true := of_decide_eq_true (exs_at T 42)
theorem x_kits_Put (T : Tx K mg sa sx) : PySem.W.kitOne K (.type "str") (.ref (He.ga K "Put")) = some false := of_decide_eq_true (exs_at T 43)
theorem x_kit_Same_Tell (T : Tx K mg sa sx) : PySem.W.kitOne K (.ref (He.ga K "Same")) (.ref (He.ga K "Tell")) = some false := of_decide_eq_true (exs_at T 44)
theorem x_nf_Same_Tell (T : Tx K mg sa sx) : PySem.W.notFirst K (He.ga K "Same") (.ref (He.ga K "Tell")) = true := of_decide_eq_true (exs_at T 45)
theorem x_kit_Same_Put (T : Tx K mg sa sx) : PySem.W.kitOne K (.ref (He.ga K "Same")) (.ref (He.ga K "Put")) = some false := of_decide_eq_true (exs_at T 46)
theorem x_nf_Same_Put (T : Tx K mg sa sx) : PySem.W.notFirst K (He.ga K "Same") (.ref (He.ga K "Put")) = true := of_decide_eq_true (exs_at T 47)
theorem x_kit_Same_Same (T : Tx K mg sa sx) : PySem.W.kitOne K (.ref (He.ga K "Same")) (.ref (He.ga K "Same")) = some true := of_decide_eq_true (exs_at T 48)
theorem x_nf_Same_Same (T : Tx K mg sa sx) : PySem.W.notFirst K (He.ga K "Same") (.ref (He.ga K "Same")) = true := of_decide_eq_true (exs_at T 49)
theorem x_kit_Same_There (T : Tx K mg sa sx) : PySem.W.kitOne K (.ref (He.ga K "Same")) (.ref (He.ga K "There")) = some false := of_decide_eq_true (exs_at T 50)
theorem x_nf_Same_There (T : Tx K mg sa sx) : PySem.W.notFirst K (He.ga K "Same") (.ref (He.ga K "There")) = true := of_decide_eq_true (exs_at T 51)
theorem x_kit_Same_Call (T : Tx K mg sa sx) : PySem.W.kitOne K (.ref (He.ga K "Same")) (.ref (He.ga K "Call")) = some false := of_decide_eq_true (exs_at T 52)
theorem x_nf_Same_Call (T : Tx K mg sa sx) : PySem.W.notFirst K (He.ga K "Same") (.ref (He.ga K "Call")) = true := of_decide_eq_true (exs_at T 53)
theorem x_kit_Same_End (T : Tx K mg sa sx) : PySem.W.kitOne K (.ref (He.ga K "Same")) (.ref (He.ga K "End")) = some false := of_decide_eq_true (exs_at T 54)
theorem x_nf_Same_End (T : Tx K mg sa sx) : PySem.W.notFirst K (He.ga K "Same") (.ref (He.ga K "End")) = true := of_decide_eq_true (exs_at T 55)
theorem x_kits_Same (T : Tx K mg sa sx) : PySem.W.kitOne K (.type "str") (.ref (He.ga K "Same")) = some false := of_decide_eq_true (exs_at T 56)
theorem x_kit_There_Tell (T : Tx K mg sa sx) : PySem.W.kitOne K (.ref (He.ga K "There")) (.ref (He.ga K "Tell")) = some false := of_decide_eq_true (exs_at T 57)
theorem x_nf_There_Tell (T : Tx K mg sa sx) : PySem.W.notFirst K (He.ga K "There") (.ref (He.ga K "Tell")) = true := of_decide_eq_true (exs_at T 58)
theorem x_kit_There_Put (T : Tx K mg sa sx) : PySem.W.kitOne K (.ref (He.ga K "There")) (.ref (He.ga K "Put")) = some false := of_decide_eq_true (exs_at T 59)
theorem x_nf_There_Put (T : Tx K mg sa sx) : PySem.W.notFirst K (He.ga K "There") (.ref (He.ga K "Put")) = true := of_decide_eq_true (exs_at T 60)
theorem x_kit_There_Same (T : Tx K mg sa sx) : PySem.W.kitOne K (.ref (He.ga K "There")) (.ref (He.ga K "Same")) = some false := of_decide_eq_true (exs_at T 61)
theorem x_nf_There_Same (T : Tx K mg sa sx) : PySem.W.notFirst K (He.ga K "There") (.ref (He.ga K "Same")) = true := of_decide_eq_true (exs_at T 62)
theorem x_kit_There_There (T : Tx K mg sa sx) : PySem.W.kitOne K (.ref (He.ga K "There")) (.ref (He.ga K "There")) = some true := of_decide_eq_true (exs_at T 63)
theorem x_nf_There_There (T : Tx K mg sa sx) : PySem.W.notFirst K (He.ga K "There") (.ref (He.ga K "There")) = true := of_decide_eq_true (exs_at T 64)
theorem x_kit_There_Call (T : Tx K mg sa sx) : PySem.W.kitOne K (.ref (He.ga K "There")) (.ref (He.ga K "Call")) = some false := of_decide_eq_true (exs_at T 65)
theorem x_nf_There_Call (T : Tx K mg sa sx) : PySem.W.notFirst K (He.ga K "There") (.ref (He.ga K "Call")) = true := of_decide_eq_true (exs_at T 66)
theorem x_kit_There_End (T : Tx K mg sa sx) : PySem.W.kitOne K (.ref (He.ga K "There")) (.ref (He.ga K "End")) = some false := of_decide_eq_true (exs_at T 67)
theorem x_nf_There_End (T : Tx K mg sa sx) : PySem.W.notFirst K (He.ga K "There") (.ref (He.ga K "End")) = true := of_decide_eq_true (exs_at T 68)
theorem x_kits_There (T : Tx K mg sa sx) : PySem.W.kitOne K (.type "str") (.ref (He.ga K "There")) = some false := of_decide_eq_true (exs_at T 69)
theorem x_kit_Call_Tell (T : Tx K mg sa sx) : PySem.W.kitOne K (.ref (He.ga K "Call")) (.ref (He.ga K "Tell")) = some false := of_decide_eq_true (exs_at T 70)
theorem x_nf_Call_Tell (T : Tx K mg sa sx) : PySem.W.notFirst K (He.ga K "Call") (.ref (He.ga K "Tell")) = true := of_decide_eq_true (exs_at T 71)
theorem x_kit_Call_Put (T : Tx K mg sa sx) : PySem.W.kitOne K (.ref (He.ga K "Call")) (.ref (He.ga K "Put")) = some false := of_decide_eq_true (exs_at T 72)
theorem x_nf_Call_Put (T : Tx K mg sa sx) : PySem.W.notFirst K (He.ga K "Call") (.ref (He.ga K "Put")) = true := of_decide_eq_true (exs_at T 73)
theorem x_kit_Call_Same (T : Tx K mg sa sx) : PySem.W.kitOne K (.ref (He.ga K "Call")) (.ref (He.ga K "Same")) = some false := of_decide_eq_true (exs_at T 74)
theorem x_nf_Call_Same (T : Tx K mg sa sx) : PySem.W.notFirst K (He.ga K "Call") (.ref (He.ga K "Same")) = true := of_decide_eq_true (exs_at T 75)
theorem x_kit_Call_There (T : Tx K mg sa sx) : PySem.W.kitOne K (.ref (He.ga K "Call")) (.ref (He.ga K "There")) = some false := of_decide_eq_true (exs_at T 76)
theorem x_nf_Call_There (T : Tx K mg sa sx) : PySem.W.notFirst K (He.ga K "Call") (.ref (He.ga K "There")) = true := of_decide_eq_true (exs_at T 77)
theorem x_kit_Call_Call (T : Tx K mg sa sx) : PySem.W.kitOne K (.ref (He.ga K "Call")) (.ref (He.ga K "Call")) = some true := of_decide_eq_true (exs_at T 78)
theorem x_nf_Call_Call (T : Tx K mg sa sx) : PySem.W.notFirst K (He.ga K "Call") (.ref (He.ga K "Call")) = true := of_decide_eq_true (exs_at T 79)
theorem x_kit_Call_End (T : Tx K mg sa sx) : PySem.W.kitOne K (.ref (He.ga K "Call")) (.ref (He.ga K "End")) = some false := of_decide_eq_true (exs_at T 80)
theorem x_nf_Call_End (T : Tx K mg sa sx) : PySem.W.notFirst K (He.ga K "Call") (.ref (He.ga K "End")) = true := of_decide_eq_true (exs_at T 81)
theorem x_kits_Call (T : Tx K mg sa sx) : PySem.W.kitOne K (.type "str") (.ref (He.ga K "Call")) = some false := of_decide_eq_true (exs_at T 82)
theorem x_kit_End_Tell (T : Tx K mg sa sx) : PySem.W.kitOne K (.ref (He.ga K "End")) (.ref (He.ga K "Tell")) = some false := of_decide_eq_true (exs_at T 83)
theorem x_nf_End_Tell (T : Tx K mg sa sx) : PySem.W.notFirst K (He.ga K "End") (.ref (He.ga K "Tell")) = true := of_decide_eq_true (exs_at T 84)
theorem x_kit_End_Put (T : Tx K mg sa sx) : PySem.W.kitOne K (.ref (He.ga K "End")) (.ref (He.ga K "Put")) = some false := of_decide_eq_true (exs_at T 85)
theorem x_nf_End_Put (T : Tx K mg sa sx) : PySem.W.notFirst K (He.ga K "End") (.ref (He.ga K "Put")) = true := of_decide_eq_true (exs_at T 86)
theorem x_kit_End_Same (T : Tx K mg sa sx) : PySem.W.kitOne K (.ref (He.ga K "End")) (.ref (He.ga K "Same")) = some false := of_decide_eq_true (exs_at T 87)
theorem x_nf_End_Same (T : Tx K mg sa sx) : PySem.W.notFirst K (He.ga K "End") (.ref (He.ga K "Same")) = true := of_decide_eq_true (exs_at T 88)
theorem x_kit_End_There (T : Tx K mg sa sx) : PySem.W.kitOne K (.ref (He.ga K "End")) (.ref (He.ga K "There")) = some false := of_decide_eq_true (exs_at T 89)
theorem x_nf_End_There (T : Tx K mg sa sx) : PySem.W.notFirst K (He.ga K "End") (.ref (He.ga K "There")) = true := of_decide_eq_true (exs_at T 90)
theorem x_kit_End_Call (T : Tx K mg sa sx) : PySem.W.kitOne K (.ref (He.ga K "End")) (.ref (He.ga K "Call")) = some false := of_decide_eq_true (exs_at T 91)
theorem x_nf_End_Call (T : Tx K mg sa sx) : PySem.W.notFirst K (He.ga K "End") (.ref (He.ga K "Call")) = true := of_decide_eq_true (exs_at T 92)
theorem x_kit_End_End (T : Tx K mg sa sx) : PySem.W.kitOne K (.ref (He.ga K "End")) (.ref (He.ga K "End")) = some true := of_decide_eq_true (exs_at T 93)
theorem x_nf_End_End (T : Tx K mg sa sx) : PySem.W.notFirst K (He.ga K "End") (.ref (He.ga K "End")) = true := of_decide_eq_true (exs_at T 94)
theorem x_kits_End (T : Tx K mg sa sx) : PySem.W.kitOne K (.type "str") (.ref (He.ga K "End")) = some false := of_decide_eq_true (exs_at T 95)
theorem x_kit_Block_Block (T : Tx K mg sa sx) : PySem.W.kitOne K (.ref (He.ga K "Block")) (.ref (He.ga K "Block")) = some true := of_decide_eq_true (exs_at T 96)
theorem x_nf_Block_Block (T : Tx K mg sa sx) : PySem.W.notFirst K (He.ga K "Block") (.ref (He.ga K "Block")) = true := of_decide_eq_true (exs_at T 97)
theorem x_kit_Unit_Unit (T : Tx K mg sa sx) : PySem.W.kitOne K (.ref (He.ga K "Unit")) (.ref (He.ga K "Unit")) = some true := of_decide_eq_true (exs_at T 98)
theorem x_nf_Unit_Unit (T : Tx K mg sa sx) : PySem.W.notFirst K (He.ga K "Unit") (.ref (He.ga K "Unit")) = true := of_decide_eq_true (exs_at T 99)
theorem x_emk (T : Tx K mg sa sx) : PySem.W.makesIn K (He.ga K "End") = true := of_decide_eq_true (exs_at T 100)
theorem x_ekp (T : Tx K mg sa sx) : PySem.W.keepIn K (.ref (He.ga K "End")) = true := of_decide_eq_true (exs_at T 101)
theorem x_ein (T : Tx K mg sa sx) : PySem.W.findIn K (.ref (He.ga K "End")) "__init__" = some (some (.builtin "object.__init__")) := of_decide_eq_true (exs_at T 102)
theorem x_exBadText (T : Tx K mg sa sx) : (exB K (He.ga K "BadText") (He.ma K (He.ga K "BadText") "__init__")).all id = true := of_decide_eq_true (exs_at T 103)
theorem x_suBadText (T : Tx K mg sa sx) : supB PySem.Challenge.pw_quietedition_k88_errors_and_long_units.main.file K (He.ga K "BadText") (He.ma K (He.ga K "BadText") "__init__") "BadText.__init__" = true := of_decide_eq_true (exs_at T 104)
theorem x_dfBadText (T : Tx K mg sa sx) : dfN K (He.ma K (He.ga K "BadText") "__init__") = true := of_decide_eq_true (exs_at T 105)
theorem x_exBadClient (T : Tx K mg sa sx) : (exB K (He.ga K "BadClient") (He.ma K (He.ga K "BadClient") "__init__")).all id = true := of_decide_eq_true (exs_at T 106)
theorem x_suBadClient (T : Tx K mg sa sx) : supB PySem.Challenge.pw_quietedition_k88_errors_and_long_units.main.file K (He.ga K "BadClient") (He.ma K (He.ga K "BadClient") "__init__") "BadClient.__init__" = true := of_decide_eq_true (exs_at T 107)
theorem x_dfBadClient (T : Tx K mg sa sx) : dfN K (He.ma K (He.ga K "BadClient") "__init__") = true := of_decide_eq_true (exs_at T 108)
theorem x_exBadManner (T : Tx K mg sa sx) : (exB K (He.ga K "BadManner") (He.ma K (He.ga K "BadManner") "__init__")).all id = true := of_decide_eq_true (exs_at T 109)
theorem x_suBadManner (T : Tx K mg sa sx) : supB PySem.Challenge.pw_quietedition_k88_errors_and_long_units.main.file K (He.ga K "BadManner") (He.ma K (He.ga K "BadManner") "__init__") "BadManner.__init__" = true := of_decide_eq_true (exs_at T 110)
theorem x_dfBadManner (T : Tx K mg sa sx) : dfN K (He.ma K (He.ga K "BadManner") "__init__") = true := of_decide_eq_true (exs_at T 111)
theorem x_exBadMoment (T : Tx K mg sa sx) : (exB K (He.ga K "BadMoment") (He.ma K (He.ga K "BadMoment") "__init__")).all id = true := of_decide_eq_true (exs_at T 112)
theorem x_suBadMoment (T : Tx K mg sa sx) : supB PySem.Challenge.pw_quietedition_k88_errors_and_long_units.main.file K (He.ga K "BadMoment") (He.ma K (He.ga K "BadMoment") "__init__") "BadMoment.__init__" = true := of_decide_eq_true (exs_at T 113)
theorem x_dfBadMoment (T : Tx K mg sa sx) : dfN K (He.ma K (He.ga K "BadMoment") "__init__") = true := of_decide_eq_true (exs_at T 114)
theorem x_exNotAssembled (T : Tx K mg sa sx) : (exB K (He.ga K "NotAssembled") (He.ma K (He.ga K "NotAssembled") "__init__")).all id = true := of_decide_eq_true (exs_at T 115)
theorem x_suNotAssembled (T : Tx K mg sa sx) : supB PySem.Challenge.pw_quietedition_k88_errors_and_long_units.main.file K (He.ga K "NotAssembled") (He.ma K (He.ga K "NotAssembled") "__init__") "NotAssembled.__init__" = true := of_decide_eq_true (exs_at T 116)
theorem x_dfNotAssembled (T : Tx K mg sa sx) : dfN K (He.ma K (He.ga K "NotAssembled") "__init__") = true := of_decide_eq_true (exs_at T 117)
theorem x_exNotLinked (T : Tx K mg sa sx) : (exB K (He.ga K "NotLinked") (He.ma K (He.ga K "NotLinked") "__init__")).all id = true := of_decide_eq_true (exs_at T 118)
theorem x_suNotLinked (T : Tx K mg sa sx) : supB PySem.Challenge.pw_quietedition_k88_errors_and_long_units.main.file K (He.ga K "NotLinked") (He.ma K (He.ga K "NotLinked") "__init__") "NotLinked.__init__" = true := of_decide_eq_true (exs_at T 119)
theorem x_dfNotLinked (T : Tx K mg sa sx) : dfN K (He.ma K (He.ga K "NotLinked") "__init__") = true := of_decide_eq_true (exs_at T 120)
theorem x_exNotLoaded (T : Tx K mg sa sx) : (exB K (He.ga K "NotLoaded") (He.ma K (He.ga K "NotLoaded") "__init__")).all id = true := of_decide_eq_true (exs_at T 121)
theorem x_suNotLoaded (T : Tx K mg sa sx) : supB PySem.Challenge.pw_quietedition_k88_errors_and_long_units.main.file K (He.ga K "NotLoaded") (He.ma K (He.ga K "NotLoaded") "__init__") "NotLoaded.__init__" = true := of_decide_eq_true (exs_at T 122)
theorem x_dfNotLoaded (T : Tx K mg sa sx) : dfN K (He.ma K (He.ga K "NotLoaded") "__init__") = true := of_decide_eq_true (exs_at T 123)
theorem x_exBadRenaming (T : Tx K mg sa sx) : (exB K (He.ga K "BadRenaming") (He.ma K (He.ga K "BadRenaming") "__init__")).all id = true := of_decide_eq_true (exs_at T 124)
theorem x_suBadRenaming (T : Tx K mg sa sx) : supB PySem.Challenge.pw_quietedition_k88_errors_and_long_units.main.file K (He.ga K "BadRenaming") (He.ma K (He.ga K "BadRenaming") "__init__") "BadRenaming.__init__" = true := of_decide_eq_true (exs_at T 125)
theorem x_dfBadRenaming (T : Tx K mg sa sx) : dfN K (He.ma K (He.ga K "BadRenaming") "__init__") = true := of_decide_eq_true (exs_at T 126)
theorem x_exTooMany (T : Tx K mg sa sx) : (exB K (He.ga K "TooMany") (He.ma K (He.ga K "TooMany") "__init__")).all id = true := of_decide_eq_true (exs_at T 127)
theorem x_suTooMany (T : Tx K mg sa sx) : supB PySem.Challenge.pw_quietedition_k88_errors_and_long_units.main.file K (He.ga K "TooMany") (He.ma K (He.ga K "TooMany") "__init__") "TooMany.__init__" = true := of_decide_eq_true (exs_at T 128)
theorem x_dfTooMany (T : Tx K mg sa sx) : dfN K (He.ma K (He.ga K "TooMany") "__init__") = true := of_decide_eq_true (exs_at T 129)
theorem x_exBadHouse (T : Tx K mg sa sx) : (exB K (He.ga K "BadHouse") (He.ma K (He.ga K "BadHouse") "__init__")).all id = true := of_decide_eq_true (exs_at T 130)
theorem x_suBadHouse (T : Tx K mg sa sx) : supB PySem.Challenge.pw_quietedition_k88_errors_and_long_units.main.file K (He.ga K "BadHouse") (He.ma K (He.ga K "BadHouse") "__init__") "BadHouse.__init__" = true := of_decide_eq_true (exs_at T 131)
theorem x_dfBadHouse (T : Tx K mg sa sx) : dfN K (He.ma K (He.ga K "BadHouse") "__init__") = true := of_decide_eq_true (exs_at T 132)
theorem x_exBadMend (T : Tx K mg sa sx) : (exB K (He.ga K "BadMend") (He.ma K (He.ga K "BadMend") "__init__")).all id = true := of_decide_eq_true (exs_at T 133)
theorem x_suBadMend (T : Tx K mg sa sx) : supB PySem.Challenge.pw_quietedition_k88_errors_and_long_units.main.file K (He.ga K "BadMend") (He.ma K (He.ga K "BadMend") "__init__") "BadMend.__init__" = true := of_decide_eq_true (exs_at T 134)
theorem x_dfBadMend (T : Tx K mg sa sx) : dfN K (He.ma K (He.ga K "BadMend") "__init__") = true := of_decide_eq_true (exs_at T 135)
theorem x_noRow (T : Tx K mg sa sx) : PySem.W.findIn K (.ref (He.ga K "BadText")) "row" = some none := of_decide_eq_true (exs_at T 136)
theorem x_noCause (T : Tx K mg sa sx) : PySem.W.findIn K (.ref (He.ga K "BadText")) "cause" = some none := of_decide_eq_true (exs_at T 137)
theorem x_crd (T : Tx K mg sa sx) : PySem.W.readsIn K (He.ga K "Unit") (.type "type") = true := of_decide_eq_true (exs_at T 138)
theorem x_cga (T : Tx K mg sa sx) : PySem.W.specialIn K (.ref (He.ga K "Unit")) "__getattribute__" = some (some (.builtin "type.__getattribute__")) := of_decide_eq_true (exs_at T 139)
theorem x_of (T : Tx K mg sa sx) : cmB K (He.ga K "Unit") (.type "type") "read" = true := of_decide_eq_true (exs_at T 140)
theorem x_ofst (T : Tx K mg sa sx) : starB K (cmG K (He.ga K "Unit") (.type "type") "read") "Unit.read" = true := of_decide_eq_true (exs_at T 141)
theorem x_tsACCESSES (T : Tx K mg sa sx) : tsB K (He.ga K "ACCESSES") ["open", "guarded", "hidden"] = true := of_decide_eq_true (exs_at T 142)
theorem x_tsCELL_ACCESSES (T : Tx K mg sa sx) : tsB K (He.ga K "CELL_ACCESSES") ["open", "hidden"] = true := of_decide_eq_true (exs_at T 143)
theorem x_tsORDER (T : Tx K mg sa sx) : tsB K (He.ga K "ORDER") ["unit", "cell", "routine inner start", "tell set same there call end"] = true := of_decide_eq_true (exs_at T 144)
theorem x_tsFORMS (T : Tx K mg sa sx) : tsB K (He.ga K "FORMS") ["unit NAME", "unit NAME late", "cell NAME N", "routine NAME", "inner NAME", "start", "tell V", "set P V", "same V V else K", "there NAME else K", "call NAME V", "call NAME V at T", "end"] = true := of_decide_eq_true (exs_at T 145)
theorem x_tsVALUE_KINDS (T : Tx K mg sa sx) : tsB K (He.ga K "VALUE_KINDS") ["number", "argument", "place", "own", "named"] = true := of_decide_eq_true (exs_at T 146)
theorem x_tsPLACE_KINDS (T : Tx K mg sa sx) : tsB K (He.ga K "PLACE_KINDS") ["place", "own"] = true := of_decide_eq_true (exs_at T 147)
theorem x_causes (T : Tx K mg sa sx) : Um.slotW.map (Um.ctab K (He.ga K "CAUSES")) = Um.slotW.map fun s => some (Um.causeOf s) := of_decide_eq_true (exs_at T 148)
theorem x_heads (T : Tx K mg sa sx) : Um.kindW.map (Um.ctab K (He.ga K "HEADS")) = Um.kindW.map fun s => some (Um.headOf s) := of_decide_eq_true (exs_at T 149)
theorem x_no_BadText_row (T : Tx K mg sa sx) : PySem.W.findIn K (.ref (He.ga K "BadText")) "row" = some none := of_decide_eq_true (exs_at T 150)
theorem x_no_BadText_cause (T : Tx K mg sa sx) : PySem.W.findIn K (.ref (He.ga K "BadText")) "cause" = some none := of_decide_eq_true (exs_at T 151)
theorem x_no_BadClient_at (T : Tx K mg sa sx) : PySem.W.findIn K (.ref (He.ga K "BadClient")) "at" = some none := of_decide_eq_true (exs_at T 152)
theorem x_no_BadClient_row (T : Tx K mg sa sx) : PySem.W.findIn K (.ref (He.ga K "BadClient")) "row" = some none := of_decide_eq_true (exs_at T 153)
theorem x_no_BadClient_cause (T : Tx K mg sa sx) : PySem.W.findIn K (.ref (He.ga K "BadClient")) "cause" = some none := of_decide_eq_true (exs_at T 154)
theorem x_no_BadManner_name (T : Tx K mg sa sx) : PySem.W.findIn K (.ref (He.ga K "BadManner")) "name" = some none := of_decide_eq_true (exs_at T 155)
theorem x_no_BadMoment_moment (T : Tx K mg sa sx) : PySem.W.findIn K (.ref (He.ga K "BadMoment")) "moment" = some none := of_decide_eq_true (exs_at T 156)
theorem x_no_NotAssembled_unit (T : Tx K mg sa sx) : PySem.W.findIn K (.ref (He.ga K "NotAssembled")) "unit" = some none := of_decide_eq_true (exs_at T 157)
theorem x_no_NotAssembled_name (T : Tx K mg sa sx) : PySem.W.findIn K (.ref (He.ga K "NotAssembled")) "name" = some none := of_decide_eq_true (exs_at T 158)
theorem x_no_NotLinked_cause (T : Tx K mg sa sx) : PySem.W.findIn K (.ref (He.ga K "NotLinked")) "cause" = some none := of_decide_eq_true (exs_at T 159)
theorem x_no_NotLinked_unit (T : Tx K mg sa sx) : PySem.W.findIn K (.ref (He.ga K "NotLinked")) "unit" = some none := of_decide_eq_true (exs_at T 160)
theorem x_no_NotLinked_name (T : Tx K mg sa sx) : PySem.W.findIn K (.ref (He.ga K "NotLinked")) "name" = some none := of_decide_eq_true (exs_at T 161)
theorem x_no_NotLoaded_cause (T : Tx K mg sa sx) : PySem.W.findIn K (.ref (He.ga K "NotLoaded")) "cause" = some none := of_decide_eq_true (exs_at T 162)
theorem x_no_NotLoaded_unit (T : Tx K mg sa sx) : PySem.W.findIn K (.ref (He.ga K "NotLoaded")) "unit" = some none := of_decide_eq_true (exs_at T 163)
theorem x_no_NotLoaded_name (T : Tx K mg sa sx) : PySem.W.findIn K (.ref (He.ga K "NotLoaded")) "name" = some none := of_decide_eq_true (exs_at T 164)
theorem x_no_BadRenaming_at (T : Tx K mg sa sx) : PySem.W.findIn K (.ref (He.ga K "BadRenaming")) "at" = some none := of_decide_eq_true (exs_at T 165)
theorem x_no_TooMany_what (T : Tx K mg sa sx) : PySem.W.findIn K (.ref (He.ga K "TooMany")) "what" = some none := of_decide_eq_true (exs_at T 166)
theorem x_no_BadHouse_at (T : Tx K mg sa sx) : PySem.W.findIn K (.ref (He.ga K "BadHouse")) "at" = some none := of_decide_eq_true (exs_at T 167)
theorem x_no_BadMend_at (T : Tx K mg sa sx) : PySem.W.findIn K (.ref (He.ga K "BadMend")) "at" = some none := of_decide_eq_true (exs_at T 168)
theorem x_no_BadMend_cause (T : Tx K mg sa sx) : PySem.W.findIn K (.ref (He.ga K "BadMend")) "cause" = some none := of_decide_eq_true (exs_at T 169)
theorem x_kits (T : Tx K mg sa sx) : kitB K [He.ga K "BadText", He.ga K "BadClient", He.ga K "BadManner", He.ga K "BadMoment", He.ga K "NotAssembled", He.ga K "NotLinked", He.ga K "NotLoaded", He.ga K "BadRenaming", He.ga K "TooMany", He.ga K "BadHouse", He.ga K "BadMend"] (He.ga K "QuietError") = true := of_decide_eq_true (exs_at T 170)
theorem c_Tell (T : Tx K mg sa sx) : Cls K (He.ga K "Tell") := He.cls_ok (T.c.fact 77 (f := .cls "Tell") rfl)
theorem m_Tell (T : Tx K mg sa sx) : Mk K (He.ga K "Tell") (He.ma K (He.ga K "Tell") "__init__") := He.mkr_ok (T.c.fact 78 (f := .mkr "Tell") rfl)
theorem c_Put (T : Tx K mg sa sx) : Cls K (He.ga K "Put") := He.cls_ok (T.c.fact 79 (f := .cls "Put") rfl)
theorem m_Put (T : Tx K mg sa sx) : Mk K (He.ga K "Put") (He.ma K (He.ga K "Put") "__init__") := He.mkr_ok (T.c.fact 80 (f := .mkr "Put") rfl)
theorem c_Same (T : Tx K mg sa sx) : Cls K (He.ga K "Same") := He.cls_ok (T.c.fact 81 (f := .cls "Same") rfl)
theorem m_Same (T : Tx K mg sa sx) : Mk K (He.ga K "Same") (He.ma K (He.ga K "Same") "__init__") := He.mkr_ok (T.c.fact 82 (f := .mkr "Same") rfl)
theorem c_There (T : Tx K mg sa sx) : Cls K (He.ga K "There") := He.cls_ok (T.c.fact 83 (f := .cls "There") rfl)
theorem m_There (T : Tx K mg sa sx) : Mk K (He.ga K "There") (He.ma K (He.ga K "There") "__init__") := He.mkr_ok (T.c.fact 84 (f := .mkr "There") rfl)
theorem c_Call (T : Tx K mg sa sx) : Cls K (He.ga K "Call") := He.cls_ok (T.c.fact 85 (f := .cls "Call") rfl)
theorem m_Call (T : Tx K mg sa sx) : Mk K (He.ga K "Call") (He.ma K (He.ga K "Call") "__init__") := He.mkr_ok (T.c.fact 86 (f := .mkr "Call") rfl)
theorem c_End (T : Tx K mg sa sx) : Cls K (He.ga K "End") := He.cls_ok (T.c.fact 87 (f := .cls "End") rfl)
theorem c_Grammar (T : Tx K mg sa sx) : Cls K (He.ga K "Grammar") := He.cls_ok (T.c.fact 88 (f := .cls "Grammar") rfl)
theorem m_Grammar (T : Tx K mg sa sx) : Mk K (He.ga K "Grammar") (He.ma K (He.ga K "Grammar") "__init__") := He.mkr_ok (T.c.fact 89 (f := .mkr "Grammar") rfl)
theorem c_Block (T : Tx K mg sa sx) : Cls K (He.ga K "Block") := He.cls_ok (T.c.fact 90 (f := .cls "Block") rfl)
theorem m_Block (T : Tx K mg sa sx) : Mk K (He.ga K "Block") (He.ma K (He.ga K "Block") "__init__") := He.mkr_ok (T.c.fact 91 (f := .mkr "Block") rfl)
theorem c_Unit (T : Tx K mg sa sx) : Cls K (He.ga K "Unit") := He.cls_ok (T.c.fact 92 (f := .cls "Unit") rfl)
theorem m_Unit (T : Tx K mg sa sx) : Mk K (He.ga K "Unit") (He.ma K (He.ga K "Unit") "__init__") := He.mkr_ok (T.c.fact 93 (f := .mkr "Unit") rfl)
theorem me_Tell_text (T : Tx K mg sa sx) : Meth K (He.ga K "Tell") "text" (He.ma K (He.ga K "Tell") "text") := He.meth_ok (T.c.fact 94 (f := .meth "Tell" "text") rfl)
theorem me_Tell_operands (T : Tx K mg sa sx) : Meth K (He.ga K "Tell") "operands" (He.ma K (He.ga K "Tell") "operands") := He.meth_ok (T.c.fact 95 (f := .meth "Tell" "operands") rfl)
theorem me_Tell_eq (T : Tx K mg sa sx) : Meth K (He.ga K "Tell") "__eq__" (He.ma K (He.ga K "Tell") "__eq__") := He.meth_ok (T.c.fact 96 (f := .meth "Tell" "__eq__") rfl)
theorem me_Put_text (T : Tx K mg sa sx) : Meth K (He.ga K "Put") "text" (He.ma K (He.ga K "Put") "text") := He.meth_ok (T.c.fact 97 (f := .meth "Put" "text") rfl)
theorem me_Put_operands (T : Tx K mg sa sx) : Meth K (He.ga K "Put") "operands" (He.ma K (He.ga K "Put") "operands") := He.meth_ok (T.c.fact 98 (f := .meth "Put" "operands") rfl)
theorem me_Put_eq (T : Tx K mg sa sx) : Meth K (He.ga K "Put") "__eq__" (He.ma K (He.ga K "Put") "__eq__") := He.meth_ok (T.c.fact 99 (f := .meth "Put" "__eq__") rfl)
theorem me_Same_text (T : Tx K mg sa sx) : Meth K (He.ga K "Same") "text" (He.ma K (He.ga K "Same") "text") := He.meth_ok (T.c.fact 100 (f := .meth "Same" "text") rfl)
theorem me_Same_operands (T : Tx K mg sa sx) : Meth K (He.ga K "Same") "operands" (He.ma K (He.ga K "Same") "operands") := He.meth_ok (T.c.fact 101 (f := .meth "Same" "operands") rfl)
theorem me_Same_eq (T : Tx K mg sa sx) : Meth K (He.ga K "Same") "__eq__" (He.ma K (He.ga K "Same") "__eq__") := He.meth_ok (T.c.fact 102 (f := .meth "Same" "__eq__") rfl)
theorem me_There_text (T : Tx K mg sa sx) : Meth K (He.ga K "There") "text" (He.ma K (He.ga K "There") "text") := He.meth_ok (T.c.fact 103 (f := .meth "There" "text") rfl)
theorem me_There_operands (T : Tx K mg sa sx) : Meth K (He.ga K "There") "operands" (He.ma K (He.ga K "There") "operands") := He.meth_ok (T.c.fact 104 (f := .meth "There" "operands") rfl)
theorem me_There_eq (T : Tx K mg sa sx) : Meth K (He.ga K "There") "__eq__" (He.ma K (He.ga K "There") "__eq__") := He.meth_ok (T.c.fact 105 (f := .meth "There" "__eq__") rfl)
theorem me_Call_text (T : Tx K mg sa sx) : Meth K (He.ga K "Call") "text" (He.ma K (He.ga K "Call") "text") := He.meth_ok (T.c.fact 106 (f := .meth "Call" "text") rfl)
theorem me_Call_operands (T : Tx K mg sa sx) : Meth K (He.ga K "Call") "operands" (He.ma K (He.ga K "Call") "operands") := He.meth_ok (T.c.fact 107 (f := .meth "Call" "operands") rfl)
theorem me_Call_eq (T : Tx K mg sa sx) : Meth K (He.ga K "Call") "__eq__" (He.ma K (He.ga K "Call") "__eq__") := He.meth_ok (T.c.fact 108 (f := .meth "Call" "__eq__") rfl)
theorem me_End_text (T : Tx K mg sa sx) : Meth K (He.ga K "End") "text" (He.ma K (He.ga K "End") "text") := He.meth_ok (T.c.fact 109 (f := .meth "End" "text") rfl)
theorem me_End_operands (T : Tx K mg sa sx) : Meth K (He.ga K "End") "operands" (He.ma K (He.ga K "End") "operands") := He.meth_ok (T.c.fact 110 (f := .meth "End" "operands") rfl)
theorem me_End_eq (T : Tx K mg sa sx) : Meth K (He.ga K "End") "__eq__" (He.ma K (He.ga K "End") "__eq__") := He.meth_ok (T.c.fact 111 (f := .meth "End" "__eq__") rfl)
theorem me_Grammar_parse (T : Tx K mg sa sx) : Meth K (He.ga K "Grammar") "parse" (He.ma K (He.ga K "Grammar") "parse") := He.meth_ok (T.c.fact 112 (f := .meth "Grammar" "parse") rfl)
theorem me_Grammar_may_stand (T : Tx K mg sa sx) : Meth K (He.ga K "Grammar") "may_stand" (He.ma K (He.ga K "Grammar") "may_stand") := He.meth_ok (T.c.fact 113 (f := .meth "Grammar" "may_stand") rfl)
theorem me_Grammar_slots (T : Tx K mg sa sx) : Meth K (He.ga K "Grammar") "slots" (He.ma K (He.ga K "Grammar") "slots") := He.meth_ok (T.c.fact 114 (f := .meth "Grammar" "slots") rfl)
theorem me_Grammar_parts (T : Tx K mg sa sx) : Meth K (He.ga K "Grammar") "parts" (He.ma K (He.ga K "Grammar") "parts") := He.meth_ok (T.c.fact 115 (f := .meth "Grammar" "parts") rfl)
theorem me_Grammar_part (T : Tx K mg sa sx) : Meth K (He.ga K "Grammar") "part" (He.ma K (He.ga K "Grammar") "part") := He.meth_ok (T.c.fact 116 (f := .meth "Grammar" "part") rfl)
theorem me_Block_head (T : Tx K mg sa sx) : Meth K (He.ga K "Block") "head" (He.ma K (He.ga K "Block") "head") := He.meth_ok (T.c.fact 117 (f := .meth "Block" "head") rfl)
theorem me_Unit_text (T : Tx K mg sa sx) : Meth K (He.ga K "Unit") "text" (He.ma K (He.ga K "Unit") "text") := He.meth_ok (T.c.fact 118 (f := .meth "Unit" "text") rfl)
theorem me_Block_eq (T : Tx K mg sa sx) : Meth K (He.ga K "Block") "__eq__" (He.ma K (He.ga K "Block") "__eq__") := He.meth_ok (T.c.fact 119 (f := .meth "Block" "__eq__") rfl)
theorem me_Unit_str (T : Tx K mg sa sx) : Meth K (He.ga K "Unit") "__str__" (He.ma K (He.ga K "Unit") "__str__") := He.meth_ok (T.c.fact 120 (f := .meth "Unit" "__str__") rfl)
theorem me_Unit_eq (T : Tx K mg sa sx) : Meth K (He.ga K "Unit") "__eq__" (He.ma K (He.ga K "Unit") "__eq__") := He.meth_ok (T.c.fact 121 (f := .meth "Unit" "__eq__") rfl)
theorem na_Tell_value (T : Tx K mg sa sx) : NoAttr K (He.ga K "Tell") "value" := He.noat_ok (T.c.fact 122 (f := .noat "Tell" "value") rfl)
theorem na_Put_place (T : Tx K mg sa sx) : NoAttr K (He.ga K "Put") "place" := He.noat_ok (T.c.fact 123 (f := .noat "Put" "place") rfl)
theorem na_Put_value (T : Tx K mg sa sx) : NoAttr K (He.ga K "Put") "value" := He.noat_ok (T.c.fact 124 (f := .noat "Put" "value") rfl)
theorem na_Same_left (T : Tx K mg sa sx) : NoAttr K (He.ga K "Same") "left" := He.noat_ok (T.c.fact 125 (f := .noat "Same" "left") rfl)
theorem na_Same_right (T : Tx K mg sa sx) : NoAttr K (He.ga K "Same") "right" := He.noat_ok (T.c.fact 126 (f := .noat "Same" "right") rfl)
theorem na_Same_skip (T : Tx K mg sa sx) : NoAttr K (He.ga K "Same") "skip" := He.noat_ok (T.c.fact 127 (f := .noat "Same" "skip") rfl)
theorem na_There_name (T : Tx K mg sa sx) : NoAttr K (He.ga K "There") "name" := He.noat_ok (T.c.fact 128 (f := .noat "There" "name") rfl)
theorem na_There_skip (T : Tx K mg sa sx) : NoAttr K (He.ga K "There") "skip" := He.noat_ok (T.c.fact 129 (f := .noat "There" "skip") rfl)
theorem na_Call_name (T : Tx K mg sa sx) : NoAttr K (He.ga K "Call") "name" := He.noat_ok (T.c.fact 130 (f := .noat "Call" "name") rfl)
theorem na_Call_value (T : Tx K mg sa sx) : NoAttr K (He.ga K "Call") "value" := He.noat_ok (T.c.fact 131 (f := .noat "Call" "value") rfl)
theorem na_Call_tag (T : Tx K mg sa sx) : NoAttr K (He.ga K "Call") "tag" := He.noat_ok (T.c.fact 132 (f := .noat "Call" "tag") rfl)
theorem na_Grammar_ranks (T : Tx K mg sa sx) : NoAttr K (He.ga K "Grammar") "ranks" := He.noat_ok (T.c.fact 133 (f := .noat "Grammar" "ranks") rfl)
theorem na_Grammar_block_rank (T : Tx K mg sa sx) : NoAttr K (He.ga K "Grammar") "block_rank" := He.noat_ok (T.c.fact 134 (f := .noat "Grammar" "block_rank") rfl)
theorem na_Grammar_forms (T : Tx K mg sa sx) : NoAttr K (He.ga K "Grammar") "forms" := He.noat_ok (T.c.fact 135 (f := .noat "Grammar" "forms") rfl)
theorem na_Grammar_kinds (T : Tx K mg sa sx) : NoAttr K (He.ga K "Grammar") "kinds" := He.noat_ok (T.c.fact 136 (f := .noat "Grammar" "kinds") rfl)
theorem na_Block_kind (T : Tx K mg sa sx) : NoAttr K (He.ga K "Block") "kind" := He.noat_ok (T.c.fact 137 (f := .noat "Block" "kind") rfl)
theorem na_Block_name (T : Tx K mg sa sx) : NoAttr K (He.ga K "Block") "name" := He.noat_ok (T.c.fact 138 (f := .noat "Block" "name") rfl)
theorem na_Block_rows (T : Tx K mg sa sx) : NoAttr K (He.ga K "Block") "rows" := He.noat_ok (T.c.fact 139 (f := .noat "Block" "rows") rfl)
theorem na_Unit_name (T : Tx K mg sa sx) : NoAttr K (He.ga K "Unit") "name" := He.noat_ok (T.c.fact 140 (f := .noat "Unit" "name") rfl)
theorem na_Unit_is_late (T : Tx K mg sa sx) : NoAttr K (He.ga K "Unit") "is_late" := He.noat_ok (T.c.fact 141 (f := .noat "Unit" "is_late") rfl)
theorem na_Unit_cells (T : Tx K mg sa sx) : NoAttr K (He.ga K "Unit") "cells" := He.noat_ok (T.c.fact 142 (f := .noat "Unit" "cells") rfl)
theorem na_Unit_blocks (T : Tx K mg sa sx) : NoAttr K (He.ga K "Unit") "blocks" := He.noat_ok (T.c.fact 143 (f := .noat "Unit" "blocks") rfl)
theorem f_value_text (T : Tx K mg sa sx) : ∃ fd, FunD K "value_text" "value_text" (defArgs s_value_text) (defBody s_value_text) (defScope s_value_text) [] [] (He.ga K "value_text") fd := T.c.def_ 0 (d := d_value_text) rfl
theorem f_Tell_init (T : Tx K mg sa sx) : ∃ fd, FunD K "__init__" "Tell.__init__" (defArgs s_Tell_init) (defBody s_Tell_init) (defScope s_Tell_init) [] [] (He.ma K (He.ga K "Tell") "__init__") fd := T.c.def_ 1 (d := d_Tell_init) rfl
theorem f_Tell_text (T : Tx K mg sa sx) : ∃ fd, FunD K "text" "Tell.text" (defArgs s_Tell_text) (defBody s_Tell_text) (defScope s_Tell_text) [] [] (He.ma K (He.ga K "Tell") "text") fd := T.c.def_ 2 (d := d_Tell_text) rfl
theorem f_Tell_operands (T : Tx K mg sa sx) : ∃ fd, FunD K "operands" "Tell.operands" (defArgs s_Tell_operands) (defBody s_Tell_operands) (defScope s_Tell_operands) [] [] (He.ma K (He.ga K "Tell") "operands") fd := T.c.def_ 3 (d := d_Tell_operands) rfl
theorem f_Tell_eq (T : Tx K mg sa sx) : ∃ fd, FunD K "__eq__" "Tell.__eq__" (defArgs s_Tell_eq) (defBody s_Tell_eq) (defScope s_Tell_eq) [] [] (He.ma K (He.ga K "Tell") "__eq__") fd := T.c.def_ 4 (d := d_Tell_eq) rfl
theorem f_Put_init (T : Tx K mg sa sx) : ∃ fd, FunD K "__init__" "Put.__init__" (defArgs s_Put_init) (defBody s_Put_init) (defScope s_Put_init) [] [] (He.ma K (He.ga K "Put") "__init__") fd := T.c.def_ 5 (d := d_Put_init) rfl
theorem f_Put_text (T : Tx K mg sa sx) : ∃ fd, FunD K "text" "Put.text" (defArgs s_Put_text) (defBody s_Put_text) (defScope s_Put_text) [] [] (He.ma K (He.ga K "Put") "text") fd := T.c.def_ 6 (d := d_Put_text) rfl
theorem f_Put_operands (T : Tx K mg sa sx) : ∃ fd, FunD K "operands" "Put.operands" (defArgs s_Put_operands) (defBody s_Put_operands) (defScope s_Put_operands) [] [] (He.ma K (He.ga K "Put") "operands") fd := T.c.def_ 7 (d := d_Put_operands) rfl
theorem f_Put_eq (T : Tx K mg sa sx) : ∃ fd, FunD K "__eq__" "Put.__eq__" (defArgs s_Put_eq) (defBody s_Put_eq) (defScope s_Put_eq) [] [] (He.ma K (He.ga K "Put") "__eq__") fd := T.c.def_ 8 (d := d_Put_eq) rfl
theorem f_Same_init (T : Tx K mg sa sx) : ∃ fd, FunD K "__init__" "Same.__init__" (defArgs s_Same_init) (defBody s_Same_init) (defScope s_Same_init) [] [] (He.ma K (He.ga K "Same") "__init__") fd := T.c.def_ 9 (d := d_Same_init) rfl
theorem f_Same_text (T : Tx K mg sa sx) : ∃ fd, FunD K "text" "Same.text" (defArgs s_Same_text) (defBody s_Same_text) (defScope s_Same_text) [] [] (He.ma K (He.ga K "Same") "text") fd := T.c.def_ 10 (d := d_Same_text) rfl
theorem f_Same_operands (T : Tx K mg sa sx) : ∃ fd, FunD K "operands" "Same.operands" (defArgs s_Same_operands) (defBody s_Same_operands) (defScope s_Same_operands) [] [] (He.ma K (He.ga K "Same") "operands") fd := T.c.def_ 11 (d := d_Same_operands) rfl
theorem f_Same_eq (T : Tx K mg sa sx) : ∃ fd, FunD K "__eq__" "Same.__eq__" (defArgs s_Same_eq) (defBody s_Same_eq) (defScope s_Same_eq) [] [] (He.ma K (He.ga K "Same") "__eq__") fd := T.c.def_ 12 (d := d_Same_eq) rfl
theorem f_There_init (T : Tx K mg sa sx) : ∃ fd, FunD K "__init__" "There.__init__" (defArgs s_There_init) (defBody s_There_init) (defScope s_There_init) [] [] (He.ma K (He.ga K "There") "__init__") fd := T.c.def_ 13 (d := d_There_init) rfl
theorem f_There_text (T : Tx K mg sa sx) : ∃ fd, FunD K "text" "There.text" (defArgs s_There_text) (defBody s_There_text) (defScope s_There_text) [] [] (He.ma K (He.ga K "There") "text") fd := T.c.def_ 14 (d := d_There_text) rfl
theorem f_There_operands (T : Tx K mg sa sx) : ∃ fd, FunD K "operands" "There.operands" (defArgs s_There_operands) (defBody s_There_operands) (defScope s_There_operands) [] [] (He.ma K (He.ga K "There") "operands") fd := T.c.def_ 15 (d := d_There_operands) rfl
theorem f_There_eq (T : Tx K mg sa sx) : ∃ fd, FunD K "__eq__" "There.__eq__" (defArgs s_There_eq) (defBody s_There_eq) (defScope s_There_eq) [] [] (He.ma K (He.ga K "There") "__eq__") fd := T.c.def_ 16 (d := d_There_eq) rfl
theorem f_Call_init (T : Tx K mg sa sx) : ∃ fd, FunD K "__init__" "Call.__init__" (defArgs s_Call_init) (defBody s_Call_init) (defScope s_Call_init) [V.int 0] [] (He.ma K (He.ga K "Call") "__init__") fd := T.c.def_ 17 (d := d_Call_init) rfl
theorem f_Call_text (T : Tx K mg sa sx) : ∃ fd, FunD K "text" "Call.text" (defArgs s_Call_text) (defBody s_Call_text) (defScope s_Call_text) [] [] (He.ma K (He.ga K "Call") "text") fd := T.c.def_ 18 (d := d_Call_text) rfl
theorem f_Call_operands (T : Tx K mg sa sx) : ∃ fd, FunD K "operands" "Call.operands" (defArgs s_Call_operands) (defBody s_Call_operands) (defScope s_Call_operands) [] [] (He.ma K (He.ga K "Call") "operands") fd := T.c.def_ 19 (d := d_Call_operands) rfl
theorem f_Call_eq (T : Tx K mg sa sx) : ∃ fd, FunD K "__eq__" "Call.__eq__" (defArgs s_Call_eq) (defBody s_Call_eq) (defScope s_Call_eq) [] [] (He.ma K (He.ga K "Call") "__eq__") fd := T.c.def_ 20 (d := d_Call_eq) rfl
theorem f_End_text (T : Tx K mg sa sx) : ∃ fd, FunD K "text" "End.text" (defArgs s_End_text) (defBody s_End_text) (defScope s_End_text) [] [] (He.ma K (He.ga K "End") "text") fd := T.c.def_ 21 (d := d_End_text) rfl
theorem f_End_operands (T : Tx K mg sa sx) : ∃ fd, FunD K "operands" "End.operands" (defArgs s_End_operands) (defBody s_End_operands) (defScope s_End_operands) [] [] (He.ma K (He.ga K "End") "operands") fd := T.c.def_ 22 (d := d_End_operands) rfl
theorem f_End_eq (T : Tx K mg sa sx) : ∃ fd, FunD K "__eq__" "End.__eq__" (defArgs s_End_eq) (defBody s_End_eq) (defScope s_End_eq) [] [] (He.ma K (He.ga K "End") "__eq__") fd := T.c.def_ 23 (d := d_End_eq) rfl
theorem f_is_digits (T : Tx K mg sa sx) : ∃ fd, FunD K "is_digits" "is_digits" (defArgs s_is_digits) (defBody s_is_digits) (defScope s_is_digits) [] [] (He.ga K "is_digits") fd := T.c.def_ 24 (d := d_is_digits) rfl
theorem f_is_name (T : Tx K mg sa sx) : ∃ fd, FunD K "is_name" "is_name" (defArgs s_is_name) (defBody s_is_name) (defScope s_is_name) [] [] (He.ga K "is_name") fd := T.c.def_ 25 (d := d_is_name) rfl
theorem f_is_numeral (T : Tx K mg sa sx) : ∃ fd, FunD K "is_numeral" "is_numeral" (defArgs s_is_numeral) (defBody s_is_numeral) (defScope s_is_numeral) [] [] (He.ga K "is_numeral") fd := T.c.def_ 26 (d := d_is_numeral) rfl
theorem f_is_index (T : Tx K mg sa sx) : ∃ fd, FunD K "is_index" "is_index" (defArgs s_is_index) (defBody s_is_index) (defScope s_is_index) [] [] (He.ga K "is_index") fd := T.c.def_ 27 (d := d_is_index) rfl
theorem f_is_tag (T : Tx K mg sa sx) : ∃ fd, FunD K "is_tag" "is_tag" (defArgs s_is_tag) (defBody s_is_tag) (defScope s_is_tag) [] [] (He.ga K "is_tag") fd := T.c.def_ 28 (d := d_is_tag) rfl
theorem f_place_of (T : Tx K mg sa sx) : ∃ fd, FunD K "place_of" "place_of" (defArgs s_place_of) (defBody s_place_of) (defScope s_place_of) [] [] (He.ga K "place_of") fd := T.c.def_ 29 (d := d_place_of) rfl
theorem f_value_of (T : Tx K mg sa sx) : ∃ fd, FunD K "value_of" "value_of" (defArgs s_value_of) (defBody s_value_of) (defScope s_value_of) [] [] (He.ga K "value_of") fd := T.c.def_ 30 (d := d_value_of) rfl
theorem f_fits (T : Tx K mg sa sx) : ∃ fd, FunD K "fits" "fits" (defArgs s_fits) (defBody s_fits) (defScope s_fits) [] [] (He.ga K "fits") fd := T.c.def_ 31 (d := d_fits) rfl
theorem f_stretched (T : Tx K mg sa sx) : ∃ fd, FunD K "stretched" "stretched" (defArgs s_stretched) (defBody s_stretched) (defScope s_stretched) [] [] (He.ga K "stretched") fd := T.c.def_ 32 (d := d_stretched) rfl
theorem f_Grammar_init (T : Tx K mg sa sx) : ∃ fd, FunD K "__init__" "Grammar.__init__" (defArgs s_Grammar_init) (defBody s_Grammar_init) (defScope s_Grammar_init) [] [] (He.ma K (He.ga K "Grammar") "__init__") fd := T.c.def_ 33 (d := d_Grammar_init) rfl
theorem f_Grammar_parse (T : Tx K mg sa sx) : ∃ fd, FunD K "parse" "Grammar.parse" (defArgs s_Grammar_parse) (defBody s_Grammar_parse) (defScope s_Grammar_parse) [] [] (He.ma K (He.ga K "Grammar") "parse") fd := T.c.def_ 34 (d := d_Grammar_parse) rfl
theorem f_Grammar_may_stand (T : Tx K mg sa sx) : ∃ fd, FunD K "may_stand" "Grammar.may_stand" (defArgs s_Grammar_may_stand) (defBody s_Grammar_may_stand) (defScope s_Grammar_may_stand) [] [] (He.ma K (He.ga K "Grammar") "may_stand") fd := T.c.def_ 35 (d := d_Grammar_may_stand) rfl
theorem f_Grammar_slots (T : Tx K mg sa sx) : ∃ fd, FunD K "slots" "Grammar.slots" (defArgs s_Grammar_slots) (defBody s_Grammar_slots) (defScope s_Grammar_slots) [] [] (He.ma K (He.ga K "Grammar") "slots") fd := T.c.def_ 36 (d := d_Grammar_slots) rfl
theorem f_Grammar_parts (T : Tx K mg sa sx) : ∃ fd, FunD K "parts" "Grammar.parts" (defArgs s_Grammar_parts) (defBody s_Grammar_parts) (defScope s_Grammar_parts) [] [] (He.ma K (He.ga K "Grammar") "parts") fd := T.c.def_ 37 (d := d_Grammar_parts) rfl
theorem f_Grammar_part (T : Tx K mg sa sx) : ∃ fd, FunD K "part" "Grammar.part" (defArgs s_Grammar_part) (defBody s_Grammar_part) (defScope s_Grammar_part) [] [] (He.ma K (He.ga K "Grammar") "part") fd := T.c.def_ 38 (d := d_Grammar_part) rfl
theorem f_row_of (T : Tx K mg sa sx) : ∃ fd, FunD K "row_of" "row_of" (defArgs s_row_of) (defBody s_row_of) (defScope s_row_of) [] [] (He.ga K "row_of") fd := T.c.def_ 39 (d := d_row_of) rfl
theorem f_sections (T : Tx K mg sa sx) : ∃ fd, FunD K "sections" "sections" (defArgs s_sections) (defBody s_sections) (defScope s_sections) [] [] (He.ga K "sections") fd := T.c.def_ 40 (d := d_sections) rfl
theorem f_of_kind (T : Tx K mg sa sx) : ∃ fd, FunD K "of_kind" "of_kind" (defArgs s_of_kind) (defBody s_of_kind) (defScope s_of_kind) [] [] (He.ga K "of_kind") fd := T.c.def_ 41 (d := d_of_kind) rfl
theorem f_check_declared (T : Tx K mg sa sx) : ∃ fd, FunD K "check_declared" "check_declared" (defArgs s_check_declared) (defBody s_check_declared) (defScope s_check_declared) [] [] (He.ga K "check_declared") fd := T.c.def_ 42 (d := d_check_declared) rfl
theorem f_is_wrong_skip (T : Tx K mg sa sx) : ∃ fd, FunD K "is_wrong_skip" "is_wrong_skip" (defArgs s_is_wrong_skip) (defBody s_is_wrong_skip) (defScope s_is_wrong_skip) [] [] (He.ga K "is_wrong_skip") fd := T.c.def_ 43 (d := d_is_wrong_skip) rfl
theorem f_key_of (T : Tx K mg sa sx) : ∃ fd, FunD K "key_of" "key_of" (defArgs s_key_of) (defBody s_key_of) (defScope s_key_of) [] [] (He.ga K "key_of") fd := T.c.def_ 44 (d := d_key_of) rfl
theorem f_row_fault (T : Tx K mg sa sx) : ∃ fd, FunD K "row_fault" "row_fault" (defArgs s_row_fault) (defBody s_row_fault) (defScope s_row_fault) [] [] (He.ga K "row_fault") fd := T.c.def_ 45 (d := d_row_fault) rfl
theorem f_check_blocks (T : Tx K mg sa sx) : ∃ fd, FunD K "check_blocks" "check_blocks" (defArgs s_check_blocks) (defBody s_check_blocks) (defScope s_check_blocks) [] [] (He.ga K "check_blocks") fd := T.c.def_ 46 (d := d_check_blocks) rfl
theorem f_unit_sections (T : Tx K mg sa sx) : ∃ fd, FunD K "unit_sections" "unit_sections" (defArgs s_unit_sections) (defBody s_unit_sections) (defScope s_unit_sections) [] [] (He.ga K "unit_sections") fd := T.c.def_ 47 (d := d_unit_sections) rfl
theorem f_Block_init (T : Tx K mg sa sx) : ∃ fd, FunD K "__init__" "Block.__init__" (defArgs s_Block_init) (defBody s_Block_init) (defScope s_Block_init) [] [] (He.ma K (He.ga K "Block") "__init__") fd := T.c.def_ 48 (d := d_Block_init) rfl
theorem f_Block_head (T : Tx K mg sa sx) : ∃ fd, FunD K "head" "Block.head" (defArgs s_Block_head) (defBody s_Block_head) (defScope s_Block_head) [] [] (He.ma K (He.ga K "Block") "head") fd := T.c.def_ 49 (d := d_Block_head) rfl
theorem f_block_of (T : Tx K mg sa sx) : ∃ fd, FunD K "block_of" "block_of" (defArgs s_block_of) (defBody s_block_of) (defScope s_block_of) [] [] (He.ga K "block_of") fd := T.c.def_ 50 (d := d_block_of) rfl
theorem f_Unit_init (T : Tx K mg sa sx) : ∃ fd, FunD K "__init__" "Unit.__init__" (defArgs s_Unit_init) (defBody s_Unit_init) (defScope s_Unit_init) [] [] (He.ma K (He.ga K "Unit") "__init__") fd := T.c.def_ 51 (d := d_Unit_init) rfl
theorem f_Unit_text (T : Tx K mg sa sx) : ∃ fd, FunD K "text" "Unit.text" (defArgs s_Unit_text) (defBody s_Unit_text) (defScope s_Unit_text) [] [] (He.ma K (He.ga K "Unit") "text") fd := T.c.def_ 52 (d := d_Unit_text) rfl
theorem f_Block_eq (T : Tx K mg sa sx) : ∃ fd, FunD K "__eq__" "Block.__eq__" (defArgs s_Block_eq) (defBody s_Block_eq) (defScope s_Block_eq) [] [] (He.ma K (He.ga K "Block") "__eq__") fd := T.c.def_ 53 (d := d_Block_eq) rfl
theorem f_Unit_str (T : Tx K mg sa sx) : ∃ fd, FunD K "__str__" "Unit.__str__" (defArgs s_Unit_str) (defBody s_Unit_str) (defScope s_Unit_str) [] [] (He.ma K (He.ga K "Unit") "__str__") fd := T.c.def_ 54 (d := d_Unit_str) rfl
theorem f_Unit_eq (T : Tx K mg sa sx) : ∃ fd, FunD K "__eq__" "Unit.__eq__" (defArgs s_Unit_eq) (defBody s_Unit_eq) (defScope s_Unit_eq) [] [] (He.ma K (He.ga K "Unit") "__eq__") fd := T.c.def_ 55 (d := d_Unit_eq) rfl
theorem f_block_lines (T : Tx K mg sa sx) : ∃ fd, FunD K "block_lines" "block_lines" (defArgs s_block_lines) (defBody s_block_lines) (defScope s_block_lines) [] [] (He.ga K "block_lines") fd := T.c.def_ 56 (d := d_block_lines) rfl
theorem f_copied (T : Tx K mg sa sx) : ∃ fd, FunD K "copied" "copied" (defArgs s_copied) (defBody s_copied) (defScope s_copied) [] [] (He.ga K "copied") fd := T.c.def_ 57 (d := d_copied) rfl
theorem f_l_draw (T : Tx K mg sa sx) : ∃ fd, FunD K "_law_draw" "_law_draw" (defArgs s_l_draw) (defBody s_l_draw) (defScope s_l_draw) [] [] (He.ga K "_law_draw") fd := T.c.def_ 58 (d := d_l_draw) rfl
theorem f_l_pick (T : Tx K mg sa sx) : ∃ fd, FunD K "_law_pick" "_law_pick" (defArgs s_l_pick) (defBody s_l_pick) (defScope s_l_pick) [] [] (He.ga K "_law_pick") fd := T.c.def_ 59 (d := d_l_pick) rfl
theorem f_l_name (T : Tx K mg sa sx) : ∃ fd, FunD K "_law_name" "_law_name" (defArgs s_l_name) (defBody s_l_name) (defScope s_l_name) [] [] (He.ga K "_law_name") fd := T.c.def_ 60 (d := d_l_name) rfl
theorem f_l_number (T : Tx K mg sa sx) : ∃ fd, FunD K "_law_number" "_law_number" (defArgs s_l_number) (defBody s_l_number) (defScope s_l_number) [] [] (He.ga K "_law_number") fd := T.c.def_ 61 (d := d_l_number) rfl
theorem f_l_field (T : Tx K mg sa sx) : ∃ fd, FunD K "_law_field" "_law_field" (defArgs s_l_field) (defBody s_l_field) (defScope s_l_field) [] [] (He.ga K "_law_field") fd := T.c.def_ 62 (d := d_l_field) rfl
theorem f_l_errors (T : Tx K mg sa sx) : ∃ fd, FunD K "_law_errors" "_law_errors" (defArgs s_l_errors) (defBody s_l_errors) (defScope s_l_errors) [] [] (He.ga K "_law_errors") fd := T.c.def_ 63 (d := d_l_errors) rfl
theorem f_l_is_of (T : Tx K mg sa sx) : ∃ fd, FunD K "_law_is_of" "_law_is_of" (defArgs s_l_is_of) (defBody s_l_is_of) (defScope s_l_is_of) [] [] (He.ga K "_law_is_of") fd := T.c.def_ 64 (d := d_l_is_of) rfl
theorem f_l_fields (T : Tx K mg sa sx) : ∃ fd, FunD K "_law_fields" "_law_fields" (defArgs s_l_fields) (defBody s_l_fields) (defScope s_l_fields) [] [] (He.ga K "_law_fields") fd := T.c.def_ 65 (d := d_l_fields) rfl
theorem f_l_errors_hold (T : Tx K mg sa sx) : ∃ fd, FunD K "_law_errors_hold" "_law_errors_hold" (defArgs s_l_errors_hold) (defBody s_l_errors_hold) (defScope s_l_errors_hold) [] [] (He.ga K "_law_errors_hold") fd := T.c.def_ 66 (d := d_l_errors_hold) rfl
theorem f_l_read (T : Tx K mg sa sx) : ∃ fd, FunD K "_law_read" "_law_read" (defArgs s_l_read) (defBody s_l_read) (defScope s_l_read) [] [] (He.ga K "_law_read") fd := T.c.def_ 67 (d := d_l_read) rfl
theorem f_l_block (T : Tx K mg sa sx) : ∃ fd, FunD K "_law_block" "_law_block" (defArgs s_l_block) (defBody s_l_block) (defScope s_l_block) [] [] (He.ga K "_law_block") fd := T.c.def_ 68 (d := d_l_block) rfl
theorem f_law (T : Tx K mg sa sx) : ∃ fd, FunD K "law" "law" (defArgs s_law) (defBody s_law) (defScope s_law) [] [] (He.ga K "law") fd := T.c.def_ 69 (d := d_law) rfl
end
end K88
namespace K88
open PySem PySem.Spec PyProof.Rows Cm
open L2 hiding Same
abbrev R : PySem.W.OpenRow := PySem.W.OpenLaw.row PySem.Challenge.rw_quietedition_k88_errors_and_long_units
/-- where the objects stand that the facts ask for, told by a probe -/
def addrs : List Addr := [2, 3, 26, 36, 58, 79, 100, 121, 142, 163, 184, 205, 226, 247, 268, 277, 282, 320, 369, 416, 463, 510, 558, 598, 605, 610, 617, 624, 631, 638, 645, 646, 647, 648, 655, 662, 710, 721, 728, 733, 740, 747, 755, 756, 757, 758, 759, 766, 773, 780, 785, 816, 827, 892, 903, 910, 917, 924, 931, 938, 945, 952, 957, 964, 971, 978, 25, 35, 57, 78, 99, 120, 141, 162, 183, 204, 225, 246, 267, 276, 281, 319, 368, 415, 462, 509, 557, 597, 604, 609, 616, 623, 630, 637, 644, 654, 661, 709, 720, 727, 732, 739, 746, 765, 772, 779, 784, 815, 826, 891, 902, 909, 916, 923, 930, 937, 944, 951, 956, 963, 970, 977, 55, 76, 97, 118, 139, 160, 181, 202, 223, 244, 265, 338, 345, 352, 366, 385, 392, 399, 413, 432, 439, 446, 460, 479, 486, 493, 507, 527, 534, 541, 555, 574, 581, 595, 674, 681, 688, 693, 700, 707, 799, 806, 813, 848, 855, 863, 870, 877, 54, 43, 75, 64, 96, 85, 117, 106, 138, 127, 159, 148, 180, 169, 201, 190, 222, 211, 243, 232, 264, 253, 337, 344, 351, 365, 384, 391, 398, 412, 431, 438, 445, 459, 478, 485, 492, 506, 526, 520, 533, 540, 554, 573, 580, 594, 673, 680, 687, 692, 699, 706, 798, 805, 812, 847, 853, 862, 869, 876, 852]
def part (_ : Nat) (g : Addr → Option Obj) : PySem.W.Frag := He.frG g addrs
def seen (n : Nat) (g : Addr → Option Obj) : He.AlD × List FnWS × List (Option (List (Option (Str × Int)))) × Bool := (He.obsD fa fn (part n g), wsl (part n g), tabs (part n g), (exs (part n g)).all id)
def hkz (n : Nat) : PySem.W.Hook where
  α := He.AlD × List FnWS × List (Option (List (Option (Str × Int)))) × Bool
  obs s := seen n s.heap.get?
  val w := (He.valD fn, wsv, tabV w, true)
  says w h := ∃ K : PySem.W.Frag, K.In h ∧ He.SaysD fa fn K ∧ wsl K = wsv ∧ Wx K w ∧ (exs K).all id = true
  of _ _ e := ⟨_, He.frG_in, congrArg Prod.fst e, congrArg (fun z => z.2.1) e, (show tabs _ = tabV _ from congrArg (fun z => z.2.2.1) e), congrArg (fun z => z.2.2.2) e⟩
  keeps _ _ _ := fun ⟨K, i, c⟩ k => ⟨K, PySem.W.Frag.In.keeps i k, c⟩
def ob (s : PySem.W.SharedT) : He.AlD × List FnWS × List (Option (List (Option (Str × Int)))) × Bool := seen 4 (HandSHeadRun.getT s)
theorem ob_eq (s : PySem.W.SharedT) : ob s = (hkz 4).obs s.abs := by
  have e : HandSHeadRun.getT s = s.abs.heap.get? := funext (HandSHeadRun.getT_eq s)
  show seen 4 _ = seen 4 _
  rw [e]
def loose0 : List Str := ["_wall", "copied", "QuietError", "BadText", "BadClient", "BadManner", "BadMoment", "NotAssembled", "NotLinked", "NotLoaded", "BadRenaming", "TooMany", "BadHouse", "BadMend", "value_text", "block_lines", "Row", "Tell", "Put", "Same", "There", "Call", "End", "is_digits", "is_name", "is_numeral", "is_index", "is_tag", "place_of", "value_of"]
def loose1 : List Str := ["fits", "stretched", "Grammar", "row_of", "sections", "of_kind", "check_declared", "is_wrong_skip", "ascending", "key_of", "row_fault", "check_blocks", "unit_sections", "Block", "block_of", "block_named", "Unit", "_law_draw", "_law_pick", "_law_name", "_law_number", "_law_field", "_law_errors", "_law_is_of", "_law_fields", "_law_errors_hold", "_law_read", "_law_block", "LETTERS", "DIGITS"]
def loose2 : List Str := ["ACCESSES", "CELL_ACCESSES", "CAUSES", "ORDER", "FORMS", "VALUE_KINDS", "PLACE_KINDS", "MOST_CELLS", "MOST_BLOCKS", "MOST_ROWS", "HEADS"]
def loose : List Str := loose0 ++ loose1 ++ loose2
theorem run0 (w : World) : HandSHeadRun.RunEq R (PySem.W.view R.prog [78]) (hkz 4) ob 9000 loose (w.withFollow "special-get-raises" false) := by
  intro os
  kernel_rfl
theorem run1 (w : World) : HandSHeadRun.RunEq R (PySem.W.view R.prog [78]) (hkz 4) ob 9000 loose (w.withFollow "special-get-raises" true) := by
  intro os
  kernel_rfl
theorem run (w : World) : HandSHeadRun.RunEq R (PySem.W.view R.prog [78]) (hkz 4) ob 9000 loose w :=
  PySem.W.byRow2 "special-get-raises" (P := fun w => HandSHeadRun.RunEq R (PySem.W.view R.prog [78]) (hkz 4) ob 9000 loose w) run0 run1 w
end K88
namespace K88
open PySem PySem.Spec PyProof.Rows Cm
open L2 hiding Same
/-! ### copies of what an error may keep -/
def Flt : OdF → Bool
  | .tup => false
  | _ => true
theorem fd_same {H H' : Hp} {x : V} {k : OdF} (s : Same H H') (h : FdAt H x k) : FdAt H' x k := by
  cases k with
  | tup => obtain ⟨a, e, h⟩ := h; exact ⟨a, e, s _ _ h⟩
  | _ => exact h
theorem fd_ty {K : PySem.W.Frag} {H : Hp} {x : V} {k : OdF} (f : Flt k = true) (h : FdAt H x k) : ∃ t, TyX K H x t ∧ PySem.W.kitOne K t (.type "list") = some false ∧ PySem.W.kitOne K t (.type "tuple") = some false := by
  cases k with
  | str z => obtain ⟨rfl, _⟩ := h; exact ⟨_, .base (.str z), kit_ty (by decide +kernel), kit_ty (by decide +kernel)⟩
  | non => cases (show x = .non from h); exact ⟨_, .base .non, kit_ty (by decide +kernel), kit_ty (by decide +kernel)⟩
  | int i => obtain ⟨rfl, _⟩ := h; exact ⟨_, .base (.int i), kit_ty (by decide +kernel), kit_ty (by decide +kernel)⟩
  | tru => cases (show x = .bl true from h); exact ⟨_, .base (.bl true), kit_ty (by decide +kernel), kit_ty (by decide +kernel)⟩
  | tup => cases f
def spCopyF : Sp := fun vs H Q _ => ∃ (x : V) (k : OdF), vs = [x] ∧ Flt k = true ∧ FdAt H x k ∧ Q x H
def spCopy : Sp := fun vs H Q _ => ∃ (x : V) (k : OdF), vs = [x] ∧ FdAt H x k ∧ ∀ y H', Same H H' → FdAt H' y k → Q y H'
theorem x_str : ∀ c ∈ (("x" : Str)).cps.toList, c < 128 := by decide +kernel
section
variable {P : Program} {w : World} {K : PySem.W.Frag} {mg : Str → Option Value} {base : Heap} {sa : Addr} {sx : List Int}
theorem ok_copiedF (T : Tx K mg sa sx) : Cal P w K mg base 1 "copied" spCopyF := by
  obtain ⟨fd, F⟩ := f_copied T
  refine ⟨_, fd, ["thing"], fnok F sc_copied (fun vs H Q E h => ?_) (fun cdv A outer s H vs Q E hr h => ?_), F.bindsN fun _ _ _ _ _ _ us hl => match us, hl with | [_], _ => rfl, g_copied T, F.kp⟩
  · obtain ⟨x, k, rfl, _⟩ := h; rfl
  · obtain ⟨x, k, rfl, f, ho, q⟩ := h
    refine ⟨_, (pss_cons (ps_if (pt_val (pe_callB (id := "isinstance") (r := rIsi K) call_isi rfl (n_isinstance T) (by decide +kernel) (pa_cons (pv 0) (pa_cons (pe_bltn (v := .ty "list") rfl (n_list T) (by decide +kernel) rfl) pa_nil)))) (pss_one ps_never) pss_nil)
    (pss_cons (ps_if (pt_val (pe_callB (id := "isinstance") (r := rIsi K) call_isi rfl (n_isinstance T) (by decide +kernel) (pa_cons (pv 0) (pa_cons (pe_bltn (v := .ty "tuple") rfl (n_tuple T) (by decide +kernel) rfl) pa_nil)))) (pss_one ps_never) pss_nil)
    (pss_one (ps_ret (pv 0))))), ?_⟩
    obtain ⟨t, ty, k1, k2⟩ := fd_ty f ho
    refine ⟨_, rfl, _, .ty "list", t, .type "list", false, rfl, .ty _, ty, k1, false, rfl, iteF ?_⟩
    refine ⟨_, rfl, _, .ty "tuple", t, .type "tuple", false, rfl, .ty _, ty, k2, false, rfl, iteF ?_⟩
    exact ⟨_, rfl, q⟩
theorem ok_copied (T : Tx K mg sa sx) : Cal P w K mg base 2 "copied" spCopy := by
  obtain ⟨fd, F⟩ := f_copied T
  refine ⟨_, fd, ["thing"], fnok F sc_copied (fun vs H Q E h => ?_) (fun cdv A outer s H vs Q E hr h => ?_), F.bindsN fun _ _ _ _ _ _ us hl => match us, hl with | [_], _ => rfl, g_copied T, F.kp⟩
  · obtain ⟨x, k, rfl, _⟩ := h; rfl
  · obtain ⟨x, k, rfl, ho, q⟩ := h
    cases hf : Flt k with
    | true =>
      refine ⟨_, (pss_cons (ps_if (pt_val (pe_callB (id := "isinstance") (r := rIsi K) call_isi rfl (n_isinstance T) (by decide +kernel) (pa_cons (pv 0) (pa_cons (pe_bltn (v := .ty "list") rfl (n_list T) (by decide +kernel) rfl) pa_nil)))) (pss_one ps_never) pss_nil)
    (pss_cons (ps_if (pt_val (pe_callB (id := "isinstance") (r := rIsi K) call_isi rfl (n_isinstance T) (by decide +kernel) (pa_cons (pv 0) (pa_cons (pe_bltn (v := .ty "tuple") rfl (n_tuple T) (by decide +kernel) rfl) pa_nil)))) (pss_one ps_never) pss_nil)
    (pss_one (ps_ret (pv 0))))), ?_⟩
      obtain ⟨t, ty, k1, k2⟩ := fd_ty hf ho
      refine ⟨_, rfl, _, .ty "list", t, .type "list", false, rfl, .ty _, ty, k1, false, rfl, iteF ?_⟩
      refine ⟨_, rfl, _, .ty "tuple", t, .type "tuple", false, rfl, .ty _, ty, k2, false, rfl, iteF ?_⟩
      exact ⟨_, rfl, q _ _ (Cm.Same.refl _) ho⟩
    | false =>
      cases k with
      | tup =>
        refine ⟨_, (pss_cons (ps_if (pt_val (pe_callB (id := "isinstance") (r := rIsi K) call_isi rfl (n_isinstance T) (by decide +kernel) (pa_cons (pv 0) (pa_cons (pe_bltn (v := .ty "list") rfl (n_list T) (by decide +kernel) rfl) pa_nil)))) (pss_one ps_never) pss_nil)
    (pss_cons (ps_if (pt_val (pe_callB (id := "isinstance") (r := rIsi K) call_isi rfl (n_isinstance T) (by decide +kernel) (pa_cons (pv 0) (pa_cons (pe_bltn (v := .ty "tuple") rfl (n_tuple T) (by decide +kernel) rfl) pa_nil)))) (pss_one (ps_ret (pe_callTy (T := "tuple") call_tuple_of rfl (n_tuple T) (by decide +kernel) (pa_cons (pe_lc (own := [("part", 1)]) (g := gName 1) rfl sc_copied.nd (pi_tup (pv 0)) (blkOk_by (own := [("part", 1)]) (N := ["thing", "part"]) (sc := defScope s_copied) (by decide +kernel)) (fun _ _ _ _ _ => pg_name (i := 1) sc_copied.nd rfl (by first | exact Or.inl rfl | exact Or.inr rfl)) (fun _ _ _ _ _ => pts_nil) (fun _ _ _ _ _ => (pe_cal (ok_copiedF T) hr (by decide) (pa_cons (pv 1) pa_nil)))) pa_nil)))) pss_nil)
    (pss_one (ps_ret (pv 0))))), ?_⟩
        obtain ⟨a, rfl, ha⟩ := ho
        refine ⟨_, rfl, _, .ty "list", _, .type "list", false, rfl, .ty _, .base (.tup ha), kit_ty (by decide +kernel), false, rfl, iteF ?_⟩
        refine ⟨_, rfl, _, .ty "tuple", _, .type "tuple", true, rfl, .ty _, .base (.tup ha), kit_ty (by decide +kernel), true, rfl, iteT ?_⟩
        refine ⟨_, rfl, a, rfl, ⟨_, SqT.of ha⟩, fun D hD => ?_⟩
        refine lc_tup (K := K) (a := a) (xs := [V.str "x", V.int 1]) (fun i H' => Same H H' ∧ H' D = some (.lst (([V.str "x", V.int 1] : List V).take i))) ⟨Same.new hD, upd_same⟩ (fun i H' _ ⟨sm, _⟩ => SqT.of (sm _ _ ha)) ?_ ?_
        · rintro i x H' hi ⟨sm, hS⟩
          have : ∃ k : OdF, Flt k = true ∧ FdAt H' x k ∧ i < 2 ∧ ([V.str "x", V.int 1] : List V).take i ++ [x] = ([V.str "x", V.int 1] : List V).take (i + 1) := by
            match i, hi with
            | 0, hi =>
              obtain rfl : V.str "x" = x := by simpa using hi
              exact ⟨.str "x", rfl, ⟨rfl, by decide +kernel, x_str⟩, by decide, rfl⟩
            | 1, hi =>
              obtain rfl : V.int 1 = x := by simpa using hi
              exact ⟨.int 1, rfl, ⟨rfl, by decide +kernel⟩, by decide, rfl⟩
            | i + 2, hi => simp at hi
          obtain ⟨k, f, hk, i2, e⟩ := this
          refine ⟨rfl, _, rfl, _, k, rfl, f, hk, _, hS, sz2 (by rw [List.length_take]; omega), sm.mut hD, ?_⟩
          rw [upd_same, e]
        · rintro H' ⟨sm, hS⟩
          exact ⟨D, _, rfl, .inl ⟨SqL.of hS, fun l hl => q _ _ (sm.trans (Same.new hl)) ⟨l, rfl, upd_same⟩⟩⟩
      | _ => cases hf
end
end K88
namespace K88
open PySem PySem.Spec PyProof.Rows Cm Um
open L2 hiding Same
open NdefX
/-! ### the errors of texts -/
structure PF (P : Program) : Prop where
  file : P.main.file = PySem.Challenge.pw_quietedition_k88_errors_and_long_units.main.file
  top : (P.main.scope.names.lookup ("super" : Str)).isSome = false
abbrev BT (K : PySem.W.Frag) : Addr := He.ga K "BadText"
def spBad2 (C : Addr) : Sp := fun vs H Q _ => ∃ (a : Addr) (i : Int) (c : Str), vs = [.ref a, .int i, .str c] ∧ i.natAbs ≤ 4000000 ∧ c.length ≤ 1000 ∧ H a = some (exo a C none) ∧
  ∀ (dx : Addr), H dx = none → dx ≠ a → Q .non (upd (upd (upd H dx (exd dx [("row", .int i)])) a (exo a C (some dx))) dx (exd dx [("cause", .str c), ("row", .int i)]))
theorem num_len {i : Int} (h : i.natAbs ≤ 4000000000) : ((toString i : String) : Str).length ≤ 1921 := nt_len (n := i) h
/-- what a raise of BadText asks, behind its arguments -/
theorem raise2 {C : Addr} {H : Hp} {i : Int} {c : Str} {E : XK} (hi : i.natAbs ≤ 4000000) (hc : c.length ≤ 1000) (qe : ∀ H' d, Same H H' → H' d = some (.xd [("cause", .str c), ("row", .int i)]) → E (.ref C) (some d) H') :
    2 ≤ 1000 ∧ ∀ a, H a = none → spBad2 C [.ref a, .int i, .str c] (upd H a (exo a C none)) (fun v H2 => v = .non ∧ ∃ (d : Addr) (fs : List (Str × V)), H2 a = some (exo a C (some d)) ∧ H2 d = some (exd d fs) ∧ H d = none ∧ E (.ref C) (some d) (upd (del H2 a) d (.xd fs))) (fun _ _ _ => False) := by
  refine ⟨by decide, fun a ha => ⟨a, i, c, rfl, hi, hc, upd_same, fun dx hdx ne => ⟨rfl, dx, [("cause", .str c), ("row", .int i)], ?_, upd_same, ?_, ?_⟩⟩⟩
  · rw [upd_ne ne.symm, upd_same]
  · rw [upd_ne ne] at hdx; exact hdx
  · rw [upd_ne ne] at hdx
    refine qe _ dx (fun b o hb => ?_) upd_same
    have na : b ≠ a := ne_of_none hb ha
    have nd : b ≠ dx := ne_of_none hb hdx
    rw [upd_ne nd, del_ne na, upd_ne nd, upd_ne na, upd_ne nd, upd_ne na]
    exact hb
section
variable {P : Program} {w : World} {K : PySem.W.Frag} {mg : Str → Option Value} {base : Heap} {sa : Addr} {sx : List Int}
theorem exT (T : Tx K mg sa sx) : ExB K (BT K) (He.ma K (BT K) "__init__") := exB_ok (x_exBadText T)
theorem wsT (T : Tx K mg sa sx) : fnWS K (He.ma K (BT K) "__init__") = some (("__init__" : Str), ("BadText.__init__" : Str), defArgs s_BadText_init, FuncBody.stmts (defBody s_BadText_init), defScope s_BadText_init, mainGlobals, [("__class__" : Str)], builtinsNs) :=
  congrArg (fun z : List FnWS => z.headD none) T.w
theorem ok_BadText (T : Tx K mg sa sx) (hP : PF P) : ∃ fd, FnOk P w K mg base CX0 2 (He.ma K (BT K) "__init__") fd ["self", "row", "cause"] (spBad2 (BT K)) ∧ Binds K fd ["self", "row", "cause"] [] := by
  obtain ⟨cc, c, fd, S⟩ := supC_of (P := P) (exT T) (wsT T) (by rw [hP.file]; exact x_suBadText T) (n_super T)
  refine ⟨fd, sup_ok S (N := ["self", "row", "cause", "__class__"]) (ps := ["self", "row", "cause"]) (nscope_by (by decide +kernel)) (by rfl) (by rfl) (by rfl) hP.top (fun vs H Q E h => ?_) (fun A outer s H vs Q E hr h => ?_) (fun L env he => ?_) (fun L => ?_) (fun L => ?_) (fun L env he => ?_), ?_⟩
  · obtain ⟨a, i, z, rfl, _⟩ := h; rfl
  · obtain ⟨a, i, z, rfl, hi, hz, ha, q⟩ := h
    refine ⟨_, _, a, pe_joined (PJ.cons pe_str (PJ.cons (pe_fmt (pv 1)) (PJ.cons pe_str (PJ.cons (pe_fmt (pv 2)) PJ.nil)))), (pss_cons (ps_ost (pv 0) (pv 1)) (pss_one (ps_ost (pv 0) (pv 2)))), rfl, ha, ?_⟩
    have hn := num_len (i := i) (by omega)
    have l1 : (("line " : Str)).length = 5 := by decide +kernel
    have l2 : ((": " : Str)).length = 2 := by decide +kernel
    refine ⟨_, rfl, by rw [emp_app, l1]; exact sz1 (by decide), _, rfl, .inr ⟨i, rfl, log_of (Nat.lt_of_le_of_lt (show i.natAbs ≤ 4000000 by omega) (by decide +kernel)), _, rfl, by rw [app_len, emp_app, l1]; exact sz1 (by omega), ?_⟩⟩
    refine ⟨_, rfl, by rw [app_len, app_len, emp_app, l1, l2]; exact sz1 (by omega), ?_⟩
    refine ⟨_, rfl, .inl ⟨z, rfl, sz1 (by omega), _, rfl, by rw [app_len, app_len, app_len, emp_app, l1, l2]; exact sz1 (by omega), Nat.le_refl _, ha, ?_⟩⟩
    refine ⟨_, rfl, _, rfl, a, _, rfl, (exT T).oex, x_noRow T, .inl ⟨ha, fun dx hd hne => ?_⟩⟩
    refine ⟨_, rfl, _, rfl, a, _, rfl, (exT T).oex, x_noCause T, .inr ⟨dx, _, upd_same, by rw [upd_ne hne, upd_same], by simp, q dx hd hne⟩⟩
  · subst he; exact ⟨_, rfl⟩
  · rfl
  · rfl
  · subst he; rfl
  · obtain ⟨dV, kV, doc, pm, an, ct, e⟩ := S.fdE
    obtain ⟨oc, od, osl, lk⟩ := S.lk
    have hd := dfN_ok lk (x_dfBadText T)
    subst e
    obtain rfl : dV = Value.none := hd
    exact .all fun us hl => match us, hl with | [_, _, _], _ => rfl
end
end K88
namespace K88
open PySem PySem.Spec PyProof.Rows Cm
open L2 hiding Same
open NdefX
/-! ### the eleven errors, made with whatever an error may keep -/
theorem fd_kp {H H' : Hp} {a C : Addr} {d : Option Addr} {x : V} {k : OdF} (ha : H a = some (exo a C d)) (kp : Kp a H H') (h : FdAt H x k) : FdAt H' x k := by
  cases k with
  | tup =>
    obtain ⟨b, e, h⟩ := h
    exact ⟨b, e, kp _ _ (fun z => by rw [z, ha] at h; exact exo_tup (Option.some.inj h)) h⟩
  | _ => exact h
def ErDone (H : Hp) (a C dx : Addr) (l : List (Str × V)) (H' : Hp) : Prop := Kp a H H' ∧ H' a = some (exo a C (some dx)) ∧ H' dx = some (exd dx l)
theorem er_first {H H0 : Hp} {a C dx : Addr} {l : List (Str × V)} (k : Kp a H H0) (hd : H0 dx = none) (ne : dx ≠ a) : ErDone H a C dx l (upd (upd H0 dx (exd dx l)) a (exo a C (some dx))) := by
  refine ⟨fun b o n e => ?_, upd_same, by rw [upd_ne ne, upd_same]⟩
  have hb := k b o n e
  rw [upd_ne n, upd_ne (ne_of_none hb hd)]; exact hb
theorem er_next {H H' : Hp} {a C dx : Addr} {l l2 : List (Str × V)} (hd : H dx = none) (ne : dx ≠ a) (h : ErDone H a C dx l H') : ErDone H a C dx l2 (upd H' dx (exd dx l2)) :=
  ⟨fun b o n e => by rw [upd_ne (ne_of_none e hd)]; exact h.1 b o n e, by rw [upd_ne ne.symm]; exact h.2.1, upd_same⟩
def spE1 (C : Addr) (f : Str) : Sp := fun vs H Q _ => ∃ (a : Addr) (x : V) (k : OdF), vs = [.ref a, x] ∧ FdAt H x k ∧ H a = some (exo a C none) ∧ ∀ y dx H', FdAt H' y k → ErDone H a C dx [(f, y)] H' → Q .non H'
def spE2 (C : Addr) (f g : Str) : Sp := fun vs H Q _ => ∃ (a : Addr) (x y : V) (k l : OdF), vs = [.ref a, x, y] ∧ FdAt H x k ∧ FdAt H y l ∧ H a = some (exo a C none) ∧ ∀ dx H', ErDone H a C dx [(g, y), (f, x)] H' → Q .non H'
def spE3 (C : Addr) (f g h : Str) : Sp := fun vs H Q _ => ∃ (a : Addr) (x y z : V) (k l m : OdF), vs = [.ref a, x, y, z] ∧ FdAt H x k ∧ FdAt H y l ∧ FdAt H z m ∧ H a = some (exo a C none) ∧ ∀ dx H', ErDone H a C dx [(h, z), (g, y), (f, x)] H' → Q .non H'
section
variable {P : Program} {w : World} {K : PySem.W.Frag} {mg : Str → Option Value} {base : Heap} {sa : Addr} {sx : List Int}

theorem ex_BadText (T : Tx K mg sa sx) : ExB K (He.ga K "BadText") (He.ma K (He.ga K "BadText") "__init__") := exB_ok (x_exBadText T)
theorem ws_BadText (T : Tx K mg sa sx) : fnWS K (He.ma K (He.ga K "BadText") "__init__") = some (("__init__" : Str), ("BadText.__init__" : Str), defArgs s_BadText_init, FuncBody.stmts (defBody s_BadText_init), defScope s_BadText_init, mainGlobals, [("__class__" : Str)], builtinsNs) :=
  congrArg (fun z : List FnWS => z.headD none) T.w
theorem in_BadText (T : Tx K mg sa sx) (hP : PF P) : ∃ fd, FnOk P w K mg base CX0 2 (He.ma K (He.ga K "BadText") "__init__") fd ["self", "row", "cause"] (spE2 (He.ga K "BadText") "row" "cause") ∧ Binds K fd ["self", "row", "cause"] [] := by
  obtain ⟨cc, c, fd, S⟩ := supC_of (P := P) (ex_BadText T) (ws_BadText T) (by rw [hP.file]; exact x_suBadText T) (n_super T)
  refine ⟨fd, sup_ok S (N := ["self", "row", "cause", "__class__"]) (ps := ["self", "row", "cause"]) (nscope_by (by decide +kernel)) (by rfl) (by rfl) (by rfl) hP.top (fun vs H Q E h => ?_) (fun A outer s H vs Q E hr h => ?_) (fun L env he => ?_) (fun L => ?_) (fun L => ?_) (fun L env he => ?_), ?_⟩
  · obtain ⟨a, x, y, k, l, rfl, _⟩ := h; rfl
  · obtain ⟨a, x, y, k, l, rfl, hx, hy, ha, q⟩ := h
    refine ⟨_, _, a, pe_joined (PJ.cons pe_str (PJ.cons (pe_fmtF hr (pv 1)) (PJ.cons pe_str (PJ.cons (pe_fmtF hr (pv 2)) PJ.nil)))), (pss_cons (ps_ost (pv 0) (pv 1)) (pss_one (ps_ost (pv 0) (pv 2)))), rfl, ha, ?_⟩
    have t0 : (("line " : Str)).length = 5 := by decide +kernel
    have t1 : ((": " : Str)).length = 2 := by decide +kernel
    refine ⟨_, rfl, (by apply sz1; simp only [app_len, emp_app, t0, t1]; omega), ?_⟩
    refine ⟨_, rfl, ⟨_, hx⟩, fun m1 lm1 => ⟨_, rfl, (by apply sz1; simp only [app_len, emp_app, t0, t1]; omega), ?_⟩⟩
    refine ⟨_, rfl, (by apply sz1; simp only [app_len, emp_app, t0, t1]; omega), ?_⟩
    refine ⟨_, rfl, ⟨_, hy⟩, fun m3 lm3 => ⟨_, rfl, (by apply sz1; simp only [app_len, emp_app, t0, t1]; omega), ?_⟩⟩
    refine ⟨Nat.le_refl _, ha, ?_⟩
    refine ⟨_, rfl, _, rfl, a, _, rfl, (ex_BadText T).oex, x_no_BadText_row T, .inl ⟨ha, fun dx hd hne => ?_⟩⟩
    have d0 := er_first (C := He.ga K "BadText") (l := [("row", x)]) (Kp.refl (H := H) (p := a)) hd hne
    refine ⟨_, rfl, _, rfl, a, _, rfl, (ex_BadText T).oex, x_no_BadText_cause T, .inr ⟨dx, _, d0.2.1, d0.2.2, by simp, ?_⟩⟩
    have d1 := er_next (l2 := [("cause", y), ("row", x)]) hd hne d0
    exact q dx _ d1
  · subst he; exact ⟨_, rfl⟩
  · rfl
  · rfl
  · subst he; rfl
  · obtain ⟨dV, kV, doc, pm, an, ct, e⟩ := S.fdE
    obtain ⟨oc, od, osl, lk⟩ := S.lk
    have hd := dfN_ok lk (x_dfBadText T)
    subst e
    obtain rfl : dV = Value.none := hd
    exact .all fun us hl => match us, hl with | [_, _, _], _ => rfl
theorem ex_BadClient (T : Tx K mg sa sx) : ExB K (He.ga K "BadClient") (He.ma K (He.ga K "BadClient") "__init__") := exB_ok (x_exBadClient T)
theorem ws_BadClient (T : Tx K mg sa sx) : fnWS K (He.ma K (He.ga K "BadClient") "__init__") = some (("__init__" : Str), ("BadClient.__init__" : Str), defArgs s_BadClient_init, FuncBody.stmts (defBody s_BadClient_init), defScope s_BadClient_init, mainGlobals, [("__class__" : Str)], builtinsNs) :=
  congrArg (fun z : List FnWS => z.tail.headD none) T.w
theorem in_BadClient (T : Tx K mg sa sx) (hP : PF P) : ∃ fd, FnOk P w K mg base CX0 2 (He.ma K (He.ga K "BadClient") "__init__") fd ["self", "at", "row", "cause"] (spE3 (He.ga K "BadClient") "at" "row" "cause") ∧ Binds K fd ["self", "at", "row", "cause"] [] := by
  obtain ⟨cc, c, fd, S⟩ := supC_of (P := P) (ex_BadClient T) (ws_BadClient T) (by rw [hP.file]; exact x_suBadClient T) (n_super T)
  refine ⟨fd, sup_ok S (N := ["self", "at", "row", "cause", "__class__"]) (ps := ["self", "at", "row", "cause"]) (nscope_by (by decide +kernel)) (by rfl) (by rfl) (by rfl) hP.top (fun vs H Q E h => ?_) (fun A outer s H vs Q E hr h => ?_) (fun L env he => ?_) (fun L => ?_) (fun L => ?_) (fun L env he => ?_), ?_⟩
  · obtain ⟨a, x, y, z, k, l, m, rfl, _⟩ := h; rfl
  · obtain ⟨a, x, y, z, k, l, m, rfl, hx, hy, hz, ha, q⟩ := h
    refine ⟨_, _, a, pe_joined (PJ.cons pe_str (PJ.cons (pe_fmtF hr (pv 1)) (PJ.cons pe_str (PJ.cons (pe_fmtF hr (pv 2)) (PJ.cons pe_str (PJ.cons (pe_fmtF hr (pv 3)) PJ.nil)))))), (pss_cons (ps_ost (pv 0) (pv 1)) (pss_cons (ps_ost (pv 0) (pv 2)) (pss_one (ps_ost (pv 0) (pv 3))))), rfl, ha, ?_⟩
    have t0 : (("unit " : Str)).length = 5 := by decide +kernel
    have t1 : ((", line " : Str)).length = 7 := by decide +kernel
    have t2 : ((": " : Str)).length = 2 := by decide +kernel
    refine ⟨_, rfl, (by apply sz1; simp only [app_len, emp_app, t0, t1, t2]; omega), ?_⟩
    refine ⟨_, rfl, ⟨_, hx⟩, fun m1 lm1 => ⟨_, rfl, (by apply sz1; simp only [app_len, emp_app, t0, t1, t2]; omega), ?_⟩⟩
    refine ⟨_, rfl, (by apply sz1; simp only [app_len, emp_app, t0, t1, t2]; omega), ?_⟩
    refine ⟨_, rfl, ⟨_, hy⟩, fun m3 lm3 => ⟨_, rfl, (by apply sz1; simp only [app_len, emp_app, t0, t1, t2]; omega), ?_⟩⟩
    refine ⟨_, rfl, (by apply sz1; simp only [app_len, emp_app, t0, t1, t2]; omega), ?_⟩
    refine ⟨_, rfl, ⟨_, hz⟩, fun m5 lm5 => ⟨_, rfl, (by apply sz1; simp only [app_len, emp_app, t0, t1, t2]; omega), ?_⟩⟩
    refine ⟨Nat.le_refl _, ha, ?_⟩
    refine ⟨_, rfl, _, rfl, a, _, rfl, (ex_BadClient T).oex, x_no_BadClient_at T, .inl ⟨ha, fun dx hd hne => ?_⟩⟩
    have d0 := er_first (C := He.ga K "BadClient") (l := [("at", x)]) (Kp.refl (H := H) (p := a)) hd hne
    refine ⟨_, rfl, _, rfl, a, _, rfl, (ex_BadClient T).oex, x_no_BadClient_row T, .inr ⟨dx, _, d0.2.1, d0.2.2, by simp, ?_⟩⟩
    have d1 := er_next (l2 := [("row", y), ("at", x)]) hd hne d0
    refine ⟨_, rfl, _, rfl, a, _, rfl, (ex_BadClient T).oex, x_no_BadClient_cause T, .inr ⟨dx, _, d1.2.1, d1.2.2, by simp, ?_⟩⟩
    have d2 := er_next (l2 := [("cause", z), ("row", y), ("at", x)]) hd hne d1
    exact q dx _ d2
  · subst he; exact ⟨_, rfl⟩
  · rfl
  · rfl
  · subst he; rfl
  · obtain ⟨dV, kV, doc, pm, an, ct, e⟩ := S.fdE
    obtain ⟨oc, od, osl, lk⟩ := S.lk
    have hd := dfN_ok lk (x_dfBadClient T)
    subst e
    obtain rfl : dV = Value.none := hd
    exact .all fun us hl => match us, hl with | [_, _, _, _], _ => rfl
theorem ex_BadManner (T : Tx K mg sa sx) : ExB K (He.ga K "BadManner") (He.ma K (He.ga K "BadManner") "__init__") := exB_ok (x_exBadManner T)
theorem ws_BadManner (T : Tx K mg sa sx) : fnWS K (He.ma K (He.ga K "BadManner") "__init__") = some (("__init__" : Str), ("BadManner.__init__" : Str), defArgs s_BadManner_init, FuncBody.stmts (defBody s_BadManner_init), defScope s_BadManner_init, mainGlobals, [("__class__" : Str)], builtinsNs) :=
  congrArg (fun z : List FnWS => z.tail.tail.tail.headD none) T.w
theorem in_BadManner (T : Tx K mg sa sx) (hP : PF P) : ∃ fd, FnOk P w K mg base CX0 4 (He.ma K (He.ga K "BadManner") "__init__") fd ["self", "name"] (spE1 (He.ga K "BadManner") "name") ∧ Binds K fd ["self", "name"] [] := by
  obtain ⟨cc, c, fd, S⟩ := supC_of (P := P) (ex_BadManner T) (ws_BadManner T) (by rw [hP.file]; exact x_suBadManner T) (n_super T)
  refine ⟨fd, sup_ok S (N := ["self", "name", "__class__"]) (ps := ["self", "name"]) (nscope_by (by decide +kernel)) (by rfl) (by rfl) (by rfl) hP.top (fun vs H Q E h => ?_) (fun A outer s H vs Q E hr h => ?_) (fun L env he => ?_) (fun L => ?_) (fun L => ?_) (fun L env he => ?_), ?_⟩
  · obtain ⟨a, x, k, rfl, _⟩ := h; rfl
  · obtain ⟨a, x, k, rfl, hx, ha, q⟩ := h
    refine ⟨_, _, a, pe_joined (PJ.cons pe_str (PJ.cons (pe_fmtRF hr (pv 1)) PJ.nil)), (pss_one (ps_ost (pv 0) (pe_cal (ok_copied T) hr (by decide) (pa_cons (pv 1) pa_nil)))), rfl, ha, ?_⟩
    have t0 : (("no manner: " : Str)).length = 11 := by decide +kernel
    refine ⟨_, rfl, (by apply sz1; simp only [app_len, emp_app, t0]; omega), ?_⟩
    refine ⟨_, rfl, ⟨_, hx⟩, fun m1 lm1 => ⟨_, rfl, (by apply sz1; simp only [app_len, emp_app, t0]; omega), ?_⟩⟩
    refine ⟨Nat.le_refl _, ha, ?_⟩
    refine ⟨_, rfl, _, _, rfl, hx, fun y H1 s1 hy => ?_⟩
    refine ⟨_, rfl, a, _, rfl, (ex_BadManner T).oex, x_no_BadManner_name T, .inl ⟨s1 _ _ ha, fun dx hd hne => ?_⟩⟩
    have dn := er_first (C := He.ga K "BadManner") (l := [("name", y)]) (s1.kp (p := a)) hd hne
    exact q y dx _ (fd_kp (s1 _ _ ha) (er_first (Kp.refl (H := H1)) hd hne).1 hy) dn
  · subst he; exact ⟨_, rfl⟩
  · rfl
  · rfl
  · subst he; rfl
  · obtain ⟨dV, kV, doc, pm, an, ct, e⟩ := S.fdE
    obtain ⟨oc, od, osl, lk⟩ := S.lk
    have hd := dfN_ok lk (x_dfBadManner T)
    subst e
    obtain rfl : dV = Value.none := hd
    exact .all fun us hl => match us, hl with | [_, _], _ => rfl
theorem ex_BadMoment (T : Tx K mg sa sx) : ExB K (He.ga K "BadMoment") (He.ma K (He.ga K "BadMoment") "__init__") := exB_ok (x_exBadMoment T)
theorem ws_BadMoment (T : Tx K mg sa sx) : fnWS K (He.ma K (He.ga K "BadMoment") "__init__") = some (("__init__" : Str), ("BadMoment.__init__" : Str), defArgs s_BadMoment_init, FuncBody.stmts (defBody s_BadMoment_init), defScope s_BadMoment_init, mainGlobals, [("__class__" : Str)], builtinsNs) :=
  congrArg (fun z : List FnWS => z.tail.tail.tail.tail.headD none) T.w
theorem in_BadMoment (T : Tx K mg sa sx) (hP : PF P) : ∃ fd, FnOk P w K mg base CX0 4 (He.ma K (He.ga K "BadMoment") "__init__") fd ["self", "moment"] (spE1 (He.ga K "BadMoment") "moment") ∧ Binds K fd ["self", "moment"] [] := by
  obtain ⟨cc, c, fd, S⟩ := supC_of (P := P) (ex_BadMoment T) (ws_BadMoment T) (by rw [hP.file]; exact x_suBadMoment T) (n_super T)
  refine ⟨fd, sup_ok S (N := ["self", "moment", "__class__"]) (ps := ["self", "moment"]) (nscope_by (by decide +kernel)) (by rfl) (by rfl) (by rfl) hP.top (fun vs H Q E h => ?_) (fun A outer s H vs Q E hr h => ?_) (fun L env he => ?_) (fun L => ?_) (fun L => ?_) (fun L env he => ?_), ?_⟩
  · obtain ⟨a, x, k, rfl, _⟩ := h; rfl
  · obtain ⟨a, x, k, rfl, hx, ha, q⟩ := h
    refine ⟨_, _, a, pe_joined (PJ.cons pe_str (PJ.cons (pe_fmtRF hr (pv 1)) PJ.nil)), (pss_one (ps_ost (pv 0) (pe_cal (ok_copied T) hr (by decide) (pa_cons (pv 1) pa_nil)))), rfl, ha, ?_⟩
    have t0 : (("no moment: " : Str)).length = 11 := by decide +kernel
    refine ⟨_, rfl, (by apply sz1; simp only [app_len, emp_app, t0]; omega), ?_⟩
    refine ⟨_, rfl, ⟨_, hx⟩, fun m1 lm1 => ⟨_, rfl, (by apply sz1; simp only [app_len, emp_app, t0]; omega), ?_⟩⟩
    refine ⟨Nat.le_refl _, ha, ?_⟩
    refine ⟨_, rfl, _, _, rfl, hx, fun y H1 s1 hy => ?_⟩
    refine ⟨_, rfl, a, _, rfl, (ex_BadMoment T).oex, x_no_BadMoment_moment T, .inl ⟨s1 _ _ ha, fun dx hd hne => ?_⟩⟩
    have dn := er_first (C := He.ga K "BadMoment") (l := [("moment", y)]) (s1.kp (p := a)) hd hne
    exact q y dx _ (fd_kp (s1 _ _ ha) (er_first (Kp.refl (H := H1)) hd hne).1 hy) dn
  · subst he; exact ⟨_, rfl⟩
  · rfl
  · rfl
  · subst he; rfl
  · obtain ⟨dV, kV, doc, pm, an, ct, e⟩ := S.fdE
    obtain ⟨oc, od, osl, lk⟩ := S.lk
    have hd := dfN_ok lk (x_dfBadMoment T)
    subst e
    obtain rfl : dV = Value.none := hd
    exact .all fun us hl => match us, hl with | [_, _], _ => rfl
theorem ex_NotAssembled (T : Tx K mg sa sx) : ExB K (He.ga K "NotAssembled") (He.ma K (He.ga K "NotAssembled") "__init__") := exB_ok (x_exNotAssembled T)
theorem ws_NotAssembled (T : Tx K mg sa sx) : fnWS K (He.ma K (He.ga K "NotAssembled") "__init__") = some (("__init__" : Str), ("NotAssembled.__init__" : Str), defArgs s_NotAssembled_init, FuncBody.stmts (defBody s_NotAssembled_init), defScope s_NotAssembled_init, mainGlobals, [("__class__" : Str)], builtinsNs) :=
  congrArg (fun z : List FnWS => z.tail.tail.tail.tail.tail.headD none) T.w
theorem in_NotAssembled (T : Tx K mg sa sx) (hP : PF P) : ∃ fd, FnOk P w K mg base CX0 2 (He.ma K (He.ga K "NotAssembled") "__init__") fd ["self", "unit", "name"] (spE2 (He.ga K "NotAssembled") "unit" "name") ∧ Binds K fd ["self", "unit", "name"] [] := by
  obtain ⟨cc, c, fd, S⟩ := supC_of (P := P) (ex_NotAssembled T) (ws_NotAssembled T) (by rw [hP.file]; exact x_suNotAssembled T) (n_super T)
  refine ⟨fd, sup_ok S (N := ["self", "unit", "name", "__class__"]) (ps := ["self", "unit", "name"]) (nscope_by (by decide +kernel)) (by rfl) (by rfl) (by rfl) hP.top (fun vs H Q E h => ?_) (fun A outer s H vs Q E hr h => ?_) (fun L env he => ?_) (fun L => ?_) (fun L => ?_) (fun L env he => ?_), ?_⟩
  · obtain ⟨a, x, y, k, l, rfl, _⟩ := h; rfl
  · obtain ⟨a, x, y, k, l, rfl, hx, hy, ha, q⟩ := h
    refine ⟨_, _, a, pe_joined (PJ.cons pe_str (PJ.cons (pe_fmtF hr (pv 1)) (PJ.cons pe_str (PJ.cons (pe_fmtF hr (pv 2)) PJ.nil)))), (pss_cons (ps_ost (pv 0) (pv 1)) (pss_one (ps_ost (pv 0) (pv 2)))), rfl, ha, ?_⟩
    have t0 : (("unit " : Str)).length = 5 := by decide +kernel
    have t1 : ((": no number " : Str)).length = 12 := by decide +kernel
    refine ⟨_, rfl, (by apply sz1; simp only [app_len, emp_app, t0, t1]; omega), ?_⟩
    refine ⟨_, rfl, ⟨_, hx⟩, fun m1 lm1 => ⟨_, rfl, (by apply sz1; simp only [app_len, emp_app, t0, t1]; omega), ?_⟩⟩
    refine ⟨_, rfl, (by apply sz1; simp only [app_len, emp_app, t0, t1]; omega), ?_⟩
    refine ⟨_, rfl, ⟨_, hy⟩, fun m3 lm3 => ⟨_, rfl, (by apply sz1; simp only [app_len, emp_app, t0, t1]; omega), ?_⟩⟩
    refine ⟨Nat.le_refl _, ha, ?_⟩
    refine ⟨_, rfl, _, rfl, a, _, rfl, (ex_NotAssembled T).oex, x_no_NotAssembled_unit T, .inl ⟨ha, fun dx hd hne => ?_⟩⟩
    have d0 := er_first (C := He.ga K "NotAssembled") (l := [("unit", x)]) (Kp.refl (H := H) (p := a)) hd hne
    refine ⟨_, rfl, _, rfl, a, _, rfl, (ex_NotAssembled T).oex, x_no_NotAssembled_name T, .inr ⟨dx, _, d0.2.1, d0.2.2, by simp, ?_⟩⟩
    have d1 := er_next (l2 := [("name", y), ("unit", x)]) hd hne d0
    exact q dx _ d1
  · subst he; exact ⟨_, rfl⟩
  · rfl
  · rfl
  · subst he; rfl
  · obtain ⟨dV, kV, doc, pm, an, ct, e⟩ := S.fdE
    obtain ⟨oc, od, osl, lk⟩ := S.lk
    have hd := dfN_ok lk (x_dfNotAssembled T)
    subst e
    obtain rfl : dV = Value.none := hd
    exact .all fun us hl => match us, hl with | [_, _, _], _ => rfl
theorem ex_NotLinked (T : Tx K mg sa sx) : ExB K (He.ga K "NotLinked") (He.ma K (He.ga K "NotLinked") "__init__") := exB_ok (x_exNotLinked T)
theorem ws_NotLinked (T : Tx K mg sa sx) : fnWS K (He.ma K (He.ga K "NotLinked") "__init__") = some (("__init__" : Str), ("NotLinked.__init__" : Str), defArgs s_NotLinked_init, FuncBody.stmts (defBody s_NotLinked_init), defScope s_NotLinked_init, mainGlobals, [("__class__" : Str)], builtinsNs) :=
  congrArg (fun z : List FnWS => z.tail.tail.tail.tail.tail.tail.headD none) T.w
theorem in_NotLinked (T : Tx K mg sa sx) (hP : PF P) : ∃ fd, FnOk P w K mg base CX0 2 (He.ma K (He.ga K "NotLinked") "__init__") fd ["self", "cause", "unit", "name"] (spE3 (He.ga K "NotLinked") "cause" "unit" "name") ∧ Binds K fd ["self", "cause", "unit", "name"] [] := by
  obtain ⟨cc, c, fd, S⟩ := supC_of (P := P) (ex_NotLinked T) (ws_NotLinked T) (by rw [hP.file]; exact x_suNotLinked T) (n_super T)
  refine ⟨fd, sup_ok S (N := ["self", "cause", "unit", "name", "__class__"]) (ps := ["self", "cause", "unit", "name"]) (nscope_by (by decide +kernel)) (by rfl) (by rfl) (by rfl) hP.top (fun vs H Q E h => ?_) (fun A outer s H vs Q E hr h => ?_) (fun L env he => ?_) (fun L => ?_) (fun L => ?_) (fun L env he => ?_), ?_⟩
  · obtain ⟨a, x, y, z, k, l, m, rfl, _⟩ := h; rfl
  · obtain ⟨a, x, y, z, k, l, m, rfl, hx, hy, hz, ha, q⟩ := h
    refine ⟨_, _, a, pe_joined (PJ.cons pe_str (PJ.cons (pe_fmtF hr (pv 1)) (PJ.cons pe_str (PJ.cons (pe_fmtRF hr (pv 2)) (PJ.cons pe_str (PJ.cons (pe_fmtRF hr (pv 3)) PJ.nil)))))), (pss_cons (ps_ost (pv 0) (pv 1)) (pss_cons (ps_ost (pv 0) (pv 2)) (pss_one (ps_ost (pv 0) (pv 3))))), rfl, ha, ?_⟩
    have t0 : (("not linked: " : Str)).length = 12 := by decide +kernel
    have t1 : ((", unit " : Str)).length = 7 := by decide +kernel
    have t2 : ((", name " : Str)).length = 7 := by decide +kernel
    refine ⟨_, rfl, (by apply sz1; simp only [app_len, emp_app, t0, t1, t2]; omega), ?_⟩
    refine ⟨_, rfl, ⟨_, hx⟩, fun m1 lm1 => ⟨_, rfl, (by apply sz1; simp only [app_len, emp_app, t0, t1, t2]; omega), ?_⟩⟩
    refine ⟨_, rfl, (by apply sz1; simp only [app_len, emp_app, t0, t1, t2]; omega), ?_⟩
    refine ⟨_, rfl, ⟨_, hy⟩, fun m3 lm3 => ⟨_, rfl, (by apply sz1; simp only [app_len, emp_app, t0, t1, t2]; omega), ?_⟩⟩
    refine ⟨_, rfl, (by apply sz1; simp only [app_len, emp_app, t0, t1, t2]; omega), ?_⟩
    refine ⟨_, rfl, ⟨_, hz⟩, fun m5 lm5 => ⟨_, rfl, (by apply sz1; simp only [app_len, emp_app, t0, t1, t2]; omega), ?_⟩⟩
    refine ⟨Nat.le_refl _, ha, ?_⟩
    refine ⟨_, rfl, _, rfl, a, _, rfl, (ex_NotLinked T).oex, x_no_NotLinked_cause T, .inl ⟨ha, fun dx hd hne => ?_⟩⟩
    have d0 := er_first (C := He.ga K "NotLinked") (l := [("cause", x)]) (Kp.refl (H := H) (p := a)) hd hne
    refine ⟨_, rfl, _, rfl, a, _, rfl, (ex_NotLinked T).oex, x_no_NotLinked_unit T, .inr ⟨dx, _, d0.2.1, d0.2.2, by simp, ?_⟩⟩
    have d1 := er_next (l2 := [("unit", y), ("cause", x)]) hd hne d0
    refine ⟨_, rfl, _, rfl, a, _, rfl, (ex_NotLinked T).oex, x_no_NotLinked_name T, .inr ⟨dx, _, d1.2.1, d1.2.2, by simp, ?_⟩⟩
    have d2 := er_next (l2 := [("name", z), ("unit", y), ("cause", x)]) hd hne d1
    exact q dx _ d2
  · subst he; exact ⟨_, rfl⟩
  · rfl
  · rfl
  · subst he; rfl
  · obtain ⟨dV, kV, doc, pm, an, ct, e⟩ := S.fdE
    obtain ⟨oc, od, osl, lk⟩ := S.lk
    have hd := dfN_ok lk (x_dfNotLinked T)
    subst e
    obtain rfl : dV = Value.none := hd
    exact .all fun us hl => match us, hl with | [_, _, _, _], _ => rfl
theorem ex_NotLoaded (T : Tx K mg sa sx) : ExB K (He.ga K "NotLoaded") (He.ma K (He.ga K "NotLoaded") "__init__") := exB_ok (x_exNotLoaded T)
theorem ws_NotLoaded (T : Tx K mg sa sx) : fnWS K (He.ma K (He.ga K "NotLoaded") "__init__") = some (("__init__" : Str), ("NotLoaded.__init__" : Str), defArgs s_NotLoaded_init, FuncBody.stmts (defBody s_NotLoaded_init), defScope s_NotLoaded_init, mainGlobals, [("__class__" : Str)], builtinsNs) :=
  congrArg (fun z : List FnWS => z.tail.tail.tail.tail.tail.tail.tail.headD none) T.w
theorem in_NotLoaded (T : Tx K mg sa sx) (hP : PF P) : ∃ fd, FnOk P w K mg base CX0 2 (He.ma K (He.ga K "NotLoaded") "__init__") fd ["self", "cause", "unit", "name"] (spE3 (He.ga K "NotLoaded") "cause" "unit" "name") ∧ Binds K fd ["self", "cause", "unit", "name"] [] := by
  obtain ⟨cc, c, fd, S⟩ := supC_of (P := P) (ex_NotLoaded T) (ws_NotLoaded T) (by rw [hP.file]; exact x_suNotLoaded T) (n_super T)
  refine ⟨fd, sup_ok S (N := ["self", "cause", "unit", "name", "__class__"]) (ps := ["self", "cause", "unit", "name"]) (nscope_by (by decide +kernel)) (by rfl) (by rfl) (by rfl) hP.top (fun vs H Q E h => ?_) (fun A outer s H vs Q E hr h => ?_) (fun L env he => ?_) (fun L => ?_) (fun L => ?_) (fun L env he => ?_), ?_⟩
  · obtain ⟨a, x, y, z, k, l, m, rfl, _⟩ := h; rfl
  · obtain ⟨a, x, y, z, k, l, m, rfl, hx, hy, hz, ha, q⟩ := h
    refine ⟨_, _, a, pe_joined (PJ.cons pe_str (PJ.cons (pe_fmtF hr (pv 1)) (PJ.cons pe_str (PJ.cons (pe_fmtRF hr (pv 2)) (PJ.cons pe_str (PJ.cons (pe_fmtRF hr (pv 3)) PJ.nil)))))), (pss_cons (ps_ost (pv 0) (pv 1)) (pss_cons (ps_ost (pv 0) (pv 2)) (pss_one (ps_ost (pv 0) (pv 3))))), rfl, ha, ?_⟩
    have t0 : (("not loaded: " : Str)).length = 12 := by decide +kernel
    have t1 : ((", unit " : Str)).length = 7 := by decide +kernel
    have t2 : ((", name " : Str)).length = 7 := by decide +kernel
    refine ⟨_, rfl, (by apply sz1; simp only [app_len, emp_app, t0, t1, t2]; omega), ?_⟩
    refine ⟨_, rfl, ⟨_, hx⟩, fun m1 lm1 => ⟨_, rfl, (by apply sz1; simp only [app_len, emp_app, t0, t1, t2]; omega), ?_⟩⟩
    refine ⟨_, rfl, (by apply sz1; simp only [app_len, emp_app, t0, t1, t2]; omega), ?_⟩
    refine ⟨_, rfl, ⟨_, hy⟩, fun m3 lm3 => ⟨_, rfl, (by apply sz1; simp only [app_len, emp_app, t0, t1, t2]; omega), ?_⟩⟩
    refine ⟨_, rfl, (by apply sz1; simp only [app_len, emp_app, t0, t1, t2]; omega), ?_⟩
    refine ⟨_, rfl, ⟨_, hz⟩, fun m5 lm5 => ⟨_, rfl, (by apply sz1; simp only [app_len, emp_app, t0, t1, t2]; omega), ?_⟩⟩
    refine ⟨Nat.le_refl _, ha, ?_⟩
    refine ⟨_, rfl, _, rfl, a, _, rfl, (ex_NotLoaded T).oex, x_no_NotLoaded_cause T, .inl ⟨ha, fun dx hd hne => ?_⟩⟩
    have d0 := er_first (C := He.ga K "NotLoaded") (l := [("cause", x)]) (Kp.refl (H := H) (p := a)) hd hne
    refine ⟨_, rfl, _, rfl, a, _, rfl, (ex_NotLoaded T).oex, x_no_NotLoaded_unit T, .inr ⟨dx, _, d0.2.1, d0.2.2, by simp, ?_⟩⟩
    have d1 := er_next (l2 := [("unit", y), ("cause", x)]) hd hne d0
    refine ⟨_, rfl, _, rfl, a, _, rfl, (ex_NotLoaded T).oex, x_no_NotLoaded_name T, .inr ⟨dx, _, d1.2.1, d1.2.2, by simp, ?_⟩⟩
    have d2 := er_next (l2 := [("name", z), ("unit", y), ("cause", x)]) hd hne d1
    exact q dx _ d2
  · subst he; exact ⟨_, rfl⟩
  · rfl
  · rfl
  · subst he; rfl
  · obtain ⟨dV, kV, doc, pm, an, ct, e⟩ := S.fdE
    obtain ⟨oc, od, osl, lk⟩ := S.lk
    have hd := dfN_ok lk (x_dfNotLoaded T)
    subst e
    obtain rfl : dV = Value.none := hd
    exact .all fun us hl => match us, hl with | [_, _, _, _], _ => rfl
theorem ex_BadRenaming (T : Tx K mg sa sx) : ExB K (He.ga K "BadRenaming") (He.ma K (He.ga K "BadRenaming") "__init__") := exB_ok (x_exBadRenaming T)
theorem ws_BadRenaming (T : Tx K mg sa sx) : fnWS K (He.ma K (He.ga K "BadRenaming") "__init__") = some (("__init__" : Str), ("BadRenaming.__init__" : Str), defArgs s_BadRenaming_init, FuncBody.stmts (defBody s_BadRenaming_init), defScope s_BadRenaming_init, mainGlobals, [("__class__" : Str)], builtinsNs) :=
  congrArg (fun z : List FnWS => z.tail.tail.tail.tail.tail.tail.tail.tail.headD none) T.w
theorem in_BadRenaming (T : Tx K mg sa sx) (hP : PF P) : ∃ fd, FnOk P w K mg base CX0 2 (He.ma K (He.ga K "BadRenaming") "__init__") fd ["self", "at"] (spE1 (He.ga K "BadRenaming") "at") ∧ Binds K fd ["self", "at"] [] := by
  obtain ⟨cc, c, fd, S⟩ := supC_of (P := P) (ex_BadRenaming T) (ws_BadRenaming T) (by rw [hP.file]; exact x_suBadRenaming T) (n_super T)
  refine ⟨fd, sup_ok S (N := ["self", "at", "__class__"]) (ps := ["self", "at"]) (nscope_by (by decide +kernel)) (by rfl) (by rfl) (by rfl) hP.top (fun vs H Q E h => ?_) (fun A outer s H vs Q E hr h => ?_) (fun L env he => ?_) (fun L => ?_) (fun L => ?_) (fun L env he => ?_), ?_⟩
  · obtain ⟨a, x, k, rfl, _⟩ := h; rfl
  · obtain ⟨a, x, k, rfl, hx, ha, q⟩ := h
    refine ⟨_, _, a, pe_joined (PJ.cons pe_str (PJ.cons (pe_fmtF hr (pv 1)) PJ.nil)), (pss_one (ps_ost (pv 0) (pv 1))), rfl, ha, ?_⟩
    have t0 : (("no renaming: pair " : Str)).length = 18 := by decide +kernel
    refine ⟨_, rfl, (by apply sz1; simp only [app_len, emp_app, t0]; omega), ?_⟩
    refine ⟨_, rfl, ⟨_, hx⟩, fun m1 lm1 => ⟨_, rfl, (by apply sz1; simp only [app_len, emp_app, t0]; omega), ?_⟩⟩
    refine ⟨Nat.le_refl _, ha, ?_⟩
    refine ⟨_, rfl, _, rfl, a, _, rfl, (ex_BadRenaming T).oex, x_no_BadRenaming_at T, .inl ⟨ha, fun dx hd hne => ?_⟩⟩
    have d0 := er_first (C := He.ga K "BadRenaming") (l := [("at", x)]) (Kp.refl (H := H) (p := a)) hd hne
    exact q x dx _ (fd_kp ha d0.1 hx) d0
  · subst he; exact ⟨_, rfl⟩
  · rfl
  · rfl
  · subst he; rfl
  · obtain ⟨dV, kV, doc, pm, an, ct, e⟩ := S.fdE
    obtain ⟨oc, od, osl, lk⟩ := S.lk
    have hd := dfN_ok lk (x_dfBadRenaming T)
    subst e
    obtain rfl : dV = Value.none := hd
    exact .all fun us hl => match us, hl with | [_, _], _ => rfl
theorem ex_TooMany (T : Tx K mg sa sx) : ExB K (He.ga K "TooMany") (He.ma K (He.ga K "TooMany") "__init__") := exB_ok (x_exTooMany T)
theorem ws_TooMany (T : Tx K mg sa sx) : fnWS K (He.ma K (He.ga K "TooMany") "__init__") = some (("__init__" : Str), ("TooMany.__init__" : Str), defArgs s_TooMany_init, FuncBody.stmts (defBody s_TooMany_init), defScope s_TooMany_init, mainGlobals, [("__class__" : Str)], builtinsNs) :=
  congrArg (fun z : List FnWS => z.tail.tail.tail.tail.tail.tail.tail.tail.tail.headD none) T.w
theorem in_TooMany (T : Tx K mg sa sx) (hP : PF P) : ∃ fd, FnOk P w K mg base CX0 2 (He.ma K (He.ga K "TooMany") "__init__") fd ["self", "what"] (spE1 (He.ga K "TooMany") "what") ∧ Binds K fd ["self", "what"] [] := by
  obtain ⟨cc, c, fd, S⟩ := supC_of (P := P) (ex_TooMany T) (ws_TooMany T) (by rw [hP.file]; exact x_suTooMany T) (n_super T)
  refine ⟨fd, sup_ok S (N := ["self", "what", "__class__"]) (ps := ["self", "what"]) (nscope_by (by decide +kernel)) (by rfl) (by rfl) (by rfl) hP.top (fun vs H Q E h => ?_) (fun A outer s H vs Q E hr h => ?_) (fun L env he => ?_) (fun L => ?_) (fun L => ?_) (fun L env he => ?_), ?_⟩
  · obtain ⟨a, x, k, rfl, _⟩ := h; rfl
  · obtain ⟨a, x, k, rfl, hx, ha, q⟩ := h
    refine ⟨_, _, a, pe_joined (PJ.cons pe_str (PJ.cons (pe_fmtF hr (pv 1)) PJ.nil)), (pss_one (ps_ost (pv 0) (pv 1))), rfl, ha, ?_⟩
    have t0 : (("too many " : Str)).length = 9 := by decide +kernel
    refine ⟨_, rfl, (by apply sz1; simp only [app_len, emp_app, t0]; omega), ?_⟩
    refine ⟨_, rfl, ⟨_, hx⟩, fun m1 lm1 => ⟨_, rfl, (by apply sz1; simp only [app_len, emp_app, t0]; omega), ?_⟩⟩
    refine ⟨Nat.le_refl _, ha, ?_⟩
    refine ⟨_, rfl, _, rfl, a, _, rfl, (ex_TooMany T).oex, x_no_TooMany_what T, .inl ⟨ha, fun dx hd hne => ?_⟩⟩
    have d0 := er_first (C := He.ga K "TooMany") (l := [("what", x)]) (Kp.refl (H := H) (p := a)) hd hne
    exact q x dx _ (fd_kp ha d0.1 hx) d0
  · subst he; exact ⟨_, rfl⟩
  · rfl
  · rfl
  · subst he; rfl
  · obtain ⟨dV, kV, doc, pm, an, ct, e⟩ := S.fdE
    obtain ⟨oc, od, osl, lk⟩ := S.lk
    have hd := dfN_ok lk (x_dfTooMany T)
    subst e
    obtain rfl : dV = Value.none := hd
    exact .all fun us hl => match us, hl with | [_, _], _ => rfl
theorem ex_BadHouse (T : Tx K mg sa sx) : ExB K (He.ga K "BadHouse") (He.ma K (He.ga K "BadHouse") "__init__") := exB_ok (x_exBadHouse T)
theorem ws_BadHouse (T : Tx K mg sa sx) : fnWS K (He.ma K (He.ga K "BadHouse") "__init__") = some (("__init__" : Str), ("BadHouse.__init__" : Str), defArgs s_BadHouse_init, FuncBody.stmts (defBody s_BadHouse_init), defScope s_BadHouse_init, mainGlobals, [("__class__" : Str)], builtinsNs) :=
  congrArg (fun z : List FnWS => z.tail.tail.tail.tail.tail.tail.tail.tail.tail.tail.headD none) T.w
theorem in_BadHouse (T : Tx K mg sa sx) (hP : PF P) : ∃ fd, FnOk P w K mg base CX0 2 (He.ma K (He.ga K "BadHouse") "__init__") fd ["self", "at"] (spE1 (He.ga K "BadHouse") "at") ∧ Binds K fd ["self", "at"] [] := by
  obtain ⟨cc, c, fd, S⟩ := supC_of (P := P) (ex_BadHouse T) (ws_BadHouse T) (by rw [hP.file]; exact x_suBadHouse T) (n_super T)
  refine ⟨fd, sup_ok S (N := ["self", "at", "__class__"]) (ps := ["self", "at"]) (nscope_by (by decide +kernel)) (by rfl) (by rfl) (by rfl) hP.top (fun vs H Q E h => ?_) (fun A outer s H vs Q E hr h => ?_) (fun L env he => ?_) (fun L => ?_) (fun L => ?_) (fun L env he => ?_), ?_⟩
  · obtain ⟨a, x, k, rfl, _⟩ := h; rfl
  · obtain ⟨a, x, k, rfl, hx, ha, q⟩ := h
    refine ⟨_, _, a, pe_joined (PJ.cons pe_str (PJ.cons (pe_fmtF hr (pv 1)) PJ.nil)), (pss_one (ps_ost (pv 0) (pv 1))), rfl, ha, ?_⟩
    have t0 : (("no house: edition " : Str)).length = 18 := by decide +kernel
    refine ⟨_, rfl, (by apply sz1; simp only [app_len, emp_app, t0]; omega), ?_⟩
    refine ⟨_, rfl, ⟨_, hx⟩, fun m1 lm1 => ⟨_, rfl, (by apply sz1; simp only [app_len, emp_app, t0]; omega), ?_⟩⟩
    refine ⟨Nat.le_refl _, ha, ?_⟩
    refine ⟨_, rfl, _, rfl, a, _, rfl, (ex_BadHouse T).oex, x_no_BadHouse_at T, .inl ⟨ha, fun dx hd hne => ?_⟩⟩
    have d0 := er_first (C := He.ga K "BadHouse") (l := [("at", x)]) (Kp.refl (H := H) (p := a)) hd hne
    exact q x dx _ (fd_kp ha d0.1 hx) d0
  · subst he; exact ⟨_, rfl⟩
  · rfl
  · rfl
  · subst he; rfl
  · obtain ⟨dV, kV, doc, pm, an, ct, e⟩ := S.fdE
    obtain ⟨oc, od, osl, lk⟩ := S.lk
    have hd := dfN_ok lk (x_dfBadHouse T)
    subst e
    obtain rfl : dV = Value.none := hd
    exact .all fun us hl => match us, hl with | [_, _], _ => rfl
theorem ex_BadMend (T : Tx K mg sa sx) : ExB K (He.ga K "BadMend") (He.ma K (He.ga K "BadMend") "__init__") := exB_ok (x_exBadMend T)
theorem ws_BadMend (T : Tx K mg sa sx) : fnWS K (He.ma K (He.ga K "BadMend") "__init__") = some (("__init__" : Str), ("BadMend.__init__" : Str), defArgs s_BadMend_init, FuncBody.stmts (defBody s_BadMend_init), defScope s_BadMend_init, mainGlobals, [("__class__" : Str)], builtinsNs) :=
  congrArg (fun z : List FnWS => z.tail.tail.tail.tail.tail.tail.tail.tail.tail.tail.tail.headD none) T.w
theorem in_BadMend (T : Tx K mg sa sx) (hP : PF P) : ∃ fd, FnOk P w K mg base CX0 2 (He.ma K (He.ga K "BadMend") "__init__") fd ["self", "at", "cause"] (spE2 (He.ga K "BadMend") "at" "cause") ∧ Binds K fd ["self", "at", "cause"] [] := by
  obtain ⟨cc, c, fd, S⟩ := supC_of (P := P) (ex_BadMend T) (ws_BadMend T) (by rw [hP.file]; exact x_suBadMend T) (n_super T)
  refine ⟨fd, sup_ok S (N := ["self", "at", "cause", "__class__"]) (ps := ["self", "at", "cause"]) (nscope_by (by decide +kernel)) (by rfl) (by rfl) (by rfl) hP.top (fun vs H Q E h => ?_) (fun A outer s H vs Q E hr h => ?_) (fun L env he => ?_) (fun L => ?_) (fun L => ?_) (fun L env he => ?_), ?_⟩
  · obtain ⟨a, x, y, k, l, rfl, _⟩ := h; rfl
  · obtain ⟨a, x, y, k, l, rfl, hx, hy, ha, q⟩ := h
    refine ⟨_, _, a, pe_joined (PJ.cons pe_str (PJ.cons (pe_fmtF hr (pv 1)) (PJ.cons pe_str (PJ.cons (pe_fmtF hr (pv 2)) PJ.nil)))), (pss_cons (ps_ost (pv 0) (pv 1)) (pss_one (ps_ost (pv 0) (pv 2)))), rfl, ha, ?_⟩
    have t0 : (("mend " : Str)).length = 5 := by decide +kernel
    have t1 : ((": " : Str)).length = 2 := by decide +kernel
    refine ⟨_, rfl, (by apply sz1; simp only [app_len, emp_app, t0, t1]; omega), ?_⟩
    refine ⟨_, rfl, ⟨_, hx⟩, fun m1 lm1 => ⟨_, rfl, (by apply sz1; simp only [app_len, emp_app, t0, t1]; omega), ?_⟩⟩
    refine ⟨_, rfl, (by apply sz1; simp only [app_len, emp_app, t0, t1]; omega), ?_⟩
    refine ⟨_, rfl, ⟨_, hy⟩, fun m3 lm3 => ⟨_, rfl, (by apply sz1; simp only [app_len, emp_app, t0, t1]; omega), ?_⟩⟩
    refine ⟨Nat.le_refl _, ha, ?_⟩
    refine ⟨_, rfl, _, rfl, a, _, rfl, (ex_BadMend T).oex, x_no_BadMend_at T, .inl ⟨ha, fun dx hd hne => ?_⟩⟩
    have d0 := er_first (C := He.ga K "BadMend") (l := [("at", x)]) (Kp.refl (H := H) (p := a)) hd hne
    refine ⟨_, rfl, _, rfl, a, _, rfl, (ex_BadMend T).oex, x_no_BadMend_cause T, .inr ⟨dx, _, d0.2.1, d0.2.2, by simp, ?_⟩⟩
    have d1 := er_next (l2 := [("cause", y), ("at", x)]) hd hne d0
    exact q dx _ d1
  · subst he; exact ⟨_, rfl⟩
  · rfl
  · rfl
  · subst he; rfl
  · obtain ⟨dV, kV, doc, pm, an, ct, e⟩ := S.fdE
    obtain ⟨oc, od, osl, lk⟩ := S.lk
    have hd := dfN_ok lk (x_dfBadMend T)
    subst e
    obtain rfl : dV = Value.none := hd
    exact .all fun us hl => match us, hl with | [_, _, _], _ => rfl
end
end K88
namespace K88
open PySem PySem.Spec PyProof.Rows Cm
open L2 hiding Same
/-! ### drawing -/
def spDraw (K : PySem.W.Frag) (sa : Addr) (sx : List Int) : Sp := fun vs H Q _ => ∃ (p : Addr) (m : Int), vs = [.ref p, .int m] ∧ 0 < m ∧ IntOk m ∧ PoolAt K sa sx H p ∧ ∀ k H', 0 ≤ k → k < m → Kp p H H' → PoolAt K sa sx H' p → Q (.int k) H'
def spPick (K : PySem.W.Frag) (sa : Addr) (sx : List Int) : Sp := fun vs H Q _ => ∃ (p a : Addr) (xs : List V), vs = [.ref p, .ref a] ∧ H a = some (.lst xs) ∧ xs ≠ [] ∧ xs.length ≤ 100 ∧ a ≠ p ∧ PoolAt K sa sx H p ∧ ∀ v H', v ∈ xs → Kp p H H' → PoolAt K sa sx H' p → Q v H'
def spNum (K : PySem.W.Frag) (sa : Addr) (sx : List Int) : Sp := fun vs H Q _ => ∃ (p : Addr), vs = [.ref p] ∧ PoolAt K sa sx H p ∧ ∀ n H', n.natAbs ≤ 1000000000 → Kp p H H' → PoolAt K sa sx H' p → Q (.int n) H'
def spField (K : PySem.W.Frag) (sa : Addr) (sx : List Int) : Sp := fun vs H Q _ => ∃ (p : Addr), vs = [.ref p] ∧ PoolAt K sa sx H p ∧ ∀ v k H', FdAt H' v k → Kp p H H' → PoolAt K sa sx H' p → Q v H'
theorem nil_str : ∀ c ∈ (("" : Str)).cps.toList, c < 128 := by decide +kernel
theorem ab_str : ∀ c ∈ (("a b" : Str)).cps.toList, c < 128 := by decide +kernel
theorem many_str : ∀ c ∈ (("many" : Str)).cps.toList, c < 128 := by decide +kernel
section
variable {P : Program} {w : World} {K : PySem.W.Frag} {mg : Str → Option Value} {base : Heap} {sa : Addr} {sx : List Int}
theorem ok_l_draw (T : Tx K mg sa sx) : Cal P w K mg base 1 "_law_draw" (spDraw K sa sx) := by
  obtain ⟨fd, F⟩ := f_l_draw T
  refine ⟨_, fd, ["_law_pool", "_law_many"], fnok F sc_l_draw (fun vs H Q E h => ?_) (fun cdv A outer s H vs Q E hr h => ?_), F.bindsN fun _ _ _ _ _ _ us hl => match us, hl with | [_, _], _ => rfl, g__law_draw T, F.kp⟩
  · obtain ⟨p, m, rfl, _⟩ := h; rfl
  · obtain ⟨p, m, rfl, m0, mo, ⟨i, b, s, hp, na, hS, i0, b0, s0, s1⟩, k⟩ := h
    refine ⟨_, (pss_cons (ps_if (pt_cmpR op_lt (pe_ix ix_list (pv 0) pe_int (fun _ _ => rfl)) pe_int (nomark _)) (pss_cons (ps_set (i := 2) sc_l_draw.nd rfl (by first | exact Or.inl rfl | exact Or.inr rfl) pe_int)
      (pss_cons (ps_if (pt_cmpR op_lt (pe_ix ix_list (pv 0) pe_int (fun _ _ => rfl)) (pe_callB (id := "len") call_len_seq rfl (n_len T) (by decide +kernel) (pa_cons (pe_ix ix_list (pv 0) pe_int (fun _ _ => rfl)) pa_nil)) (nomark _)) (pss_one (ps_set (i := 2) sc_l_draw.nd rfl (by first | exact Or.inl rfl | exact Or.inr rfl) (pe_ix ix_list (pe_ix ix_list (pv 0) pe_int (fun _ _ => rfl)) (pe_ix ix_list (pv 0) pe_int (fun _ _ => rfl)) (fun _ _ => rfl)))) pss_nil)
      (pss_cons (ps_asg (pe_op op_add (pe_ix ix_list (pv 0) pe_int (fun _ _ => rfl)) pe_int) (pg_sub (pv 0) pe_int set_list))
      (pss_cons (ps_if (pt_cmpR op_lt (pv 2) (pe_op op_pow pe_int pe_int) (nomark _)) (pss_cons (ps_asg (pe_op op_mod (pe_callTy (T := "int") call_int1 rfl (n_int T) (by decide +kernel) (pa_cons (pe_op op_add (pe_op op_add (pe_op op_add (pe_op op_mul (pe_ix ix_list (pv 0) pe_int (fun _ _ => rfl)) pe_int) (pe_op op_mul (pv 2) pe_int)) (pe_op op_mul (pe_ix ix_list (pv 0) pe_int (fun _ _ => rfl)) pe_int)) pe_int) pa_nil)) pe_int) (pg_sub (pv 0) pe_int set_list))
        (pss_one (ps_ret (pe_op op_mod (pe_callTy (T := "int") call_int1 rfl (n_int T) (by decide +kernel) (pa_cons (pe_op op_fdivW (pe_ix ix_list (pv 0) pe_int (fun _ _ => rfl)) pe_int) pa_nil)) (pv 1))))) pss_nil)
      (pss_one (ps_asg (pe_callTy (T := "int") call_int1 rfl (n_int T) (by decide +kernel) (pa_cons (pv 2) pa_nil)) (pg_sub (pv 0) pe_int set_list))))))) pss_nil)
    (pss_cons (ps_set (i := 3) sc_l_draw.nd rfl (by first | exact Or.inl rfl | exact Or.inr rfl) (pe_op op_mod (pe_callTy (T := "int") call_int1 rfl (n_int T) (by decide +kernel) (pa_cons (pe_ix ix_list (pv 0) pe_int (fun _ _ => rfl)) pa_nil)) (pv 1)))
    (pss_cons (ps_asg (pe_op op_fdivW (pe_callTy (T := "int") call_int1 rfl (n_int T) (by decide +kernel) (pa_cons (pe_ix ix_list (pv 0) pe_int (fun _ _ => rfl)) pa_nil)) (pv 1)) (pg_sub (pv 0) pe_int set_list))
    (pss_one (ps_ret (pv 3)))))), ?_⟩
    have ix : ∀ {H' : Hp} {xs : List V}, H' p = some (.lst xs) → SqL K H' p xs := fun h => SqL.of h
    have sl : ∀ {H' : Hp}, Kp p H H' → SqL K H' sa (sx.map V.int) := fun k => na.elim (fun n => k.sl n hS) (fun z => z _)
    refine ⟨_, rfl, p, _, 2, _, rfl, rfl, ix hp, rfl, _, _, rfl, rfl, _, rfl, dC (fun hb => ?_) (fun hb => ?_)⟩
    · -- cell = 0; the script's next number
      refine ⟨_, rfl, p, _, 1, _, rfl, rfl, ix hp, rfl, _, rfl, p, _, 0, _, rfl, rfl, ix hp, rfl, sa, _, rfl, .inl hS, _, _, rfl, rfl, _, rfl, dC (fun hi => ?_) (fun hi => ?_)⟩
      · have hi2 : i.toNat < sx.length := by rw [List.length_map] at hi; omega
        refine ⟨_, rfl, p, _, 0, _, rfl, rfl, ix hp, rfl, _, rfl, p, _, 1, _, rfl, rfl, ix hp, rfl, sa, _, i, V.int sx[i.toNat], rfl, rfl, hS, at_of (j := i.toNat) (by omega) (by simp [hi2]), ?_⟩
        refine ⟨_, rfl, p, _, 1, _, rfl, rfl, ix hp, rfl, _, _, rfl, rfl, _, rfl, p, _, 1, 1, rfl, rfl, hp, rfl, ?_⟩
        refine ⟨_, rfl, _, _, rfl, rfl, ⟨by decide, by decide, by decide⟩, _, _, rfl, rfl, _, rfl, dC (fun hc => ?_) (fun hc => ?_)⟩
        · refine ⟨_, rfl, p, _, 3, _, rfl, rfl, ix upd_same, rfl, _, _, rfl, rfl, .inr ⟨by decide, by decide⟩, _, rfl, _, _, rfl, rfl, .inr ⟨by decide, by decide⟩, _, _, rfl, rfl,
            _, rfl, p, _, 1, _, rfl, rfl, ix upd_same, rfl, _, _, rfl, rfl, .inr ⟨by decide, by decide⟩, _, _, rfl, rfl, _, _, rfl, rfl, .inl ⟨_, rfl, _, _, rfl, rfl, (by show (0 : Int) < 2147483647; decide), _, rfl, p, _, 3, 3, rfl, rfl, upd_same, rfl, ?_⟩⟩
          refine ⟨_, rfl, p, _, 3, _, rfl, rfl, ix upd_same, rfl, _, _, rfl, rfl, ⟨by decide, by decide +kernel⟩, .inl ⟨_, rfl, _, rfl, _, _, rfl, rfl, m0, ?_⟩⟩
          refine k _ _ (Int.emod_nonneg _ (by omega)) (Int.emod_lt_of_pos _ m0) (Kp.refl.at.at) ⟨_, b, _, upd_same, na, sl Kp.refl.at.at, (by omega : (0 : Int) ≤ i + 1), b0, Int.emod_nonneg _ (by decide), Int.emod_lt_of_pos _ (by decide)⟩
        · refine ⟨_, rfl, .inl ⟨_, rfl, _, rfl, p, _, 2, 2, rfl, rfl, upd_same, rfl, ?_⟩⟩
          have hc0 : (0 : Int) ≤ sx[i.toNat] := by
            have : ((10 : Int) ^ (18 : Int).toNat) = 1000000000000000000 := by decide
            omega
          refine ⟨_, rfl, p, _, 2, _, rfl, rfl, ix upd_same, rfl, .inl ⟨_, rfl, _, rfl, _, _, rfl, rfl, m0, ?_⟩⟩
          refine ⟨_, rfl, p, _, 2, _, rfl, rfl, ix upd_same, rfl, .inl ⟨_, rfl, _, rfl, _, _, rfl, rfl, wd m0 mo, _, rfl, p, _, 2, 2, rfl, rfl, upd_same, rfl, ?_⟩⟩
          refine ⟨_, rfl, ?_⟩
          exact k _ _ (Int.emod_nonneg _ (by omega)) (Int.emod_lt_of_pos _ m0) (Kp.refl.at.at.at) ⟨_, _, s, upd_same, na, sl Kp.refl.at.at.at, (by omega : (0 : Int) ≤ i + 1), Int.ediv_nonneg hc0 (by omega), s0, s1⟩
      · refine ⟨_, rfl, p, _, 1, _, rfl, rfl, ix hp, rfl, _, _, rfl, rfl, _, rfl, p, _, 1, 1, rfl, rfl, hp, rfl, ?_⟩
        refine ⟨_, rfl, _, _, rfl, rfl, ⟨by decide, by decide, by decide⟩, _, _, rfl, rfl, _, rfl, dC (fun hc => ?_) (fun hc => ?_)⟩
        · refine ⟨_, rfl, p, _, 3, _, rfl, rfl, ix upd_same, rfl, _, _, rfl, rfl, .inr ⟨by decide, by decide⟩, _, rfl, _, _, rfl, rfl, .inr ⟨by decide, by decide⟩, _, _, rfl, rfl,
            _, rfl, p, _, 1, _, rfl, rfl, ix upd_same, rfl, _, _, rfl, rfl, .inr ⟨by decide, by decide⟩, _, _, rfl, rfl, _, _, rfl, rfl, .inl ⟨_, rfl, _, _, rfl, rfl, (by show (0 : Int) < 2147483647; decide), _, rfl, p, _, 3, 3, rfl, rfl, upd_same, rfl, ?_⟩⟩
          refine ⟨_, rfl, p, _, 3, _, rfl, rfl, ix upd_same, rfl, _, _, rfl, rfl, ⟨by decide, by decide +kernel⟩, .inl ⟨_, rfl, _, rfl, _, _, rfl, rfl, m0, ?_⟩⟩
          exact k _ _ (Int.emod_nonneg _ (by omega)) (Int.emod_lt_of_pos _ m0) (Kp.refl.at.at) ⟨_, b, _, upd_same, na, sl Kp.refl.at.at, (by omega : (0 : Int) ≤ i + 1), b0, Int.emod_nonneg _ (by decide), Int.emod_lt_of_pos _ (by decide)⟩
        · exact absurd (by decide) hc
    · refine ⟨_, rfl, p, _, 2, _, rfl, rfl, ix hp, rfl, .inl ⟨_, rfl, _, rfl, _, _, rfl, rfl, m0, ?_⟩⟩
      refine ⟨_, rfl, p, _, 2, _, rfl, rfl, ix hp, rfl, .inl ⟨_, rfl, _, rfl, _, _, rfl, rfl, wd m0 mo, _, rfl, p, _, 2, 2, rfl, rfl, hp, rfl, ?_⟩⟩
      refine ⟨_, rfl, ?_⟩
      exact k _ _ (Int.emod_nonneg _ (by omega)) (Int.emod_lt_of_pos _ m0) Kp.refl.at ⟨_, _, s, upd_same, na, sl Kp.refl.at, i0, Int.ediv_nonneg b0 (by omega), s0, s1⟩
theorem ok_l_pick (T : Tx K mg sa sx) : Cal P w K mg base 2 "_law_pick" (spPick K sa sx) := by
  obtain ⟨fd, F⟩ := f_l_pick T
  refine ⟨_, fd, ["_law_pool", "_law_things"], fnok F sc_l_pick (fun vs H Q E h => ?_) (fun cdv A outer s H vs Q E hr h => ?_), F.bindsN fun _ _ _ _ _ _ us hl => match us, hl with | [_, _], _ => rfl, g__law_pick T, F.kp⟩
  · obtain ⟨p, a, xs, rfl, _⟩ := h; rfl
  · obtain ⟨p, a, xs, rfl, ha, n0, n1, np, hP, k⟩ := h
    refine ⟨_, (pss_one (ps_ret (pe_ix ix_list (pv 1) (pe_cal (ok_l_draw T) hr (by decide) (pa_cons (pv 0) (pa_cons (pe_callB (id := "len") call_len_seq rfl (n_len T) (by decide +kernel) (pa_cons (pv 1) pa_nil)) pa_nil))) (fun _ _ => rfl)))), ?_⟩
    have l0 : 0 < xs.length := List.length_pos_iff.mpr n0
    refine ⟨_, rfl, _, rfl, _, rfl, a, _, rfl, .inl (SqL.of ha), p, (xs.length : Int), rfl, by omega, io (by omega), hP, fun r H1 r0 r1 k1 b1 => ?_⟩
    have hr2 : r.toNat < xs.length := by omega
    exact ⟨a, _, r, xs[r.toNat], rfl, rfl, SqL.of (k1 _ _ np ha), at_of (j := r.toNat) (by omega) (by simp [hr2]), k _ _ (List.getElem_mem hr2) k1 b1⟩
theorem ok_l_number (T : Tx K mg sa sx) : Cal P w K mg base 2 "_law_number" (spNum K sa sx) := by
  obtain ⟨fd, F⟩ := f_l_number T
  refine ⟨_, fd, ["_law_pool"], fnok F sc_l_number (fun vs H Q E h => ?_) (fun cdv A outer s H vs Q E hr h => ?_), F.bindsN fun _ _ _ _ _ _ us hl => match us, hl with | [_], _ => rfl, g__law_number T, F.kp⟩
  · obtain ⟨p, rfl, _⟩ := h; rfl
  · obtain ⟨p, rfl, hP, k⟩ := h
    refine ⟨_, (pss_cons (ps_set (i := 1) sc_l_number.nd rfl (by first | exact Or.inl rfl | exact Or.inr rfl) (pe_cal (ok_l_draw T) hr (by decide) (pa_cons (pv 0) (pa_cons pe_int pa_nil))))
    (pss_cons (ps_if (pt_cmpR op_eq (pv 1) pe_int (nomark _)) (pss_one (ps_ret (pe_op op_sub (pe_cal (ok_l_draw T) hr (by decide) (pa_cons (pv 0) (pa_cons pe_int pa_nil))) pe_int))) pss_nil)
    (pss_cons (ps_if (pt_cmpR op_eq (pv 1) pe_int (nomark _)) (pss_one (ps_ret (pe_op op_sub pe_int (pe_cal (ok_l_draw T) hr (by decide) (pa_cons (pv 0) (pa_cons pe_int pa_nil)))))) pss_nil)
    (pss_cons (ps_if (pt_cmpR op_eq (pv 1) pe_int (nomark _)) (pss_one (ps_ret (pe_op op_sub (pe_cal (ok_l_draw T) hr (by decide) (pa_cons (pv 0) (pa_cons pe_int pa_nil))) pe_int))) pss_nil)
    (pss_one (ps_ret (pe_cal (ok_l_draw T) hr (by decide) (pa_cons (pv 0) (pa_cons pe_int pa_nil))))))))), ?_⟩
    refine ⟨_, rfl, p, 6, rfl, by decide, io (by decide), hP, fun j H1 j0 j6 k1 p1 => ?_⟩
    refine ⟨_, rfl, rfl, _, rfl, dC (fun _ => ?_) (fun _ => ?_)⟩
    · exact ⟨_, rfl, p, 1000, rfl, by decide, io (by decide), p1, fun i H2 i0 i1 k2 p2 => ⟨_, _, rfl, rfl, k _ _ (by omega) (k1.trans k2) p2⟩⟩
    refine ⟨_, rfl, rfl, _, rfl, dC (fun _ => ?_) (fun _ => ?_)⟩
    · exact ⟨_, rfl, p, 1000000000, rfl, by decide, io (by decide), p1, fun i H2 i0 i1 k2 p2 => ⟨_, _, rfl, rfl, k _ _ (by omega) (k1.trans k2) p2⟩⟩
    refine ⟨_, rfl, rfl, _, rfl, dC (fun _ => ?_) (fun _ => ?_)⟩
    · exact ⟨_, rfl, p, 1999999999, rfl, by decide, io (by decide), p1, fun i H2 i0 i1 k2 p2 => ⟨_, _, rfl, rfl, k _ _ (by omega) (k1.trans k2) p2⟩⟩
    · exact ⟨_, rfl, p, 3, rfl, by decide, io (by decide), p1, fun i H2 i0 i1 k2 p2 => k _ _ (by omega) (k1.trans k2) p2⟩
theorem ok_l_field (T : Tx K mg sa sx) : Cal P w K mg base 3 "_law_field" (spField K sa sx) := by
  obtain ⟨fd, F⟩ := f_l_field T
  refine ⟨_, fd, ["_law_pool"], fnok F sc_l_field (fun vs H Q E h => ?_) (fun cdv A outer s H vs Q E hr h => ?_), F.bindsN fun _ _ _ _ _ _ us hl => match us, hl with | [_], _ => rfl, g__law_field T, F.kp⟩
  · obtain ⟨p, rfl, _⟩ := h; rfl
  · obtain ⟨p, rfl, hP, k⟩ := h
    refine ⟨_, (pss_one (ps_ret (pe_cal (ok_l_pick T) hr (by decide) (pa_cons (pv 0) (pa_cons (pe_lst (pa_cons (pe_cal (ok_l_number T) hr (by decide) (pa_cons (pv 0) pa_nil)) (pa_cons pe_str (pa_cons pe_str (pa_cons pe_non (pa_cons pe_bl (pa_cons (pe_tup (pa_cons pe_str (pa_cons pe_int pa_nil))) (pa_cons (pe_un un_neg pe_int) (pa_cons pe_str (pa_cons (pe_op op_pow pe_int pe_int) pa_nil)))))))))) pa_nil))))), ?_⟩
    refine ⟨_, rfl, _, rfl, p, rfl, hP, fun n H1 ln k1 p1 => ?_⟩
    refine ⟨sz1 (by simp), fun t ht => ?_⟩
    have s2 := Same.new ht (o := .tup [V.str "x", V.int 1])
    have hT : (upd H1 t (.tup [V.str "x", V.int 1])) t = some (.tup [V.str "x", V.int 1]) := upd_same
    have p2 := pool_same p1 s2
    generalize upd H1 t (.tup [V.str "x", V.int 1]) = H2 at s2 hT p2 ⊢
    refine ⟨_, rfl, _, _, rfl, rfl, ⟨by decide, by decide, by decide⟩, sz1 (by simp), fun a ha => ?_⟩
    have s3 := Same.new ha (o := .lst [V.int n, V.str "a b", V.str "", V.non, V.bl true, V.ref t, V.int (-1), V.str "many", V.int (10 ^ (25 : Int).toNat)])
    refine ⟨p, a, _, rfl, upd_same, by simp, by simp, pool_ne p2 ha, pool_same p2 s3, fun v H3 hv k3 p3 => ?_⟩
    have hT3 := k3 _ _ (pool_tup (pool_same p2 s3) (s3 _ _ hT)) (s3 _ _ hT)
    have kk := k1.trans ((s2.trans s3).kp.trans k3)
    simp only [List.mem_cons, List.not_mem_nil, or_false] at hv
    rcases hv with rfl | rfl | rfl | rfl | rfl | rfl | rfl | rfl | rfl
    · exact k _ (.int n) _ ⟨rfl, Nat.le_trans ln (by decide)⟩ kk p3
    · exact k _ (.str "a b") _ ⟨rfl, by decide +kernel, ab_str⟩ kk p3
    · exact k _ (.str "") _ ⟨rfl, by decide +kernel, nil_str⟩ kk p3
    · exact k _ .non _ rfl kk p3
    · exact k _ .tru _ rfl kk p3
    · exact k _ .tup _ ⟨t, rfl, hT3⟩ kk p3
    · exact k _ (.int (-1)) _ ⟨rfl, by decide⟩ kk p3
    · exact k _ (.str "many") _ ⟨rfl, by decide +kernel, many_str⟩ kk p3
    · exact k _ (.int _) _ ⟨rfl, by decide⟩ kk p3
end
end K88
namespace K88
open PySem PySem.Spec PyProof.Rows Cm
open L2 hiding Same
/-! ### the eleven errors in a row, their fields, their classes -/
def erNs : List (List Str) := [["row", "cause"], ["at", "row", "cause"], ["name"], ["moment"], ["unit", "name"], ["cause", "unit", "name"], ["cause", "unit", "name"], ["at"], ["what"], ["at"], ["at", "cause"]]
def erCs (K : PySem.W.Frag) : List Addr := [He.ga K "BadText", He.ga K "BadClient", He.ga K "BadManner", He.ga K "BadMoment", He.ga K "NotAssembled", He.ga K "NotLinked", He.ga K "NotLoaded", He.ga K "BadRenaming", He.ga K "TooMany", He.ga K "BadHouse", He.ga K "BadMend"]
def ErAt (K : PySem.W.Frag) (H : Hp) (e : Addr) (i : Nat) (ks : List OdF) : Prop := ∃ (C dd : Addr) (l : List (Str × V)) (ns : List Str), (erCs K)[i]? = some C ∧ erNs[i]? = some ns ∧ H e = some (exo e C (some dd)) ∧ H dd = some (exd dd l) ∧
  ∀ (j : Nat) (f : Str) (k : OdF), ns[j]? = some f → ks[j]? = some k → ∃ v, l.lookup f = some v ∧ FdAt H v k
theorem ErAt.same {K : PySem.W.Frag} {H H' : Hp} {e : Addr} {i : Nat} {ks : List OdF} (s : Same H H') (h : ErAt K H e i ks) : ErAt K H' e i ks :=
  let ⟨C, dd, l, ns, h1, h2, h3, h4, h5⟩ := h
  ⟨C, dd, l, ns, h1, h2, s _ _ h3, s _ _ h4, fun j f k a b => let ⟨v, e1, e2⟩ := h5 j f k a b; ⟨v, e1, fd_same s e2⟩⟩
theorem er_same {H H' : Hp} {a C dx : Addr} {o : HO} {l : List (Str × V)} (ha : H a = none) (d : ErDone (upd H a o) a C dx l H') : Same H H' := fun b u e => d.1 b u (ne_of_none e ha) (by rw [upd_ne (ne_of_none e ha)]; exact e)
theorem er1 {K : PySem.W.Frag} {H H' : Hp} {a C dx : Addr} {i : Nat} {f : Str} {x : V} {k : OdF} {r : List OdF} (hC : (erCs K)[i]? = some C) (hn : erNs[i]? = some [f]) (d : ErDone H a C dx [(f, x)] H') (hx : FdAt H' x k) : ErAt K H' a i (k :: r) := by
  refine ⟨C, dx, _, _, hC, hn, d.2.1, d.2.2, fun j g m hj hm => ?_⟩
  match j, hj, hm with
  | 0, hj, hm =>
    cases Option.some.inj hj; cases Option.some.inj hm
    exact ⟨x, by simp [List.lookup], hx⟩
  | j + 1, hj, _ => simp at hj
theorem er2 {K : PySem.W.Frag} {H H' : Hp} {a C dx : Addr} {i : Nat} {f g : Str} {x y : V} {k l : OdF} {r : List OdF} (hC : (erCs K)[i]? = some C) (hn : erNs[i]? = some [f, g]) (n1 : (f == g) = false) (d : ErDone H a C dx [(g, y), (f, x)] H') (hx : FdAt H' x k) (hy : FdAt H' y l) : ErAt K H' a i (k :: l :: r) := by
  refine ⟨C, dx, _, _, hC, hn, d.2.1, d.2.2, fun j u m hj hm => ?_⟩
  match j, hj, hm with
  | 0, hj, hm =>
    cases Option.some.inj hj; cases Option.some.inj hm
    exact ⟨x, by simp [List.lookup, n1], hx⟩
  | 1, hj, hm =>
    cases Option.some.inj hj; cases Option.some.inj hm
    exact ⟨y, by simp [List.lookup], hy⟩
  | j + 2, hj, _ => simp at hj
theorem er3 {K : PySem.W.Frag} {H H' : Hp} {a C dx : Addr} {i : Nat} {f g h : Str} {x y z : V} {k l m : OdF} {r : List OdF} (hC : (erCs K)[i]? = some C) (hn : erNs[i]? = some [f, g, h]) (n1 : (f == g) = false) (n2 : (f == h) = false) (n3 : (g == h) = false) (d : ErDone H a C dx [(h, z), (g, y), (f, x)] H')
    (hx : FdAt H' x k) (hy : FdAt H' y l) (hz : FdAt H' z m) : ErAt K H' a i (k :: l :: m :: r) := by
  refine ⟨C, dx, _, _, hC, hn, d.2.1, d.2.2, fun j u m hj hm => ?_⟩
  match j, hj, hm with
  | 0, hj, hm =>
    cases Option.some.inj hj; cases Option.some.inj hm
    exact ⟨x, by simp [List.lookup, n1, n2], hx⟩
  | 1, hj, hm =>
    cases Option.some.inj hj; cases Option.some.inj hm
    exact ⟨y, by simp [List.lookup, n3], hy⟩
  | 2, hj, hm =>
    cases Option.some.inj hj; cases Option.some.inj hm
    exact ⟨z, by simp [List.lookup], hz⟩
  | j + 3, hj, _ => simp at hj
def spErrs (K : PySem.W.Frag) : Sp := fun vs H Q _ => ∃ (x y z : V) (k l m : OdF), vs = [x, y, z] ∧ FdAt H x k ∧ FdAt H y l ∧ FdAt H z m ∧ ∀ (q : Addr) (es : List Addr) H', Same H H' → H' q = some (.lst (es.map V.ref)) → es.length = 11 → (∀ i e, es[i]? = some e → ErAt K H' e i [k, l, m]) → Q (.ref q) H'
section
variable {P : Program} {w : World} {K : PySem.W.Frag} {mg : Str → Option Value} {base : Heap} {sa : Addr} {sx : List Int}
theorem ok_l_errors (T : Tx K mg sa sx) (hP : PF P) : Cal P w K mg base 6 "_law_errors" (spErrs K) := by
  obtain ⟨fd, F⟩ := f_l_errors T
  obtain ⟨fd_BadText, F_BadText, b_BadText⟩ := in_BadText (P := P) (w := w) (mg := mg) (base := base) T hP
  obtain ⟨fd_BadClient, F_BadClient, b_BadClient⟩ := in_BadClient (P := P) (w := w) (mg := mg) (base := base) T hP
  obtain ⟨fd_BadManner, F_BadManner, b_BadManner⟩ := in_BadManner (P := P) (w := w) (mg := mg) (base := base) T hP
  obtain ⟨fd_BadMoment, F_BadMoment, b_BadMoment⟩ := in_BadMoment (P := P) (w := w) (mg := mg) (base := base) T hP
  obtain ⟨fd_NotAssembled, F_NotAssembled, b_NotAssembled⟩ := in_NotAssembled (P := P) (w := w) (mg := mg) (base := base) T hP
  obtain ⟨fd_NotLinked, F_NotLinked, b_NotLinked⟩ := in_NotLinked (P := P) (w := w) (mg := mg) (base := base) T hP
  obtain ⟨fd_NotLoaded, F_NotLoaded, b_NotLoaded⟩ := in_NotLoaded (P := P) (w := w) (mg := mg) (base := base) T hP
  obtain ⟨fd_BadRenaming, F_BadRenaming, b_BadRenaming⟩ := in_BadRenaming (P := P) (w := w) (mg := mg) (base := base) T hP
  obtain ⟨fd_TooMany, F_TooMany, b_TooMany⟩ := in_TooMany (P := P) (w := w) (mg := mg) (base := base) T hP
  obtain ⟨fd_BadHouse, F_BadHouse, b_BadHouse⟩ := in_BadHouse (P := P) (w := w) (mg := mg) (base := base) T hP
  obtain ⟨fd_BadMend, F_BadMend, b_BadMend⟩ := in_BadMend (P := P) (w := w) (mg := mg) (base := base) T hP
  refine ⟨_, fd, ["_law_one", "_law_two", "_law_three"], fnok F sc_l_errors (fun vs H Q E h => ?_) (fun cdv A outer s H vs Q E hr h => ?_), F.bindsN fun _ _ _ _ _ _ us hl => match us, hl with | [_, _, _], _ => rfl, g__law_errors T, F.kp⟩
  · obtain ⟨x, y, z, k, l, m, rfl, _⟩ := h; rfl
  · obtain ⟨x, y, z, k, l, m, rfl, hx, hy, hz, q⟩ := h
    refine ⟨_, (pss_cons (ps_set (i := 3) sc_l_errors.nd rfl (by first | exact Or.inl rfl | exact Or.inr rfl) (pe_lst (pa_cons (pe_oexV (ex_BadText T).oex (ex_BadText T).iC (ex_BadText T).tI F_BadText (hr.mono (by decide)) b_BadText .nil pass0 (g_BadText T) (pa_cons (pv 0) (pa_cons (pv 1) pa_nil))) (pa_cons (pe_oexV (ex_BadClient T).oex (ex_BadClient T).iC (ex_BadClient T).tI F_BadClient (hr.mono (by decide)) b_BadClient .nil pass0 (g_BadClient T) (pa_cons (pv 0) (pa_cons (pv 1) (pa_cons (pv 2) pa_nil)))) (pa_cons (pe_oexV (ex_BadManner T).oex (ex_BadManner T).iC (ex_BadManner T).tI F_BadManner (hr.mono (by decide)) b_BadManner .nil pass0 (g_BadManner T) (pa_cons (pv 0) pa_nil)) (pa_cons (pe_oexV (ex_BadMoment T).oex (ex_BadMoment T).iC (ex_BadMoment T).tI F_BadMoment (hr.mono (by decide)) b_BadMoment .nil pass0 (g_BadMoment T) (pa_cons (pv 0) pa_nil)) (pa_cons (pe_oexV (ex_NotAssembled T).oex (ex_NotAssembled T).iC (ex_NotAssembled T).tI F_NotAssembled (hr.mono (by decide)) b_NotAssembled .nil pass0 (g_NotAssembled T) (pa_cons (pv 0) (pa_cons (pv 1) pa_nil))) pa_nil)))))))
    (pss_cons (ps_set (i := 3) sc_l_errors.nd rfl (by first | exact Or.inl rfl | exact Or.inr rfl) (pe_op op_cat (pv 3) (pe_lst (pa_cons (pe_oexV (ex_NotLinked T).oex (ex_NotLinked T).iC (ex_NotLinked T).tI F_NotLinked (hr.mono (by decide)) b_NotLinked .nil pass0 (g_NotLinked T) (pa_cons (pv 0) (pa_cons (pv 1) (pa_cons (pv 2) pa_nil)))) (pa_cons (pe_oexV (ex_NotLoaded T).oex (ex_NotLoaded T).iC (ex_NotLoaded T).tI F_NotLoaded (hr.mono (by decide)) b_NotLoaded .nil pass0 (g_NotLoaded T) (pa_cons (pv 0) (pa_cons (pv 1) (pa_cons (pv 2) pa_nil)))) (pa_cons (pe_oexV (ex_BadRenaming T).oex (ex_BadRenaming T).iC (ex_BadRenaming T).tI F_BadRenaming (hr.mono (by decide)) b_BadRenaming .nil pass0 (g_BadRenaming T) (pa_cons (pv 0) pa_nil)) (pa_cons (pe_oexV (ex_TooMany T).oex (ex_TooMany T).iC (ex_TooMany T).tI F_TooMany (hr.mono (by decide)) b_TooMany .nil pass0 (g_TooMany T) (pa_cons (pv 0) pa_nil)) pa_nil)))))))
    (pss_one (ps_ret (pe_op op_cat (pv 3) (pe_lst (pa_cons (pe_oexV (ex_BadHouse T).oex (ex_BadHouse T).iC (ex_BadHouse T).tI F_BadHouse (hr.mono (by decide)) b_BadHouse .nil pass0 (g_BadHouse T) (pa_cons (pv 0) pa_nil)) (pa_cons (pe_oexV (ex_BadMend T).oex (ex_BadMend T).iC (ex_BadMend T).tI F_BadMend (hr.mono (by decide)) b_BadMend .nil pass0 (g_BadMend T) (pa_cons (pv 0) (pa_cons (pv 1) pa_nil))) pa_nil)))))))), ?_⟩
    have s0 : Same H H := Cm.Same.refl _
    refine ⟨_, rfl, _, rfl, by simp, fun a0 ha0 => ⟨a0, x, y, k, l, rfl, (fd_same (s0.trans (Same.new ha0)) hx), (fd_same (s0.trans (Same.new ha0)) hy), upd_same, fun dx0 H0 d0 => ⟨rfl, ?_⟩⟩⟩
    have t0 := er_same ha0 d0
    have s1 := s0.trans t0
    have e0 := er2 (K := K) (i := 0) (r := [m]) rfl rfl (by decide +kernel) d0 (fd_same s1 hx) (fd_same s1 hy)
    refine ⟨_, rfl, _, rfl, _, rfl, by simp, fun a1 ha1 => ⟨a1, x, y, z, k, l, m, rfl, (fd_same (s1.trans (Same.new ha1)) hx), (fd_same (s1.trans (Same.new ha1)) hy), (fd_same (s1.trans (Same.new ha1)) hz), upd_same, fun dx1 H1 d1 => ⟨rfl, ?_⟩⟩⟩
    have t1 := er_same ha1 d1
    have s2 := s1.trans t1
    have e1 := er3 (K := K) (i := 1) (r := []) rfl rfl (by decide +kernel) (by decide +kernel) (by decide +kernel) d1 (fd_same s2 hx) (fd_same s2 hy) (fd_same s2 hz)
    have e0 := ErAt.same t1 e0
    refine ⟨_, rfl, by simp, fun a2 ha2 => ⟨a2, x, k, rfl, (fd_same (s2.trans (Same.new ha2)) hx), upd_same, fun y2 dx2 H2 fy2 d2 => ⟨rfl, ?_⟩⟩⟩
    have e2 := er1 (K := K) (i := 2) (r := [l, m]) rfl rfl d2 fy2
    have t2 := er_same ha2 d2
    have s3 := s2.trans t2
    have e0 := ErAt.same t2 e0
    have e1 := ErAt.same t2 e1
    refine ⟨_, rfl, by simp, fun a3 ha3 => ⟨a3, x, k, rfl, (fd_same (s3.trans (Same.new ha3)) hx), upd_same, fun y3 dx3 H3 fy3 d3 => ⟨rfl, ?_⟩⟩⟩
    have e3 := er1 (K := K) (i := 3) (r := [l, m]) rfl rfl d3 fy3
    have t3 := er_same ha3 d3
    have s4 := s3.trans t3
    have e0 := ErAt.same t3 e0
    have e1 := ErAt.same t3 e1
    have e2 := ErAt.same t3 e2
    refine ⟨_, rfl, _, rfl, by simp, fun a4 ha4 => ⟨a4, x, y, k, l, rfl, (fd_same (s4.trans (Same.new ha4)) hx), (fd_same (s4.trans (Same.new ha4)) hy), upd_same, fun dx4 H4 d4 => ⟨rfl, ?_⟩⟩⟩
    have t4 := er_same ha4 d4
    have s5 := s4.trans t4
    have e4 := er2 (K := K) (i := 4) (r := [m]) rfl rfl (by decide +kernel) d4 (fd_same s5 hx) (fd_same s5 hy)
    have e0 := ErAt.same t4 e0
    have e1 := ErAt.same t4 e1
    have e2 := ErAt.same t4 e2
    have e3 := ErAt.same t4 e3
    refine ⟨sz1 (by simp), fun q4 hq4 => ?_⟩
    have u4 := Same.new hq4 (o := .lst ([a0, a1, a2, a3, a4].map V.ref))
    have r4 : (upd H4 q4 (.lst ([a0, a1, a2, a3, a4].map V.ref))) q4 = some (.lst ([a0, a1, a2, a3, a4].map V.ref)) := upd_same
    have s5q := s5.trans u4
    have e0 := ErAt.same u4 e0
    have e1 := ErAt.same u4 e1
    have e2 := ErAt.same u4 e2
    have e3 := ErAt.same u4 e3
    have e4 := ErAt.same u4 e4
    have p5 := r4
    have c5 : q4 = q4 := rfl
    refine ⟨_, rfl, ?_⟩
    refine ⟨_, rfl, _, rfl, _, rfl, by simp, fun a5 ha5 => ⟨a5, x, y, z, k, l, m, rfl, (fd_same (s5q.trans (Same.new ha5)) hx), (fd_same (s5q.trans (Same.new ha5)) hy), (fd_same (s5q.trans (Same.new ha5)) hz), upd_same, fun dx5 H5 d5 => ⟨rfl, ?_⟩⟩⟩
    have t5 := er_same ha5 d5
    have s6 := s5q.trans t5
    have e5 := er3 (K := K) (i := 5) (r := []) rfl rfl (by decide +kernel) (by decide +kernel) (by decide +kernel) d5 (fd_same s6 hx) (fd_same s6 hy) (fd_same s6 hz)
    have e0 := ErAt.same t5 e0
    have e1 := ErAt.same t5 e1
    have e2 := ErAt.same t5 e2
    have e3 := ErAt.same t5 e3
    have e4 := ErAt.same t5 e4
    refine ⟨_, rfl, _, rfl, _, rfl, by simp, fun a6 ha6 => ⟨a6, x, y, z, k, l, m, rfl, (fd_same (s6.trans (Same.new ha6)) hx), (fd_same (s6.trans (Same.new ha6)) hy), (fd_same (s6.trans (Same.new ha6)) hz), upd_same, fun dx6 H6 d6 => ⟨rfl, ?_⟩⟩⟩
    have t6 := er_same ha6 d6
    have s7 := s6.trans t6
    have e6 := er3 (K := K) (i := 6) (r := []) rfl rfl (by decide +kernel) (by decide +kernel) (by decide +kernel) d6 (fd_same s7 hx) (fd_same s7 hy) (fd_same s7 hz)
    have e0 := ErAt.same t6 e0
    have e1 := ErAt.same t6 e1
    have e2 := ErAt.same t6 e2
    have e3 := ErAt.same t6 e3
    have e4 := ErAt.same t6 e4
    have e5 := ErAt.same t6 e5
    refine ⟨_, rfl, by simp, fun a7 ha7 => ⟨a7, x, k, rfl, (fd_same (s7.trans (Same.new ha7)) hx), upd_same, fun y7 dx7 H7 fy7 d7 => ⟨rfl, ?_⟩⟩⟩
    have e7 := er1 (K := K) (i := 7) (r := [l, m]) rfl rfl d7 fy7
    have t7 := er_same ha7 d7
    have s8 := s7.trans t7
    have e0 := ErAt.same t7 e0
    have e1 := ErAt.same t7 e1
    have e2 := ErAt.same t7 e2
    have e3 := ErAt.same t7 e3
    have e4 := ErAt.same t7 e4
    have e5 := ErAt.same t7 e5
    have e6 := ErAt.same t7 e6
    refine ⟨_, rfl, by simp, fun a8 ha8 => ⟨a8, x, k, rfl, (fd_same (s8.trans (Same.new ha8)) hx), upd_same, fun y8 dx8 H8 fy8 d8 => ⟨rfl, ?_⟩⟩⟩
    have e8 := er1 (K := K) (i := 8) (r := [l, m]) rfl rfl d8 fy8
    have t8 := er_same ha8 d8
    have s9 := s8.trans t8
    have e0 := ErAt.same t8 e0
    have e1 := ErAt.same t8 e1
    have e2 := ErAt.same t8 e2
    have e3 := ErAt.same t8 e3
    have e4 := ErAt.same t8 e4
    have e5 := ErAt.same t8 e5
    have e6 := ErAt.same t8 e6
    have e7 := ErAt.same t8 e7
    refine ⟨sz1 (by simp), fun q8 hq8 => ?_⟩
    have u8 := Same.new hq8 (o := .lst ([a5, a6, a7, a8].map V.ref))
    have r8 : (upd H8 q8 (.lst ([a5, a6, a7, a8].map V.ref))) q8 = some (.lst ([a5, a6, a7, a8].map V.ref)) := upd_same
    have z8 := (((((t5).trans t6).trans t7).trans t8).trans u8) _ _ p5
    refine ⟨q4, q8, _, _, rfl, rfl, z8, r8, sz1 (by simp), fun w8 hw8 => ?_⟩
    have v8 := u8.trans (Same.new hw8 (o := .lst ([a0, a1, a2, a3, a4, a5, a6, a7, a8].map V.ref)))
    have s9q := s9.trans v8
    have e0 := ErAt.same v8 e0
    have e1 := ErAt.same v8 e1
    have e2 := ErAt.same v8 e2
    have e3 := ErAt.same v8 e3
    have e4 := ErAt.same v8 e4
    have e5 := ErAt.same v8 e5
    have e6 := ErAt.same v8 e6
    have e7 := ErAt.same v8 e7
    have e8 := ErAt.same v8 e8
    have p9 : (upd (upd H8 q8 (.lst ([a5, a6, a7, a8].map V.ref))) w8 (.lst ([a0, a1, a2, a3, a4, a5, a6, a7, a8].map V.ref))) w8 = some (.lst ([a0, a1, a2, a3, a4, a5, a6, a7, a8].map V.ref)) := upd_same
    refine ⟨_, rfl, ?_⟩
    refine ⟨_, rfl, by simp, fun a9 ha9 => ⟨a9, x, k, rfl, (fd_same (s9q.trans (Same.new ha9)) hx), upd_same, fun y9 dx9 H9 fy9 d9 => ⟨rfl, ?_⟩⟩⟩
    have e9 := er1 (K := K) (i := 9) (r := [l, m]) rfl rfl d9 fy9
    have t9 := er_same ha9 d9
    have s10 := s9q.trans t9
    have e0 := ErAt.same t9 e0
    have e1 := ErAt.same t9 e1
    have e2 := ErAt.same t9 e2
    have e3 := ErAt.same t9 e3
    have e4 := ErAt.same t9 e4
    have e5 := ErAt.same t9 e5
    have e6 := ErAt.same t9 e6
    have e7 := ErAt.same t9 e7
    have e8 := ErAt.same t9 e8
    refine ⟨_, rfl, _, rfl, by simp, fun a10 ha10 => ⟨a10, x, y, k, l, rfl, (fd_same (s10.trans (Same.new ha10)) hx), (fd_same (s10.trans (Same.new ha10)) hy), upd_same, fun dx10 H10 d10 => ⟨rfl, ?_⟩⟩⟩
    have t10 := er_same ha10 d10
    have s11 := s10.trans t10
    have e10 := er2 (K := K) (i := 10) (r := [m]) rfl rfl (by decide +kernel) d10 (fd_same s11 hx) (fd_same s11 hy)
    have e0 := ErAt.same t10 e0
    have e1 := ErAt.same t10 e1
    have e2 := ErAt.same t10 e2
    have e3 := ErAt.same t10 e3
    have e4 := ErAt.same t10 e4
    have e5 := ErAt.same t10 e5
    have e6 := ErAt.same t10 e6
    have e7 := ErAt.same t10 e7
    have e8 := ErAt.same t10 e8
    have e9 := ErAt.same t10 e9
    refine ⟨sz1 (by simp), fun q10 hq10 => ?_⟩
    have u10 := Same.new hq10 (o := .lst ([a9, a10].map V.ref))
    have r10 : (upd H10 q10 (.lst ([a9, a10].map V.ref))) q10 = some (.lst ([a9, a10].map V.ref)) := upd_same
    have z10 := (((t9).trans t10).trans u10) _ _ p9
    refine ⟨w8, q10, _, _, rfl, rfl, z10, r10, sz1 (by simp), fun w10 hw10 => ?_⟩
    have v10 := u10.trans (Same.new hw10 (o := .lst ([a0, a1, a2, a3, a4, a5, a6, a7, a8, a9, a10].map V.ref)))
    have e0 := ErAt.same v10 e0
    have e1 := ErAt.same v10 e1
    have e2 := ErAt.same v10 e2
    have e3 := ErAt.same v10 e3
    have e4 := ErAt.same v10 e4
    have e5 := ErAt.same v10 e5
    have e6 := ErAt.same v10 e6
    have e7 := ErAt.same v10 e7
    have e8 := ErAt.same v10 e8
    have e9 := ErAt.same v10 e9
    have e10 := ErAt.same v10 e10
    refine q w10 [a0, a1, a2, a3, a4, a5, a6, a7, a8, a9, a10] _ (s11.trans v10) upd_same rfl fun i e hi => ?_
    match i, hi with
    | 0, hi => cases Option.some.inj hi; exact e0
    | 1, hi => cases Option.some.inj hi; exact e1
    | 2, hi => cases Option.some.inj hi; exact e2
    | 3, hi => cases Option.some.inj hi; exact e3
    | 4, hi => cases Option.some.inj hi; exact e4
    | 5, hi => cases Option.some.inj hi; exact e5
    | 6, hi => cases Option.some.inj hi; exact e6
    | 7, hi => cases Option.some.inj hi; exact e7
    | 8, hi => cases Option.some.inj hi; exact e8
    | 9, hi => cases Option.some.inj hi; exact e9
    | 10, hi => cases Option.some.inj hi; exact e10
    | i + 11, hi => simp at hi
end
end K88
namespace K88
open PySem PySem.Spec PyProof.Rows Cm
open L2 hiding Same
/-! ### of which class an error is; its fields -/
section
variable {P : Program} {w : World} {K : PySem.W.Frag} {mg : Str → Option Value} {base : Heap} {sa : Addr} {sx : List Int}
theorem excOf (T : Tx K mg sa sx) {C f : Addr} (E : ExB K C f) : ExcC K C := ⟨(xfB_ok E.xf).ga, (xfB_ok E.xf).gg, (xfB_ok E.xf).exC, (xfB_ok E.xf).hdC, E.cc, x_cget T, x_ctak T, E.mo⟩
theorem er_exc (T : Tx K mg sa sx) {i : Nat} {C : Addr} (h : (erCs K)[i]? = some C) : ExcC K C := by
  match i, h with
  | 0, h => cases Option.some.inj h; exact excOf T (ex_BadText T)
  | 1, h => cases Option.some.inj h; exact excOf T (ex_BadClient T)
  | 2, h => cases Option.some.inj h; exact excOf T (ex_BadManner T)
  | 3, h => cases Option.some.inj h; exact excOf T (ex_BadMoment T)
  | 4, h => cases Option.some.inj h; exact excOf T (ex_NotAssembled T)
  | 5, h => cases Option.some.inj h; exact excOf T (ex_NotLinked T)
  | 6, h => cases Option.some.inj h; exact excOf T (ex_NotLoaded T)
  | 7, h => cases Option.some.inj h; exact excOf T (ex_BadRenaming T)
  | 8, h => cases Option.some.inj h; exact excOf T (ex_TooMany T)
  | 9, h => cases Option.some.inj h; exact excOf T (ex_BadHouse T)
  | 10, h => cases Option.some.inj h; exact excOf T (ex_BadMend T)
  | i + 11, h => simp [erCs] at h
theorem er_lt {i : Nat} {C : Addr} (h : (erCs K)[i]? = some C) : i < 11 := (List.getElem?_eq_some_iff.mp h).1
def isRow (i : Nat) : List V := (List.range 11).map fun j => V.bl (decide (i = j))
def spIsOf (K : PySem.W.Frag) : Sp := fun vs H Q _ => ∃ (e : Addr) (i : Nat) (ks : List OdF), vs = [.ref e] ∧ ErAt K H e i ks ∧ ∀ q H', Same H H' → H' q = some (.lst (isRow i)) → Q (.ref q) H'
theorem ok_l_is_of (T : Tx K mg sa sx) : Cal P w K mg base 1 "_law_is_of" (spIsOf K) := by
  obtain ⟨fd, F⟩ := f_l_is_of T
  refine ⟨_, fd, ["_law_e"], fnok F sc_l_is_of (fun vs H Q E h => ?_) (fun cdv A outer s H vs Q E hr h => ?_), F.bindsN fun _ _ _ _ _ _ us hl => match us, hl with | [_], _ => rfl, g__law_is_of T, F.kp⟩
  · obtain ⟨e, i, ks, rfl, _⟩ := h; rfl
  · obtain ⟨e, i, ks, rfl, ⟨C, dd, l, ns, hC, hn, he, hd, _⟩, q⟩ := h
    refine ⟨_, (pss_cons (ps_set (i := 1) sc_l_is_of.nd rfl (by first | exact Or.inl rfl | exact Or.inr rfl) (pe_lst (pa_cons (pe_callB (id := "isinstance") (r := rIsO K) call_isO rfl (n_isinstance T) (by decide +kernel) (pa_cons (pv 0) (pa_cons (pe_glob (v := .ref _) rfl (g_BadText T) rfl) pa_nil))) (pa_cons (pe_callB (id := "isinstance") (r := rIsO K) call_isO rfl (n_isinstance T) (by decide +kernel) (pa_cons (pv 0) (pa_cons (pe_glob (v := .ref _) rfl (g_BadClient T) rfl) pa_nil))) (pa_cons (pe_callB (id := "isinstance") (r := rIsO K) call_isO rfl (n_isinstance T) (by decide +kernel) (pa_cons (pv 0) (pa_cons (pe_glob (v := .ref _) rfl (g_BadManner T) rfl) pa_nil))) (pa_cons (pe_callB (id := "isinstance") (r := rIsO K) call_isO rfl (n_isinstance T) (by decide +kernel) (pa_cons (pv 0) (pa_cons (pe_glob (v := .ref _) rfl (g_BadMoment T) rfl) pa_nil))) pa_nil))))))
    (pss_cons (ps_set (i := 1) sc_l_is_of.nd rfl (by first | exact Or.inl rfl | exact Or.inr rfl) (pe_op op_cat (pv 1) (pe_lst (pa_cons (pe_callB (id := "isinstance") (r := rIsO K) call_isO rfl (n_isinstance T) (by decide +kernel) (pa_cons (pv 0) (pa_cons (pe_glob (v := .ref _) rfl (g_NotAssembled T) rfl) pa_nil))) (pa_cons (pe_callB (id := "isinstance") (r := rIsO K) call_isO rfl (n_isinstance T) (by decide +kernel) (pa_cons (pv 0) (pa_cons (pe_glob (v := .ref _) rfl (g_NotLinked T) rfl) pa_nil))) (pa_cons (pe_callB (id := "isinstance") (r := rIsO K) call_isO rfl (n_isinstance T) (by decide +kernel) (pa_cons (pv 0) (pa_cons (pe_glob (v := .ref _) rfl (g_NotLoaded T) rfl) pa_nil))) pa_nil))))))
    (pss_one (ps_ret (pe_op op_cat (pv 1) (pe_lst (pa_cons (pe_callB (id := "isinstance") (r := rIsO K) call_isO rfl (n_isinstance T) (by decide +kernel) (pa_cons (pv 0) (pa_cons (pe_glob (v := .ref _) rfl (g_BadRenaming T) rfl) pa_nil))) (pa_cons (pe_callB (id := "isinstance") (r := rIsO K) call_isO rfl (n_isinstance T) (by decide +kernel) (pa_cons (pv 0) (pa_cons (pe_glob (v := .ref _) rfl (g_TooMany T) rfl) pa_nil))) (pa_cons (pe_callB (id := "isinstance") (r := rIsO K) call_isO rfl (n_isinstance T) (by decide +kernel) (pa_cons (pv 0) (pa_cons (pe_glob (v := .ref _) rfl (g_BadHouse T) rfl) pa_nil))) (pa_cons (pe_callB (id := "isinstance") (r := rIsO K) call_isO rfl (n_isinstance T) (by decide +kernel) (pa_cons (pv 0) (pa_cons (pe_glob (v := .ref _) rfl (g_BadMend T) rfl) pa_nil))) pa_nil)))))))))), ?_⟩
    have X := er_exc T hC
    have kit := fun {j : Nat} {d : Addr} (h : (erCs K)[j]? = some d) => (kitB_ok (x_kits T) hC).1 h
    refine ⟨_, rfl, e, C, dd, l, _, _, _, rfl, he, hd, X, .own _, kit (j := 0) rfl, ?_⟩
    refine ⟨_, rfl, e, C, dd, l, _, _, _, rfl, he, hd, X, .own _, kit (j := 1) rfl, ?_⟩
    refine ⟨_, rfl, e, C, dd, l, _, _, _, rfl, he, hd, X, .own _, kit (j := 2) rfl, ?_⟩
    refine ⟨_, rfl, e, C, dd, l, _, _, _, rfl, he, hd, X, .own _, kit (j := 3) rfl, ?_⟩
    refine ⟨sz1 (by simp), fun q1 h1 => ⟨_, rfl, ?_⟩⟩
    have s1 := Same.new h1 (o := .lst [V.bl (decide (i = 0)), V.bl (decide (i = 1)), V.bl (decide (i = 2)), V.bl (decide (i = 3))])
    have r1 : (upd H q1 (.lst [V.bl (decide (i = 0)), V.bl (decide (i = 1)), V.bl (decide (i = 2)), V.bl (decide (i = 3))])) q1 = some (.lst [V.bl (decide (i = 0)), V.bl (decide (i = 1)), V.bl (decide (i = 2)), V.bl (decide (i = 3))]) := upd_same
    generalize upd H q1 (.lst [V.bl (decide (i = 0)), V.bl (decide (i = 1)), V.bl (decide (i = 2)), V.bl (decide (i = 3))]) = H1 at s1 r1 ⊢
    refine ⟨_, rfl, e, C, dd, l, _, _, _, rfl, (s1 _ _ he), (s1 _ _ hd), X, .own _, kit (j := 4) rfl, ?_⟩
    refine ⟨_, rfl, e, C, dd, l, _, _, _, rfl, (s1 _ _ he), (s1 _ _ hd), X, .own _, kit (j := 5) rfl, ?_⟩
    refine ⟨_, rfl, e, C, dd, l, _, _, _, rfl, (s1 _ _ he), (s1 _ _ hd), X, .own _, kit (j := 6) rfl, ?_⟩
    refine ⟨sz1 (by simp), fun q2 h2 => ?_⟩
    have s2 := Same.new h2 (o := .lst [V.bl (decide (i = 4)), V.bl (decide (i = 5)), V.bl (decide (i = 6))])
    refine ⟨q1, q2, _, _, rfl, rfl, s2 _ _ r1, upd_same, sz1 (by simp), fun q3 h3 => ⟨_, rfl, ?_⟩⟩
    have s3 := s2.trans (Same.new h3 (o := .lst ([V.bl (decide (i = 0)), V.bl (decide (i = 1)), V.bl (decide (i = 2)), V.bl (decide (i = 3))] ++ [V.bl (decide (i = 4)), V.bl (decide (i = 5)), V.bl (decide (i = 6))])))
    have r3 : (upd (upd H1 q2 (.lst [V.bl (decide (i = 4)), V.bl (decide (i = 5)), V.bl (decide (i = 6))])) q3 (.lst ([V.bl (decide (i = 0)), V.bl (decide (i = 1)), V.bl (decide (i = 2)), V.bl (decide (i = 3))] ++ [V.bl (decide (i = 4)), V.bl (decide (i = 5)), V.bl (decide (i = 6))]))) q3 = some (.lst ([V.bl (decide (i = 0)), V.bl (decide (i = 1)), V.bl (decide (i = 2)), V.bl (decide (i = 3))] ++ [V.bl (decide (i = 4)), V.bl (decide (i = 5)), V.bl (decide (i = 6))])) := upd_same
    generalize upd (upd H1 q2 (.lst [V.bl (decide (i = 4)), V.bl (decide (i = 5)), V.bl (decide (i = 6))])) q3 (.lst ([V.bl (decide (i = 0)), V.bl (decide (i = 1)), V.bl (decide (i = 2)), V.bl (decide (i = 3))] ++ [V.bl (decide (i = 4)), V.bl (decide (i = 5)), V.bl (decide (i = 6))])) = H3 at s3 r3 ⊢
    refine ⟨_, rfl, e, C, dd, l, _, _, _, rfl, ((s1.trans s3) _ _ he), ((s1.trans s3) _ _ hd), X, .own _, kit (j := 7) rfl, ?_⟩
    refine ⟨_, rfl, e, C, dd, l, _, _, _, rfl, ((s1.trans s3) _ _ he), ((s1.trans s3) _ _ hd), X, .own _, kit (j := 8) rfl, ?_⟩
    refine ⟨_, rfl, e, C, dd, l, _, _, _, rfl, ((s1.trans s3) _ _ he), ((s1.trans s3) _ _ hd), X, .own _, kit (j := 9) rfl, ?_⟩
    refine ⟨_, rfl, e, C, dd, l, _, _, _, rfl, ((s1.trans s3) _ _ he), ((s1.trans s3) _ _ hd), X, .own _, kit (j := 10) rfl, ?_⟩
    refine ⟨sz1 (by simp), fun q4 h4 => ?_⟩
    have s4 := Same.new h4 (o := .lst [V.bl (decide (i = 7)), V.bl (decide (i = 8)), V.bl (decide (i = 9)), V.bl (decide (i = 10))])
    refine ⟨q3, q4, _, _, rfl, rfl, s4 _ _ r3, upd_same, sz1 (by simp), fun q5 h5 => ?_⟩
    exact q q5 _ ((s1.trans s3).trans (s4.trans (Same.new h5))) upd_same
def spFlds (K : PySem.W.Frag) : Sp := fun vs H Q _ => ∃ (e : Addr) (i : Nat) (k l m : OdF), vs = [.int i, .ref e] ∧ ErAt K H e i [k, l, m] ∧ ∀ (q : Addr) (ys : List V) H', Same H H' → H' q = some (.lst ys) → 1 ≤ ys.length → ys.length ≤ 3 → (∀ (j : Nat) (y : V) (o : OdF), ys[j]? = some y → ([k, l, m] : List OdF)[j]? = some o → FdAt H' y o) → Q (.ref q) H'
theorem ok_l_fields (T : Tx K mg sa sx) : Cal P w K mg base 1 "_law_fields" (spFlds K) := by
  obtain ⟨fd, F⟩ := f_l_fields T
  refine ⟨_, fd, ["_law_k", "_law_e"], fnok F sc_l_fields (fun vs H Q E h => ?_) (fun cdv A outer s H vs Q E hr h => ?_), F.bindsN fun _ _ _ _ _ _ us hl => match us, hl with | [_, _], _ => rfl, g__law_fields T, F.kp⟩
  · obtain ⟨e, i, k, l, m, rfl, _⟩ := h; rfl
  · obtain ⟨e, i, k, l, m, rfl, ⟨C, dd, fs, ns, hC, hn, he, hd, hf⟩, q⟩ := h
    refine ⟨_, (pss_cons (ps_if (pt_cmpR op_eq (pv 0) pe_int (nomark _)) (pss_one (ps_ret (pe_lst (pa_cons (pe_oxf (pv 1)) (pa_cons (pe_oxf (pv 1)) pa_nil))))) pss_nil)
    (pss_cons (ps_if (pt_cmpR op_eq (pv 0) pe_int (nomark _)) (pss_one (ps_ret (pe_lst (pa_cons (pe_oxf (pv 1)) (pa_cons (pe_oxf (pv 1)) (pa_cons (pe_oxf (pv 1)) pa_nil)))))) pss_nil)
    (pss_cons (ps_if (pt_cmpR op_eq (pv 0) pe_int (nomark _)) (pss_one (ps_ret (pe_lst (pa_cons (pe_oxf (pv 1)) pa_nil)))) pss_nil)
    (pss_cons (ps_if (pt_cmpR op_eq (pv 0) pe_int (nomark _)) (pss_one (ps_ret (pe_lst (pa_cons (pe_oxf (pv 1)) pa_nil)))) pss_nil)
    (pss_cons (ps_if (pt_cmpR op_eq (pv 0) pe_int (nomark _)) (pss_one (ps_ret (pe_lst (pa_cons (pe_oxf (pv 1)) (pa_cons (pe_oxf (pv 1)) pa_nil))))) pss_nil)
    (pss_cons (ps_if (pt_cmpR op_in_seq (pv 0) (pe_lst (pa_cons pe_int (pa_cons pe_int pa_nil))) (by rfl)) (pss_one (ps_ret (pe_lst (pa_cons (pe_oxf (pv 1)) (pa_cons (pe_oxf (pv 1)) (pa_cons (pe_oxf (pv 1)) pa_nil)))))) pss_nil)
    (pss_cons (ps_if (pt_cmpR op_in_seq (pv 0) (pe_lst (pa_cons pe_int (pa_cons pe_int pa_nil))) (by rfl)) (pss_one (ps_ret (pe_lst (pa_cons (pe_oxf (pv 1)) pa_nil)))) pss_nil)
    (pss_one (ps_ret (pe_ifExp (pt_cmpR op_eq (pv 0) pe_int (nomark _)) (pe_lst (pa_cons (pe_oxf (pv 1)) pa_nil)) (pe_lst (pa_cons (pe_oxf (pv 1)) (pa_cons (pe_oxf (pv 1)) pa_nil))))))))))))), ?_⟩
    have fin : ∀ (ys : List V) (H0 : Hp), Same H H0 → 1 ≤ ys.length → ys.length ≤ 3 → (∀ (j : Nat) (y : V) (o : OdF), ys[j]? = some y → ([k, l, m] : List OdF)[j]? = some o → FdAt H y o) → ys.length ≤ sizeLine ∧ ∀ p, H0 p = none → Q (.ref p) (upd H0 p (.lst ys)) := fun ys H0 s0 l1 l3 h =>
      ⟨sz1 (by omega), fun p hp => q p ys _ (s0.trans (Same.new hp)) upd_same l1 l3 fun j y o hj ho => fd_same (s0.trans (Same.new hp)) (h j y o hj ho)⟩
    match i, hC, hn with
    | 0, hC, hn =>
      cases Option.some.inj hC; cases Option.some.inj hn
      obtain ⟨v0, l0, f0⟩ := hf 0 _ _ rfl rfl
      obtain ⟨v1, l1, f1⟩ := hf 1 _ _ rfl rfl
      refine ⟨_, rfl, rfl, _, rfl, tT rfl ?_⟩
      refine ⟨_, rfl, e, _, dd, fs, v0, rfl, he, hd, xfB_ok (ex_BadText T).xf, x_no_BadText_row T, l0, ?_⟩
      refine ⟨_, rfl, e, _, dd, fs, v1, rfl, he, hd, xfB_ok (ex_BadText T).xf, x_no_BadText_cause T, l1, ?_⟩
      refine fin [v0, v1] _ (Cm.Same.refl _) (by simp) (by simp) fun j y o hj ho => ?_
      match j, hj, ho with
      | 0, hj, ho => cases Option.some.inj hj; cases Option.some.inj ho; exact f0
      | 1, hj, ho => cases Option.some.inj hj; cases Option.some.inj ho; exact f1
      | j + 2, hj, _ => simp at hj
    | 1, hC, hn =>
      cases Option.some.inj hC; cases Option.some.inj hn
      obtain ⟨v0, l0, f0⟩ := hf 0 _ _ rfl rfl
      obtain ⟨v1, l1, f1⟩ := hf 1 _ _ rfl rfl
      obtain ⟨v2, l2, f2⟩ := hf 2 _ _ rfl rfl
      refine ⟨_, rfl, rfl, _, rfl, tF (by decide) ?_⟩
      refine ⟨_, rfl, rfl, _, rfl, tT rfl ?_⟩
      refine ⟨_, rfl, e, _, dd, fs, v0, rfl, he, hd, xfB_ok (ex_BadClient T).xf, x_no_BadClient_at T, l0, ?_⟩
      refine ⟨_, rfl, e, _, dd, fs, v1, rfl, he, hd, xfB_ok (ex_BadClient T).xf, x_no_BadClient_row T, l1, ?_⟩
      refine ⟨_, rfl, e, _, dd, fs, v2, rfl, he, hd, xfB_ok (ex_BadClient T).xf, x_no_BadClient_cause T, l2, ?_⟩
      refine fin [v0, v1, v2] _ (Cm.Same.refl _) (by simp) (by simp) fun j y o hj ho => ?_
      match j, hj, ho with
      | 0, hj, ho => cases Option.some.inj hj; cases Option.some.inj ho; exact f0
      | 1, hj, ho => cases Option.some.inj hj; cases Option.some.inj ho; exact f1
      | 2, hj, ho => cases Option.some.inj hj; cases Option.some.inj ho; exact f2
      | j + 3, hj, _ => simp at hj
    | 2, hC, hn =>
      cases Option.some.inj hC; cases Option.some.inj hn
      obtain ⟨v0, l0, f0⟩ := hf 0 _ _ rfl rfl
      refine ⟨_, rfl, rfl, _, rfl, tF (by decide) ?_⟩
      refine ⟨_, rfl, rfl, _, rfl, tF (by decide) ?_⟩
      refine ⟨_, rfl, rfl, _, rfl, tT rfl ?_⟩
      refine ⟨_, rfl, e, _, dd, fs, v0, rfl, he, hd, xfB_ok (ex_BadManner T).xf, x_no_BadManner_name T, l0, ?_⟩
      refine fin [v0] _ (Cm.Same.refl _) (by simp) (by simp) fun j y o hj ho => ?_
      match j, hj, ho with
      | 0, hj, ho => cases Option.some.inj hj; cases Option.some.inj ho; exact f0
      | j + 1, hj, _ => simp at hj
    | 3, hC, hn =>
      cases Option.some.inj hC; cases Option.some.inj hn
      obtain ⟨v0, l0, f0⟩ := hf 0 _ _ rfl rfl
      refine ⟨_, rfl, rfl, _, rfl, tF (by decide) ?_⟩
      refine ⟨_, rfl, rfl, _, rfl, tF (by decide) ?_⟩
      refine ⟨_, rfl, rfl, _, rfl, tF (by decide) ?_⟩
      refine ⟨_, rfl, rfl, _, rfl, tT rfl ?_⟩
      refine ⟨_, rfl, e, _, dd, fs, v0, rfl, he, hd, xfB_ok (ex_BadMoment T).xf, x_no_BadMoment_moment T, l0, ?_⟩
      refine fin [v0] _ (Cm.Same.refl _) (by simp) (by simp) fun j y o hj ho => ?_
      match j, hj, ho with
      | 0, hj, ho => cases Option.some.inj hj; cases Option.some.inj ho; exact f0
      | j + 1, hj, _ => simp at hj
    | 4, hC, hn =>
      cases Option.some.inj hC; cases Option.some.inj hn
      obtain ⟨v0, l0, f0⟩ := hf 0 _ _ rfl rfl
      obtain ⟨v1, l1, f1⟩ := hf 1 _ _ rfl rfl
      refine ⟨_, rfl, rfl, _, rfl, tF (by decide) ?_⟩
      refine ⟨_, rfl, rfl, _, rfl, tF (by decide) ?_⟩
      refine ⟨_, rfl, rfl, _, rfl, tF (by decide) ?_⟩
      refine ⟨_, rfl, rfl, _, rfl, tF (by decide) ?_⟩
      refine ⟨_, rfl, rfl, _, rfl, tT rfl ?_⟩
      refine ⟨_, rfl, e, _, dd, fs, v0, rfl, he, hd, xfB_ok (ex_NotAssembled T).xf, x_no_NotAssembled_unit T, l0, ?_⟩
      refine ⟨_, rfl, e, _, dd, fs, v1, rfl, he, hd, xfB_ok (ex_NotAssembled T).xf, x_no_NotAssembled_name T, l1, ?_⟩
      refine fin [v0, v1] _ (Cm.Same.refl _) (by simp) (by simp) fun j y o hj ho => ?_
      match j, hj, ho with
      | 0, hj, ho => cases Option.some.inj hj; cases Option.some.inj ho; exact f0
      | 1, hj, ho => cases Option.some.inj hj; cases Option.some.inj ho; exact f1
      | j + 2, hj, _ => simp at hj
    | 5, hC, hn =>
      cases Option.some.inj hC; cases Option.some.inj hn
      obtain ⟨v0, l0, f0⟩ := hf 0 _ _ rfl rfl
      obtain ⟨v1, l1, f1⟩ := hf 1 _ _ rfl rfl
      obtain ⟨v2, l2, f2⟩ := hf 2 _ _ rfl rfl
      refine ⟨_, rfl, rfl, _, rfl, tF (by decide) ?_⟩
      refine ⟨_, rfl, rfl, _, rfl, tF (by decide) ?_⟩
      refine ⟨_, rfl, rfl, _, rfl, tF (by decide) ?_⟩
      refine ⟨_, rfl, rfl, _, rfl, tF (by decide) ?_⟩
      refine ⟨_, rfl, rfl, _, rfl, tF (by decide) ?_⟩
      refine ⟨_, rfl, sz1 (by simp), fun z1 g1 => ⟨z1, _, rfl, .inl (SqL.of upd_same), rfl, (by rfl), _, rfl, ?_⟩⟩
      have w1 := Same.new g1 (o := .lst [V.int 5, V.int 6])
      refine iteT ?_
      refine ⟨_, rfl, e, _, dd, fs, v0, rfl, (w1 _ _ he), (w1 _ _ hd), xfB_ok (ex_NotLinked T).xf, x_no_NotLinked_cause T, l0, ?_⟩
      refine ⟨_, rfl, e, _, dd, fs, v1, rfl, (w1 _ _ he), (w1 _ _ hd), xfB_ok (ex_NotLinked T).xf, x_no_NotLinked_unit T, l1, ?_⟩
      refine ⟨_, rfl, e, _, dd, fs, v2, rfl, (w1 _ _ he), (w1 _ _ hd), xfB_ok (ex_NotLinked T).xf, x_no_NotLinked_name T, l2, ?_⟩
      refine fin [v0, v1, v2] _ w1 (by simp) (by simp) fun j y o hj ho => ?_
      match j, hj, ho with
      | 0, hj, ho => cases Option.some.inj hj; cases Option.some.inj ho; exact f0
      | 1, hj, ho => cases Option.some.inj hj; cases Option.some.inj ho; exact f1
      | 2, hj, ho => cases Option.some.inj hj; cases Option.some.inj ho; exact f2
      | j + 3, hj, _ => simp at hj
    | 6, hC, hn =>
      cases Option.some.inj hC; cases Option.some.inj hn
      obtain ⟨v0, l0, f0⟩ := hf 0 _ _ rfl rfl
      obtain ⟨v1, l1, f1⟩ := hf 1 _ _ rfl rfl
      obtain ⟨v2, l2, f2⟩ := hf 2 _ _ rfl rfl
      refine ⟨_, rfl, rfl, _, rfl, tF (by decide) ?_⟩
      refine ⟨_, rfl, rfl, _, rfl, tF (by decide) ?_⟩
      refine ⟨_, rfl, rfl, _, rfl, tF (by decide) ?_⟩
      refine ⟨_, rfl, rfl, _, rfl, tF (by decide) ?_⟩
      refine ⟨_, rfl, rfl, _, rfl, tF (by decide) ?_⟩
      refine ⟨_, rfl, sz1 (by simp), fun z1 g1 => ⟨z1, _, rfl, .inl (SqL.of upd_same), rfl, (by rfl), _, rfl, ?_⟩⟩
      have w1 := Same.new g1 (o := .lst [V.int 5, V.int 6])
      refine iteT ?_
      refine ⟨_, rfl, e, _, dd, fs, v0, rfl, (w1 _ _ he), (w1 _ _ hd), xfB_ok (ex_NotLoaded T).xf, x_no_NotLoaded_cause T, l0, ?_⟩
      refine ⟨_, rfl, e, _, dd, fs, v1, rfl, (w1 _ _ he), (w1 _ _ hd), xfB_ok (ex_NotLoaded T).xf, x_no_NotLoaded_unit T, l1, ?_⟩
      refine ⟨_, rfl, e, _, dd, fs, v2, rfl, (w1 _ _ he), (w1 _ _ hd), xfB_ok (ex_NotLoaded T).xf, x_no_NotLoaded_name T, l2, ?_⟩
      refine fin [v0, v1, v2] _ w1 (by simp) (by simp) fun j y o hj ho => ?_
      match j, hj, ho with
      | 0, hj, ho => cases Option.some.inj hj; cases Option.some.inj ho; exact f0
      | 1, hj, ho => cases Option.some.inj hj; cases Option.some.inj ho; exact f1
      | 2, hj, ho => cases Option.some.inj hj; cases Option.some.inj ho; exact f2
      | j + 3, hj, _ => simp at hj
    | 7, hC, hn =>
      cases Option.some.inj hC; cases Option.some.inj hn
      obtain ⟨v0, l0, f0⟩ := hf 0 _ _ rfl rfl
      refine ⟨_, rfl, rfl, _, rfl, tF (by decide) ?_⟩
      refine ⟨_, rfl, rfl, _, rfl, tF (by decide) ?_⟩
      refine ⟨_, rfl, rfl, _, rfl, tF (by decide) ?_⟩
      refine ⟨_, rfl, rfl, _, rfl, tF (by decide) ?_⟩
      refine ⟨_, rfl, rfl, _, rfl, tF (by decide) ?_⟩
      refine ⟨_, rfl, sz1 (by simp), fun z1 g1 => ⟨z1, _, rfl, .inl (SqL.of upd_same), rfl, (by rfl), _, rfl, ?_⟩⟩
      have w1 := Same.new g1 (o := .lst [V.int 5, V.int 6])
      refine iteF ?_
      refine ⟨_, rfl, sz1 (by simp), fun z2 g2 => ⟨z2, _, rfl, .inl (SqL.of upd_same), rfl, (by rfl), _, rfl, ?_⟩⟩
      have w2 := w1.trans (Same.new g2 (o := .lst [V.int 7, V.int 9]))
      refine iteT ?_
      refine ⟨_, rfl, e, _, dd, fs, v0, rfl, (w2 _ _ he), (w2 _ _ hd), xfB_ok (ex_BadRenaming T).xf, x_no_BadRenaming_at T, l0, ?_⟩
      refine fin [v0] _ w2 (by simp) (by simp) fun j y o hj ho => ?_
      match j, hj, ho with
      | 0, hj, ho => cases Option.some.inj hj; cases Option.some.inj ho; exact f0
      | j + 1, hj, _ => simp at hj
    | 8, hC, hn =>
      cases Option.some.inj hC; cases Option.some.inj hn
      obtain ⟨v0, l0, f0⟩ := hf 0 _ _ rfl rfl
      refine ⟨_, rfl, rfl, _, rfl, tF (by decide) ?_⟩
      refine ⟨_, rfl, rfl, _, rfl, tF (by decide) ?_⟩
      refine ⟨_, rfl, rfl, _, rfl, tF (by decide) ?_⟩
      refine ⟨_, rfl, rfl, _, rfl, tF (by decide) ?_⟩
      refine ⟨_, rfl, rfl, _, rfl, tF (by decide) ?_⟩
      refine ⟨_, rfl, sz1 (by simp), fun z1 g1 => ⟨z1, _, rfl, .inl (SqL.of upd_same), rfl, (by rfl), _, rfl, ?_⟩⟩
      have w1 := Same.new g1 (o := .lst [V.int 5, V.int 6])
      refine iteF ?_
      refine ⟨_, rfl, sz1 (by simp), fun z2 g2 => ⟨z2, _, rfl, .inl (SqL.of upd_same), rfl, (by rfl), _, rfl, ?_⟩⟩
      have w2 := w1.trans (Same.new g2 (o := .lst [V.int 7, V.int 9]))
      refine iteF ?_
      refine ⟨_, rfl, rfl, _, rfl, tT rfl ?_⟩
      refine ⟨_, rfl, e, _, dd, fs, v0, rfl, (w2 _ _ he), (w2 _ _ hd), xfB_ok (ex_TooMany T).xf, x_no_TooMany_what T, l0, ?_⟩
      refine fin [v0] _ w2 (by simp) (by simp) fun j y o hj ho => ?_
      match j, hj, ho with
      | 0, hj, ho => cases Option.some.inj hj; cases Option.some.inj ho; exact f0
      | j + 1, hj, _ => simp at hj
    | 9, hC, hn =>
      cases Option.some.inj hC; cases Option.some.inj hn
      obtain ⟨v0, l0, f0⟩ := hf 0 _ _ rfl rfl
      refine ⟨_, rfl, rfl, _, rfl, tF (by decide) ?_⟩
      refine ⟨_, rfl, rfl, _, rfl, tF (by decide) ?_⟩
      refine ⟨_, rfl, rfl, _, rfl, tF (by decide) ?_⟩
      refine ⟨_, rfl, rfl, _, rfl, tF (by decide) ?_⟩
      refine ⟨_, rfl, rfl, _, rfl, tF (by decide) ?_⟩
      refine ⟨_, rfl, sz1 (by simp), fun z1 g1 => ⟨z1, _, rfl, .inl (SqL.of upd_same), rfl, (by rfl), _, rfl, ?_⟩⟩
      have w1 := Same.new g1 (o := .lst [V.int 5, V.int 6])
      refine iteF ?_
      refine ⟨_, rfl, sz1 (by simp), fun z2 g2 => ⟨z2, _, rfl, .inl (SqL.of upd_same), rfl, (by rfl), _, rfl, ?_⟩⟩
      have w2 := w1.trans (Same.new g2 (o := .lst [V.int 7, V.int 9]))
      refine iteT ?_
      refine ⟨_, rfl, e, _, dd, fs, v0, rfl, (w2 _ _ he), (w2 _ _ hd), xfB_ok (ex_BadHouse T).xf, x_no_BadHouse_at T, l0, ?_⟩
      refine fin [v0] _ w2 (by simp) (by simp) fun j y o hj ho => ?_
      match j, hj, ho with
      | 0, hj, ho => cases Option.some.inj hj; cases Option.some.inj ho; exact f0
      | j + 1, hj, _ => simp at hj
    | 10, hC, hn =>
      cases Option.some.inj hC; cases Option.some.inj hn
      obtain ⟨v0, l0, f0⟩ := hf 0 _ _ rfl rfl
      obtain ⟨v1, l1, f1⟩ := hf 1 _ _ rfl rfl
      refine ⟨_, rfl, rfl, _, rfl, tF (by decide) ?_⟩
      refine ⟨_, rfl, rfl, _, rfl, tF (by decide) ?_⟩
      refine ⟨_, rfl, rfl, _, rfl, tF (by decide) ?_⟩
      refine ⟨_, rfl, rfl, _, rfl, tF (by decide) ?_⟩
      refine ⟨_, rfl, rfl, _, rfl, tF (by decide) ?_⟩
      refine ⟨_, rfl, sz1 (by simp), fun z1 g1 => ⟨z1, _, rfl, .inl (SqL.of upd_same), rfl, (by rfl), _, rfl, ?_⟩⟩
      have w1 := Same.new g1 (o := .lst [V.int 5, V.int 6])
      refine iteF ?_
      refine ⟨_, rfl, sz1 (by simp), fun z2 g2 => ⟨z2, _, rfl, .inl (SqL.of upd_same), rfl, (by rfl), _, rfl, ?_⟩⟩
      have w2 := w1.trans (Same.new g2 (o := .lst [V.int 7, V.int 9]))
      refine iteF ?_
      refine ⟨_, rfl, rfl, _, rfl, tF (by decide) ?_⟩
      refine ⟨_, rfl, e, _, dd, fs, v0, rfl, (w2 _ _ he), (w2 _ _ hd), xfB_ok (ex_BadMend T).xf, x_no_BadMend_at T, l0, ?_⟩
      refine ⟨_, rfl, e, _, dd, fs, v1, rfl, (w2 _ _ he), (w2 _ _ hd), xfB_ok (ex_BadMend T).xf, x_no_BadMend_cause T, l1, ?_⟩
      refine fin [v0, v1] _ w2 (by simp) (by simp) fun j y o hj ho => ?_
      match j, hj, ho with
      | 0, hj, ho => cases Option.some.inj hj; cases Option.some.inj ho; exact f0
      | 1, hj, ho => cases Option.some.inj hj; cases Option.some.inj ho; exact f1
      | j + 2, hj, _ => simp at hj
    | i + 11, hC, _ => simp [erCs] at hC
end
end K88
namespace K88
open PySem PySem.Spec PyProof.Rows Cm
open L2 hiding Same
/-! ### the errors hold what they were made with -/
def fdD : OdF → PyData
  | .non => .none
  | .tru => .bool true
  | .int i => .int i
  | .str z => .str z
  | .tup => .tuple [.str "x", .int 1]
theorem dp_fd {K : PySem.W.Frag} {H : Hp} {x : V} {k : OdF} (h : FdAt H x k) : Dp K H x (fdD k) := by
  cases k with
  | non => cases (show x = .non from h); exact .non
  | tru => cases (show x = .bl true from h); exact .bl true
  | int i => obtain ⟨rfl, _⟩ := h; exact .int i
  | str z => obtain ⟨rfl, _⟩ := h; exact .str z
  | tup => obtain ⟨a, rfl, h⟩ := h; exact .tup (SqT.of h) (.cons (.str _) (.cons (.int _) .nil))
theorem fd_lay {H : Hp} {x : V} {k : OdF} (h : FdAt H x k) : (fdD k).canLay0 = true ∧ (fdD k).depth ≤ 1 := by
  cases k with
  | non => exact ⟨by simp [fdD, PyData.canLay0], by simp [fdD, PyData.depth]⟩
  | tru => exact ⟨by simp [fdD, PyData.canLay0], by simp [fdD, PyData.depth]⟩
  | int i => exact ⟨by simp [fdD, PyData.canLay0], by simp [fdD, PyData.depth]⟩
  | str z =>
    obtain ⟨_, _, hc⟩ := h
    refine ⟨?_, by simp [fdD, PyData.depth]⟩
    show (PyData.str z).canLay0 = true
    rw [PyData.canLay0]
    unfold PyData.strOk
    rw [← Array.all_toList, List.all_eq_true]
    exact fun c h => decide_eq_true (Nat.lt_of_lt_of_le (hc c h) (by decide))
  | tup => exact ⟨by simp [fdD, PyData.canLay0, PyData.canLayAll0, show PyData.strOk "x" = true by decide +kernel], by simp [fdD, PyData.depth, PyData.depthAll]⟩
theorem lay_all : ∀ {l : List PyData}, (∀ d ∈ l, d.canLay0 = true ∧ d.depth ≤ 1) → PyData.canLayAll0 l = true ∧ PyData.depthAll l ≤ 1
  | [], _ => ⟨by rw [PyData.canLayAll0], by rw [PyData.depthAll]; decide⟩
  | d :: l, h => by
    obtain ⟨i1, i2⟩ := lay_all fun z hz => h z (List.mem_cons_of_mem _ hz)
    obtain ⟨g1, g2⟩ := h d List.mem_cons_self
    rw [PyData.canLayAll0, PyData.depthAll, i1, g1]
    exact ⟨rfl, by omega⟩
theorem lay_list {l : List PyData} (h : ∀ d ∈ l, d.canLay0 = true ∧ d.depth ≤ 1) : SeqAt.shaped (.list l) = true ∧ PyData.eqv (.list l) (.list l) = true := by
  obtain ⟨h1, h2⟩ := lay_all h
  have e : (PyData.list l).canLay0 = true := by rw [PyData.canLay0]; exact h1
  refine ⟨?_, SeqAt.eqv_refl _ e⟩
  show ((PyData.list l).canLay0 && decide ((PyData.list l).depth ≤ 64)) = true
  rw [e, PyData.depth, Bool.true_and]
  exact decide_eq_true (by omega)
theorem dp_take {K : PySem.W.Frag} {H : Hp} : ∀ (ys : List V) (ks : List OdF), ys.length ≤ ks.length → (∀ (j : Nat) (y : V) (o : OdF), ys[j]? = some y → ks[j]? = some o → FdAt H y o) → DpAll K H ys ((ks.take ys.length).map fdD)
  | [], _, _, _ => by simpa using DpAll.nil
  | y :: ys, [], l, _ => by simp at l
  | y :: ys, k :: ks, l, h => .cons (dp_fd (h 0 y k rfl rfl)) (dp_take ys ks (by simpa using l) fun j y o a b => h (j + 1) y o a b)
theorem fd_take {H : Hp} : ∀ (ys : List V) (ks : List OdF), (∀ (j : Nat) (y : V) (o : OdF), ys[j]? = some y → ks[j]? = some o → FdAt H y o) → ∀ d ∈ (ks.take ys.length).map fdD, d.canLay0 = true ∧ d.depth ≤ 1
  | [], _, _, d, hd => by simp at hd
  | y :: ys, [], _, d, hd => by simp at hd
  | y :: ys, k :: ks, h, d, hd => by
    rw [List.length_cons, List.take_succ_cons, List.map_cons] at hd
    rcases List.mem_cons.mp hd with rfl | hd
    · exact fd_lay (h 0 y k rfl rfl)
    · exact fd_take ys ks (fun j y o a b => h (j + 1) y o a b) d hd
theorem cut_takeN (xs : List V) (k : Nat) : cutV xs none (some (k : Int)) = xs.take k := by
  unfold cutV
  rw [HT.sIx_none, HT.sIx_nat, Nat.sub_zero, List.drop_zero]
  exact (List.take_eq_take_min ..).symm
theorem fd_pool {K : PySem.W.Frag} {sa : Addr} {sx : List Int} {H H' : Hp} {p : Addr} {x : V} {k : OdF} (hP : PoolAt K sa sx H p) (kp : Kp p H H') (h : FdAt H x k) : FdAt H' x k := by
  cases k with
  | tup => obtain ⟨b, e, h⟩ := h; exact ⟨b, e, kp _ _ (pool_tup hP h) h⟩
  | _ => exact h
def spHold (K : PySem.W.Frag) (sa : Addr) (sx : List Int) : Sp := fun vs H Q _ => ∃ (p : Addr), vs = [.ref p] ∧ PoolAt K sa sx H p ∧ ∀ H', Kp p H H' → PoolAt K sa sx H' p → Q (.bl true) H'
section
variable {P : Program} {w : World} {K : PySem.W.Frag} {mg : Str → Option Value} {base : Heap} {sa : Addr} {sx : List Int}
theorem ok_l_errors_hold (T : Tx K mg sa sx) (hP : PF P) : Cal P w K mg base 7 "_law_errors_hold" (spHold K sa sx) := by
  obtain ⟨fd, F⟩ := f_l_errors_hold T
  refine ⟨_, fd, ["_law_pool"], fnok F sc_l_errors_hold (fun vs H Q E h => ?_) (fun cdv A outer s H vs Q E hr h => ?_), F.bindsN fun _ _ _ _ _ _ us hl => match us, hl with | [_], _ => rfl, g__law_errors_hold T, F.kp⟩
  · obtain ⟨p, rfl, _⟩ := h; rfl
  · obtain ⟨p, rfl, hp, q⟩ := h
    have okE : Cal P w K mg base 6 "_law_errors" (spErrs K) := ok_l_errors T hP
    refine ⟨_, (pss_cons (ps_set (i := 1) sc_l_errors_hold.nd rfl (by first | exact Or.inl rfl | exact Or.inr rfl) (pe_cal (ok_l_field T) hr (by decide) (pa_cons (pv 0) pa_nil)))
    (pss_cons (ps_set (i := 2) sc_l_errors_hold.nd rfl (by first | exact Or.inl rfl | exact Or.inr rfl) (pe_cal (ok_l_field T) hr (by decide) (pa_cons (pv 0) pa_nil)))
    (pss_cons (ps_set (i := 3) sc_l_errors_hold.nd rfl (by first | exact Or.inl rfl | exact Or.inr rfl) (pe_cal (ok_l_field T) hr (by decide) (pa_cons (pv 0) pa_nil)))
    (pss_cons (ps_set (i := 4) sc_l_errors_hold.nd rfl (by first | exact Or.inl rfl | exact Or.inr rfl) (pe_cal okE hr (by decide) (pa_cons (pv 1) (pa_cons (pv 2) (pa_cons (pv 3) pa_nil)))))
    (pss_cons (ps_for PassesOwn.never rfl (pi_range1 rfl (n_range T) (pa_cons (pe_callB (id := "len") call_len_seq rfl (n_len T) (by decide +kernel) (pa_cons (pv 4) pa_nil)) pa_nil)) (pg_name (i := 5) sc_l_errors_hold.nd rfl (by first | exact Or.inl rfl | exact Or.inr rfl))
      (pss_cons (ps_set (i := 6) sc_l_errors_hold.nd rfl (by first | exact Or.inl rfl | exact Or.inr rfl) (pe_cal (ok_l_fields T) hr (by decide) (pa_cons (pv 5) (pa_cons (pe_ix ix_list (pv 4) (pv 5) (fun _ _ => rfl)) pa_nil))))
      (pss_cons (ps_if (pt_cmpR (op_neD hr.units) (pv 6) (pe_slice sl_list (pe_lst (pa_cons (pv 1) (pa_cons (pv 2) (pa_cons (pv 3) pa_nil)))) po_none (po_some (pe_callB (id := "len") call_len_seq rfl (n_len T) (by decide +kernel) (pa_cons (pv 6) pa_nil)))) (nomark _)) (pss_one (ps_ret pe_bl)) pss_nil)
      (pss_cons (ps_if (pt_cmpR (op_neD hr.units) (pe_cal (ok_l_is_of T) hr (by decide) (pa_cons (pe_ix ix_list (pv 4) (pv 5) (fun _ _ => rfl)) pa_nil)) (pe_lc (own := [("_law_j", 7)]) (g := gName 7) rfl sc_l_errors_hold.nd (pi_range1 rfl (n_range T) (pa_cons (pe_callB (id := "len") call_len_seq rfl (n_len T) (by decide +kernel) (pa_cons (pv 4) pa_nil)) pa_nil)) (blkOk_by (own := [("_law_j", 7)]) (N := ["_law_pool", "_law_one", "_law_two", "_law_three", "_law_made", "_law_k", "_law_fields_here", "_law_j"]) (sc := defScope s_l_errors_hold) (by decide +kernel)) (fun _ _ _ _ _ => pg_name (i := 7) sc_l_errors_hold.nd rfl (by first | exact Or.inl rfl | exact Or.inr rfl)) (fun _ _ _ _ _ => pts_nil) (fun _ _ _ _ _ => (pe_cmpR op_eq (pv 7) (pv 5) (nomark _)))) (nomark _)) (pss_one (ps_ret pe_bl)) pss_nil)
      (pss_one (ps_if (PW.pt (pw_or (pt_not (pt_val (pe_callB (id := "isinstance") (r := rIsO K) call_isO rfl (n_isinstance T) (by decide +kernel) (pa_cons (pe_ix ix_list (pv 4) (pv 5) (fun _ _ => rfl)) (pa_cons (pe_glob (v := .ref _) rfl (g_QuietError T) rfl) pa_nil))))) (pw_or1 (pt_not (pt_val (pe_callB (id := "isinstance") (r := rIsO K) call_isO rfl (n_isinstance T) (by decide +kernel) (pa_cons (pe_ix ix_list (pv 4) (pv 5) (fun _ _ => rfl)) (pa_cons (pe_bltn (v := .ty "ValueError") rfl (n_ValueError T) (by decide +kernel) rfl) pa_nil)))))))) (pss_one (ps_ret pe_bl)) pss_nil))))))
    (pss_one (ps_ret pe_bl))))))), ?_⟩
    refine ⟨_, rfl, p, rfl, hp, fun x k H1 hx k1 p1 => ⟨_, rfl, p, rfl, p1, fun y l H2 hy k2 p2 => ⟨_, rfl, p, rfl, p2, fun z m H3 hz k3 p3 => ?_⟩⟩⟩
    replace hx := fd_pool p2 k3 (fd_pool p1 k2 hx)
    replace hy := fd_pool p2 k3 hy
    refine ⟨_, rfl, _, rfl, _, rfl, x, y, z, k, l, m, rfl, hx, hy, hz, fun qe es H4 s4 hq le he => ?_⟩
    have p4 := pool_same p3 s4
    have k4 := ((k1.trans k2).trans k3).trans (s4.kp (p := p))
    replace hx := fd_same s4 hx
    replace hy := fd_same s4 hy
    replace hz := fd_same s4 hz
    clear s4 p3 k3 p2 k2 p1 k1 H3 H2 H1
    have le' : (es.map V.ref).length = 11 := by rw [List.length_map]; exact le
    refine ⟨_, rfl, qe, _, rfl, .inl (SqL.of hq), ((11 : Nat) : Int), by rw [le'], by decide, by decide, ?_⟩
    refine for_range (lo := 0) (n := (((11 : Nat) : Int)).toNat) (fun _ σ H' => (∃ v5 v6 v7 : Option V, σ = [some (.ref p), some x, some y, some z, some (.ref qe), v5, v6, v7]) ∧ Same H4 H') ⟨⟨_, _, _, rfl⟩, fun _ _ h => h⟩ ?_ ?_
    · rintro i σ H5 hi ⟨⟨v5, v6, v7, rfl⟩, s5⟩
      have hi : i < 11 := hi
      have ei : (0 : Int) + (i : Nat) = ((i : Nat) : Int) := Int.zero_add _
      rw [ei]
      obtain ⟨e, hei⟩ : ∃ e, es[i]? = some e := ⟨_, List.getElem?_eq_getElem (by omega)⟩
      have hat : atI (es.map V.ref) ((i : Nat) : Int) = some (V.ref e) := atI_nat (by rw [List.getElem?_map, hei]; rfl)
      have hE := (he i e hei).same s5
      refine ⟨_, rfl, _, rfl, _, rfl, qe, _, _, _, rfl, rfl, SqL.of (s5 _ _ hq), hat, e, i, k, l, m, rfl, hE, fun q1 ys H6 s6 hq1 ln1 ln3 hys => ?_⟩
      refine ⟨_, rfl, _, rfl, _, rfl, _, rfl, sz1 (by simp), fun q2 h2 => ?_⟩
      have s7 := Same.new h2 (o := .lst [x, y, z])
      have h27 : (upd H6 q2 (.lst [x, y, z])) q2 = some (.lst [x, y, z]) := upd_same
      have s57 := (s5.trans s6).trans s7
      generalize upd H6 q2 (.lst [x, y, z]) = H7 at s7 h27 s57 ⊢
      refine ⟨_, rfl, q1, _, rfl, .inl (SqL.of (s7 _ _ hq1)), ((ys.length : Nat) : Int), rfl, q2, _, rfl, SqL.of h27, fun c hc => ?_⟩
      rw [cut_takeN]
      have s8 := Same.new hc (o := .lst (([x, y, z] : List V).take ys.length))
      have lt : (([x, y, z] : List V).take ys.length).length = ys.length := by rw [List.length_take]; simp; omega
      have hys8 : ∀ (j : Nat) (v : V) (o : OdF), ys[j]? = some v → ([k, l, m] : List OdF)[j]? = some o → FdAt (upd H7 c (.lst (([x, y, z] : List V).take ys.length))) v o := fun j v o a b => fd_same (s7.trans s8) (hys j v o a b)
      have hxs8 : ∀ (j : Nat) (v : V) (o : OdF), (([x, y, z] : List V).take ys.length)[j]? = some v → ([k, l, m] : List OdF)[j]? = some o → FdAt (upd H7 c (.lst (([x, y, z] : List V).take ys.length))) v o := fun j v o a b => by
        have a : ([x, y, z] : List V)[j]? = some v := by
          rw [List.getElem?_take] at a
          split at a
          · exact a
          · cases a
        refine fd_same (s57.trans s8) ?_
        match j, a, b with
        | 0, a, b => cases Option.some.inj a; cases Option.some.inj b; exact hx
        | 1, a, b => cases Option.some.inj a; cases Option.some.inj b; exact hy
        | 2, a, b => cases Option.some.inj a; cases Option.some.inj b; exact hz
        | j + 3, a, _ => simp at a
      obtain ⟨g1, g2⟩ := lay_list (fd_take ys [k, l, m] hys8)
      have dx := dp_take (K := K) (([x, y, z] : List V).take ys.length) [k, l, m] (by rw [lt]; simpa using ln3) hxs8
      rw [lt] at dx
      refine ⟨_, _, .lst (SqL.of ((s7.trans s8) _ _ hq1)) (dp_take ys [k, l, m] (by simpa using ln3) hys8), .lst (SqL.of upd_same) dx, g1, g1, _, rfl, ?_⟩
      rw [g2]
      refine iteF ?_
      have s58 := s57.trans s8
      generalize upd H7 c (.lst (([x, y, z] : List V).take ys.length)) = H8 at s58 ⊢
      clear g1 g2 dx hys8 hxs8 lt s8 hc s7 h27 h2 s6 hq1 hys
      -- its class
      refine ⟨_, rfl, _, rfl, qe, _, _, _, rfl, rfl, SqL.of (s58 _ _ hq), hat, e, i, _, rfl, (he i e hei).same s58, fun q3 H9 s9 hq3 => ?_⟩
      have s59 := s58.trans s9
      refine ⟨_, rfl, qe, _, rfl, .inl (SqL.of (s59 _ _ hq)), ((11 : Nat) : Int), by rw [le'], by decide, by decide, fun D hD => ?_⟩
      refine lc_range (lo := 0) (n := (((11 : Nat) : Int)).toNat) (fun j H' => Same H9 H' ∧ H' D = some (.lst ((List.range j).map fun j => V.bl (decide (i = j))))) ⟨Same.new hD, upd_same⟩ ?_ ?_
      · rintro j H10 hj ⟨s10, hD10⟩
        have hj : j < 11 := hj
        refine ⟨rfl, _, rfl, _, rfl, rfl, _, hD10, sz2 (by rw [List.length_map, List.length_range]; omega), s10.mut hD, ?_⟩
        have ej : decide (V.int ((0 : Int) + (j : Nat)) = V.int ((i : Nat) : Int)) = decide (i = j) := decide_eq_decide.mpr ⟨fun h => by injection h with h; omega, fun h => by rw [h, Int.zero_add]⟩
        rw [upd_same, List.range_succ, List.map_append, ej]; rfl
      rintro H10 ⟨s10, hD10⟩
      have hD10 : H10 D = some (.lst (isRow i)) := hD10
      obtain ⟨b1, b2⟩ := lay_list (l := (List.range 11).map fun j => PyData.bool (decide (i = j))) fun d hd => by
        obtain ⟨j, _, rfl⟩ := List.mem_map.mp hd
        exact ⟨by simp [PyData.canLay0], by simp [PyData.depth]⟩
      have db : ∀ {H : Hp} (r : List Nat), DpAll K H (r.map fun j => V.bl (decide (i = j))) (r.map fun j => PyData.bool (decide (i = j))) := fun {H} r => by
        induction r with
        | nil => exact .nil
        | cons a r ih => exact .cons (.bl _) ih
      refine ⟨_, _, .lst (SqL.of (s10 _ _ hq3)) (db _), .lst (SqL.of hD10) (db _), b1, b1, _, rfl, ?_⟩
      rw [b2]
      refine iteF ?_
      have s510 := s59.trans s10
      obtain ⟨C, dd, fl, ns, hC, _, h3, h4, _⟩ := (he i e hei).same s510
      obtain ⟨_, kq, kv⟩ := kitB_ok (x_kits T) hC
      refine ⟨_, rfl, _, rfl, qe, _, _, _, rfl, rfl, SqL.of (s510 _ _ hq), hat, e, C, dd, fl, _, _, true, rfl, h3, h4, er_exc T hC, .own _, kq, true, rfl, iteF ?_⟩
      refine ⟨_, rfl, _, rfl, qe, _, _, _, rfl, rfl, SqL.of (s510 _ _ hq), hat, e, C, dd, fl, _, _, true, rfl, h3, h4, er_exc T hC, .ty _, kv, true, rfl, ?_⟩
      exact ⟨⟨_, _, _, rfl⟩, s510⟩
    · rintro σ H5 ⟨⟨v5, v6, v7, rfl⟩, s5⟩
      exact q _ (k4.trans (s5.kp (p := p))) (pool_same p4 s5)
end
end K88
namespace Cm
open PySem PySem.Spec PyProof.Rows TL
open L2 hiding Same
theorem take_snocN {α : Type} {xs : List α} {i : Nat} (h : i < xs.length) : xs.take (i + 1) = xs.take i ++ [xs[i]] := by rw [List.take_succ, List.getElem?_eq_getElem h]; rfl
/-- [f sign for sign in w], f a value told by the sign alone -/
theorem lc_signs {w : Str} {f : Nat → V} {i : Nat} {te : TE} {vs : List Nat} {σ : L2.St} {H1 : Hp} {Q : VK} {tw : TE} (e : ∀ R : VK, R (.str w) H1 → tw σ H1 R) (hl : w.length ≤ 100000)
    (hw : ∀ v, wipe ((wipe σ vs).set i (some v)) vs = wipe σ vs)
    (hs : ∀ c ∈ tl w, ∀ H' (R : VK), Same H1 H' → R (f c) H' → te ((wipe σ vs).set i (some (.str ⟨#[c]⟩))) H' R)
    (q : ∀ D H', H1 D = none → Same H1 H' → H' D = some (.lst ((tl w).map f)) → Q (.ref D) H') : tLc (iStr tw) (gName i) tYes te vs σ H1 Q := by
  refine e _ ⟨w, rfl, fun D hD => ?_⟩
  refine lc_it (walk_str (z := w)) (fun j H' => Same H1 H' ∧ H' D = some (.lst (((tl w).take j).map f))) ⟨Same.new hD, upd_same⟩ (fun _ _ _ _ => trivial) ?_ ?_
  · rintro j x H' G hj ⟨sm, hS⟩ ⟨rfl, c, hc, rfl⟩
    have hj2 : j < (tl w).length := by rw [← len_tl]; exact hj
    have ec : (tl w)[j] = c := by
      have h1 : w.cps.toList[j]? = some c := by rw [Array.getElem?_toList]; exact hc
      rw [List.getElem?_eq_getElem hj2] at h1
      exact Option.some.inj h1
    refine ⟨hw _, ?_⟩
    unfold tYes
    dsimp only
    rw [if_pos rfl]
    refine hs c (by rw [← ec]; exact List.getElem_mem hj2) _ _ sm ⟨_, hS, sz2 (by simp only [List.length_map, List.length_take]; have := len_tl w; omega), sm.mut hD, ?_⟩
    rw [upd_same, take_snocN hj2, List.map_append, ec]; rfl
  · rintro H' ⟨sm, hS⟩
    rw [List.take_of_length_le (by rw [← len_tl]; exact Nat.le_refl _)] at hS
    exact q D H' hD sm hS
end Cm
namespace K88
open PySem PySem.Spec PyProof.Rows Cm Um TL
open L2 hiding Same
/-! ### words -/
def spW (f : Str → Bool) : Sp := fun vs H Q _ => ∃ w, vs = [.str w] ∧ w.length ≤ 100000 ∧ ∀ H', Same H H' → Q (.bl (f w)) H'
/-- a value, or None -/
def OVal (H : Hp) (v : V) : Option Val → Prop
  | none => v = .non
  | some x => ∃ t, v = .ref t ∧ x.ok ∧ H t = some (.tup x.vs)
def spV (f : Str → Option Val) : Sp := fun vs H Q _ => ∃ w, vs = [.str w] ∧ w.length ≤ 100000 ∧ ∀ v H', Same H H' → OVal H' v (f w) → Q v H'
theorem all_bls (l : List Nat) (f : Nat → Bool) : ((l.map fun c => f c).all id) = l.all f := by rw [List.all_map]; rfl
section
variable {P : Program} {w : World} {K : PySem.W.Frag} {mg : Str → Option Value} {base : Heap} {sa : Addr} {sx : List Int}
theorem ok_is_digits (T : Tx K mg sa sx) : Cal P w K mg base 1 "is_digits" (spW isDigits) := by
  obtain ⟨fd, F⟩ := f_is_digits T
  refine ⟨_, fd, ["word"], fnok F sc_is_digits (fun vs H Q E h => ?_) (fun cdv A outer s H vs Q E hr h => ?_), F.bindsN fun _ _ _ _ _ _ us hl => match us, hl with | [_], _ => rfl, g_is_digits T, F.kp⟩
  · obtain ⟨z, rfl, _⟩ := h; rfl
  · obtain ⟨z, rfl, hz, q⟩ := h
    refine ⟨_, (pss_one (ps_ret (pe_and (pe_cmpR op_ne (pv 0) pe_str (nomark _)) (pe_one (pe_callB (id := "all") (cr_all rfl) rfl (n_all T) (by decide +kernel) (pa_cons (pe_lc (own := [("sign", 1)]) (g := gName 1) rfl sc_is_digits.nd (show PI _ _ _ (iStr _) from pi_str (pv 0)) (blkOk_by (own := [("sign", 1)]) (N := ["word", "sign"]) (sc := defScope s_is_digits) (by decide +kernel)) (fun _ _ _ _ _ => pg_name (i := 1) sc_is_digits.nd rfl (by first | exact Or.inl rfl | exact Or.inr rfl)) (fun _ _ _ _ _ => pts_nil) (fun _ _ _ _ _ => (pe_cmpR op_in_sign (pv 1) (show PE _ _ (tC (V.str Um.DIGS)) from (s_DIGITS T).elim fun _ q => pe_glob rfl q ⟨_, rfl⟩) (by rfl)))) pa_nil)))))), ?_⟩
    refine ⟨_, rfl, rfl, _, rfl, ?_⟩
    refine uC (fun c => ?_) (fun c => ?_)
    · unfold tCB tCons
      dsimp only
      refine lc_signs (w := z) (f := fun c => .bl (isDig c)) (fun R r => ⟨_, rfl, r⟩) hz (fun _ => rfl) (fun c hc H' R s r => ⟨_, rfl, c, _, rfl, rfl, r⟩) (fun D H' hD s hS => ?_)
      refine ⟨D, (tl z).map isDig, rfl, SqL.of (by rw [hS, List.map_map]; rfl), ?_⟩
      have e : isDigits z = (((tl z).map isDig).all id) := by unfold isDigits; rw [decide_eq_false c, all_bls]; rfl
      rw [← e]
      exact q _ s
    · have e : isDigits z = false := by unfold isDigits; rw [decide_eq_true c]; rfl
      rw [← e]
      exact q _ (Cm.Same.refl _)
theorem ok_is_name (T : Tx K mg sa sx) : Cal P w K mg base 1 "is_name" (spW isName) := by
  obtain ⟨fd, F⟩ := f_is_name T
  refine ⟨_, fd, ["word"], fnok F sc_is_name (fun vs H Q E h => ?_) (fun cdv A outer s H vs Q E hr h => ?_), F.bindsN fun _ _ _ _ _ _ us hl => match us, hl with | [_], _ => rfl, g_is_name T, F.kp⟩
  · obtain ⟨z, rfl, _⟩ := h; rfl
  · obtain ⟨z, rfl, hz, q⟩ := h
    refine ⟨_, (pss_cons (ps_if (PW.pt (pw_or (pt_cmpR op_eq (pv 0) pe_str (nomark _)) (pw_or (pt_cmpR op_gt (pe_callB (id := "len") call_len rfl (n_len T) (by decide +kernel) (pa_cons (pv 0) pa_nil)) pe_int (nomark _)) (pw_or1 (pt_cmpR op_notIn_sign (pe_ix ix_str (pv 0) pe_int (fun _ _ => rfl)) (show PE _ _ (tC (V.str Um.LETS)) from (s_LETTERS T).elim fun _ q => pe_glob rfl q ⟨_, rfl⟩) (by rfl)))))) (pss_one (ps_ret pe_bl)) pss_nil)
    (pss_one (ps_ret (pe_callB (id := "all") (cr_all rfl) rfl (n_all T) (by decide +kernel) (pa_cons (pe_lc (own := [("sign", 1)]) (g := gName 1) rfl sc_is_name.nd (show PI _ _ _ (iStr _) from pi_str (pv 0)) (blkOk_by (own := [("sign", 1)]) (N := ["word", "sign"]) (sc := defScope s_is_name) (by decide +kernel)) (fun _ _ _ _ _ => pg_name (i := 1) sc_is_name.nd rfl (by first | exact Or.inl rfl | exact Or.inr rfl)) (fun _ _ _ _ _ => pts_nil) (fun _ _ _ _ _ => (pe_or (pe_cmpR op_in_sign (pv 1) (show PE _ _ (tC (V.str Um.LETS)) from (s_LETTERS T).elim fun _ q => pe_glob rfl q ⟨_, rfl⟩) (by rfl)) (pe_one (pe_cmpR op_in_sign (pv 1) (show PE _ _ (tC (V.str Um.DIGS)) from (s_DIGITS T).elim fun _ q => pe_glob rfl q ⟨_, rfl⟩) (by rfl)))))) pa_nil))))), ?_⟩
    have hl := len_tl z
    refine ⟨_, rfl, rfl, _, rfl, ?_⟩
    cases e : tl z with
    | nil =>
      have e2 : isName z = false := by unfold isName; rw [e]
      refine tT (by rw [eq_nil_tl.mpr e]) ?_
      rw [← e2]
      exact q _ (Cm.Same.refl _)
    | cons c r =>
      rw [e] at hl
      refine tF (fun z2 => by injection z2 with z2; rw [eq_nil_tl.mp z2] at e; cases e) ?_
      refine ⟨_, rfl, _, _, rfl, ⟨sz1 hz, rfl⟩, _, _, rfl, rfl, _, rfl, ?_⟩
      refine dC (fun h => ?_) (fun h => ?_)
      · have e2 : isName z = false := by
          unfold isName; rw [e]; dsimp only
          rw [decide_eq_false (by omega)]; rfl
        rw [← e2]
        exact q _ (Cm.Same.refl _)
      · refine ⟨_, rfl, z, 0, c, rfl, rfl, sz1 hz, atI_nat (by show (tl z)[0]? = _; rw [e]; rfl), c, _, rfl, rfl, _, rfl, ?_⟩
        refine uC (fun h2 => ?_) (fun h2 => ?_)
        · have e2 : isName z = false := by
            unfold isName; rw [e]; dsimp only
            rw [show isLet c = false from decide_eq_false h2, Bool.false_and, Bool.and_false]
          rw [← e2]
          exact q _ (Cm.Same.refl _)
        · unfold tNext
          dsimp only
          unfold tRet tCB tCons
          dsimp only
          refine lc_signs (w := z) (f := fun c => .bl (isLet c || isDig c)) (fun R r => ⟨_, rfl, r⟩) hz (fun _ => rfl) (fun c hc H' R s r => ?_) (fun D H' hD s hS => ?_)
          · refine ⟨_, rfl, c, _, rfl, rfl, _, rfl, ?_⟩
            show if isLet c = true then _ else _
            cases h3 : isLet c with
            | true => rw [h3] at r; exact iteT r
            | false => rw [h3] at r; exact iteF ⟨_, rfl, c, _, rfl, rfl, r⟩
          · refine ⟨D, (tl z).map fun c => isLet c || isDig c, rfl, SqL.of (by rw [hS, List.map_map]; rfl), ?_⟩
            have e2 : isName z = (((tl z).map fun c => isLet c || isDig c).all id) := by
              rw [all_bls]; unfold isName; rw [e]; dsimp only
              rw [show isLet c = true from decide_eq_true h2, decide_eq_true (show (c :: r).length ≤ 12 by omega)]; rfl
            rw [← e2]
            exact q _ s
theorem ok_is_numeral (T : Tx K mg sa sx) : Cal P w K mg base 2 "is_numeral" (spW isNumeral) := by
  obtain ⟨fd, F⟩ := f_is_numeral T
  refine ⟨_, fd, ["word"], fnok F sc_is_numeral (fun vs H Q E h => ?_) (fun cdv A outer s H vs Q E hr h => ?_), F.bindsN fun _ _ _ _ _ _ us hl => match us, hl with | [_], _ => rfl, g_is_numeral T, F.kp⟩
  · obtain ⟨z, rfl, _⟩ := h; rfl
  · obtain ⟨z, rfl, hz, q⟩ := h
    refine ⟨_, (pss_cons (ps_set (i := 1) sc_is_numeral.nd rfl (by first | exact Or.inl rfl | exact Or.inr rfl) (pe_m1 PySem.F.slot_str_removeprefix PySem.F.type_str_removeprefix mt_removeprefix (pv 0) pe_str))
    (pss_cons (ps_if (PW.pt (pw_or (pt_not (pt_val (pe_cal (ok_is_digits T) hr (by decide) (pa_cons (pv 1) pa_nil)))) (pw_or1 (pt_cmpR op_gt (pe_callB (id := "len") call_len rfl (n_len T) (by decide +kernel) (pa_cons (pv 1) pa_nil)) pe_int (nomark _))))) (pss_one (ps_ret pe_bl)) pss_nil)
    (pss_one (ps_ret (pe_or (pe_cmpR op_ne (pe_ix ix_str (pv 1) pe_int (fun _ _ => rfl)) pe_str (nomark _)) (pe_one (pe_cmpR op_eq (pv 0) pe_str (nomark _)))))))), ?_⟩
    have hl := len_tl z
    have hrl := len_tl (rp z)
    have hr1 : (rp z).length ≤ z.length := by
      rw [hrl, rp_tl]; split
      · rw [List.length_tail]; omega
      · omega
    refine ⟨_, rfl, ⟨_, rfl⟩, z, "-", rfl, rfl, sz1 hz, ?_⟩
    refine ⟨_, rfl, rp z, rfl, (show (rp z).length ≤ 100000 by omega), fun H1 s1 => ⟨_, rfl, ?_⟩⟩
    cases h1 : isDigits (rp z) with
    | false =>
      have e2 : isNumeral z = false := by unfold isNumeral; rw [h1]; rfl
      refine iteT ?_
      rw [← e2]
      exact q _ s1
    | true =>
      refine iteF ?_
      refine ⟨_, rfl, _, _, rfl, ⟨sz1 (show (rp z).length ≤ 100000 by omega), rfl⟩, _, _, rfl, rfl, _, rfl, ?_⟩
      refine dC (fun h => ?_) (fun h => ?_)
      · have h : (9 : Int) < (((rp z).length : Nat) : Int) := h
        have e2 : isNumeral z = false := by
          unfold isNumeral; rw [h1, decide_eq_false (by omega)]; rfl
        rw [← e2]
        exact q _ s1
      · have h : ¬ (9 : Int) < (((rp z).length : Nat) : Int) := h
        obtain ⟨hne, _⟩ := isDigits_iff.mp h1
        cases e : tl (rp z) with
        | nil => exact absurd e hne
        | cons c r =>
          refine ⟨_, rfl, rp z, 0, c, rfl, rfl, sz1 (show (rp z).length ≤ 100000 by omega), atI_nat (by show (tl (rp z))[0]? = _; rw [e]; rfl), rfl, _, rfl, ?_⟩
          have e3 : isNumeral z = (decide (some c ≠ some 48) || decide (z = "0")) := by
            unfold isNumeral; rw [h1, e, decide_eq_true (show (rp z).length ≤ 9 by omega)]; rfl
          refine uC (fun h2 => ?_) (fun h2 => ?_)
          · have : c ≠ 48 := fun z2 => h2 (by rw [z2]; rfl)
            rw [decide_eq_true (show some c ≠ some 48 from fun z2 => this (by injection z2))] at e3
            have e4 : isNumeral z = true := e3
            rw [← e4]
            exact q _ s1
          · have : c = 48 := by
              have e5 : (⟨#[c]⟩ : Str) = "0" := by injection h2
              have e6 : tl ⟨#[c]⟩ = tl "0" := by rw [e5]
              have e7 : [c] = [48] := e6
              injection e7
            rw [decide_eq_false (show ¬ some c ≠ some 48 from fun z2 => z2 (by rw [this]))] at e3
            refine ⟨_, rfl, rfl, ?_⟩
            have e4 : isNumeral z = decide (V.str z = V.str "0") := by
              rw [e3, Bool.false_or]
              exact decide_eq_decide.mpr ⟨fun h => by rw [h], fun h => by injection h⟩
            rw [← e4]
            exact q _ s1
theorem ok_is_index (T : Tx K mg sa sx) : Cal P w K mg base 2 "is_index" (spW isIndex) := by
  obtain ⟨fd, F⟩ := f_is_index T
  refine ⟨_, fd, ["word"], fnok F sc_is_index (fun vs H Q E h => ?_) (fun cdv A outer s H vs Q E hr h => ?_), F.bindsN fun _ _ _ _ _ _ us hl => match us, hl with | [_], _ => rfl, g_is_index T, F.kp⟩
  · obtain ⟨z, rfl, _⟩ := h; rfl
  · obtain ⟨z, rfl, hz, q⟩ := h
    refine ⟨_, (pss_one (ps_ret (pe_and (pe_cmpR op_eq (pe_callB (id := "len") call_len rfl (n_len T) (by decide +kernel) (pa_cons (pv 0) pa_nil)) pe_int (nomark _)) (pe_one (pe_cal (ok_is_digits T) hr (by decide) (pa_cons (pv 0) pa_nil)))))), ?_⟩
    refine ⟨_, rfl, _, _, rfl, ⟨sz1 hz, rfl⟩, rfl, _, rfl, ?_⟩
    refine dC (fun h => ?_) (fun h => ?_)
    · refine ⟨_, rfl, z, rfl, hz, fun H' s => ?_⟩
      have e : isIndex z = isDigits z := by
        unfold isIndex; rw [decide_eq_true (by injection h with h; omega)]; rfl
      rw [← e]; exact q _ s
    · have e : isIndex z = false := by
        unfold isIndex; rw [decide_eq_false (fun z2 => h (by rw [z2]; rfl))]; rfl
      rw [← e]; exact q _ (Cm.Same.refl _)
theorem ok_is_tag (T : Tx K mg sa sx) : Cal P w K mg base 3 "is_tag" (spW isTag) := by
  obtain ⟨fd, F⟩ := f_is_tag T
  refine ⟨_, fd, ["word"], fnok F sc_is_tag (fun vs H Q E h => ?_) (fun cdv A outer s H vs Q E hr h => ?_), F.bindsN fun _ _ _ _ _ _ us hl => match us, hl with | [_], _ => rfl, g_is_tag T, F.kp⟩
  · obtain ⟨z, rfl, _⟩ := h; rfl
  · obtain ⟨z, rfl, hz, q⟩ := h
    refine ⟨_, (pss_one (ps_ret (pe_and (pe_cal (ok_is_index T) hr (by decide) (pa_cons (pv 0) pa_nil)) (pe_one (pe_cmpR op_ne (pv 0) pe_str (nomark _)))))), ?_⟩
    refine ⟨_, rfl, z, rfl, hz, fun H1 s1 => ⟨_, rfl, ?_⟩⟩
    cases h1 : isIndex z with
    | false =>
      have e : isTag z = false := by unfold isTag; rw [h1]; rfl
      refine iteF ?_
      rw [← e]; exact q _ s1
    | true =>
      refine iteT ⟨_, rfl, rfl, ?_⟩
      have e : isTag z = !decide (V.str z = V.str "0") := by
        unfold isTag; rw [h1, Bool.true_and, ← decide_not]
        exact decide_eq_decide.mpr ⟨fun h z2 => h (by injection z2), fun h z2 => h (by rw [z2])⟩
      rw [← e]; exact q _ s1
theorem ok_place_of (T : Tx K mg sa sx) : Cal P w K mg base 3 "place_of" (spV placeOf) := by
  obtain ⟨fd, F⟩ := f_place_of T
  refine ⟨_, fd, ["word"], fnok F sc_place_of (fun vs H Q E h => ?_) (fun cdv A outer s H vs Q E hr h => ?_), F.bindsN fun _ _ _ _ _ _ us hl => match us, hl with | [_], _ => rfl, g_place_of T, F.kp⟩
  · obtain ⟨z, rfl, _⟩ := h; rfl
  · obtain ⟨z, rfl, hz, q⟩ := h
    refine ⟨_, (pss_cons (ps_asg (pe_partition (pv 0) pe_str) (pg_tup (by rfl) (pgs_cons (pg_name (i := 1) sc_place_of.nd rfl (by first | exact Or.inl rfl | exact Or.inr rfl)) (pgs_cons (pg_name (i := 2) sc_place_of.nd rfl (by first | exact Or.inl rfl | exact Or.inr rfl)) (pgs_cons (pg_name (i := 3) sc_place_of.nd rfl (by first | exact Or.inl rfl | exact Or.inr rfl)) pgs_nil)))))
    (pss_cons (ps_if (PW.pt (pw_and (pt_val (pe_cal (ok_is_name T) hr (by decide) (pa_cons (pv 1) pa_nil))) (pw_and1 (pt_val (pe_cal (ok_is_index T) hr (by decide) (pa_cons (pv 3) pa_nil)))))) (pss_one (ps_ret (pe_tup (pa_cons pe_str (pa_cons (pv 1) (pa_cons (pe_callTy (T := "int") call_int_str rfl (n_int T) (by decide +kernel) (pa_cons (pv 3) pa_nil)) pa_nil)))))) pss_nil)
    (pss_one (ps_ret pe_non)))), ?_⟩
    have hla : (Txt.partition z ".").1.length ≤ z.length ∧ (Txt.partition z ".").2.2.length ≤ z.length := by
      rcases PyProof.Rows.partition_whole z "." with ⟨e, _⟩ | ⟨i, e, hi, _⟩
      · rw [e]; exact ⟨Nat.le_refl _, Nat.zero_le _⟩
      · rw [e]; dsimp only
        exact ⟨by rw [len_tl, tl_strSub, len_tl z, List.length_take, List.length_drop]; omega, by rw [len_tl, tl_strSub, len_tl z, List.length_take, List.length_drop]; omega⟩
    refine ⟨_, rfl, ⟨_, rfl⟩, z, ".", rfl, rfl, by decide, sz1 hz, fun p hp => ?_⟩
    refine ⟨p, _, rfl, SqT.of upd_same, rfl, _, _, rfl, _, _, rfl, _, _, rfl, rfl, ?_⟩
    have s0 := Same.new hp (o := .tup [.str (Txt.partition z ".").1, .str (Txt.partition z ".").2.1, .str (Txt.partition z ".").2.2])
    refine ⟨_, rfl, (Txt.partition z ".").1, rfl, by omega, fun H1 s1 => ⟨_, rfl, ?_⟩⟩
    have e0 : placeOf z = if (isName (Txt.partition z ".").1 && isIndex (Txt.partition z ".").2.2) = true then some (.place (Txt.partition z ".").1 (numOf (Txt.partition z ".").2.2)) else none := rfl
    generalize (Txt.partition z ".").1 = a at e0 hla ⊢
    generalize (Txt.partition z ".").2.2 = b at e0 hla ⊢
    cases h1 : isName a with
    | false =>
      rw [h1] at e0
      refine iteF (iteF ?_)
      exact q _ _ (s0.trans s1) (by rw [e0]; rfl)
    | true =>
      refine iteT ⟨_, rfl, b, rfl, by omega, fun H2 s2 => ⟨_, rfl, ?_⟩⟩
      cases h2 : isIndex b with
      | false =>
        rw [h1, h2] at e0
        refine iteF ?_
        exact q _ _ (s0.trans (s1.trans s2)) (by rw [e0]; rfl)
      | true =>
        rw [h1, h2] at e0
        obtain ⟨t1, t2, t3, t4⟩ := index_text h2
        refine iteT ⟨_, rfl, _, rfl, b, _, rfl, t1, by omega, sz1 (by simp), fun t ht => ?_⟩
        refine q _ _ (s0.trans (s1.trans (s2.trans (Same.new ht)))) ?_
        rw [e0]
        exact ⟨t, rfl, ⟨isName_ok h1, by unfold SmI; omega⟩, upd_same⟩
theorem ok_value_of (T : Tx K mg sa sx) : Cal P w K mg base 4 "value_of" (spV valueOf) := by
  obtain ⟨fd, F⟩ := f_value_of T
  refine ⟨_, fd, ["word"], fnok F sc_value_of (fun vs H Q E h => ?_) (fun cdv A outer s H vs Q E hr h => ?_), F.bindsN fun _ _ _ _ _ _ us hl => match us, hl with | [_], _ => rfl, g_value_of T, F.kp⟩
  · obtain ⟨z, rfl, _⟩ := h; rfl
  · obtain ⟨z, rfl, hz, q⟩ := h
    refine ⟨_, (pss_cons (ps_if (pt_val (pe_cal (ok_is_numeral T) hr (by decide) (pa_cons (pv 0) pa_nil))) (pss_one (ps_ret (pe_tup (pa_cons pe_str (pa_cons (pe_callTy (T := "int") call_int_str rfl (n_int T) (by decide +kernel) (pa_cons (pv 0) pa_nil)) pa_nil))))) pss_nil)
    (pss_cons (ps_if (pt_cmpR op_eq (pv 0) pe_str (nomark _)) (pss_one (ps_ret (pe_tup (pa_cons pe_str pa_nil)))) pss_nil)
    (pss_cons (ps_if (PW.pt (pw_and (pt_val (pe_m1 PySem.F.slot_str_startswith PySem.F.type_str_startswith mt_startswith (pv 0) pe_str)) (pw_and1 (pt_val (pe_cal (ok_is_name T) hr (by decide) (pa_cons (pe_slice sl_str (pv 0) (po_some pe_int) po_none) pa_nil)))))) (pss_one (ps_ret (pe_tup (pa_cons pe_str (pa_cons (pe_slice sl_str (pv 0) (po_some pe_int) po_none) pa_nil))))) pss_nil)
    (pss_cons (ps_if (PW.pt (pw_and (pt_val (pe_m1 PySem.F.slot_str_startswith PySem.F.type_str_startswith mt_startswith (pv 0) pe_str)) (pw_and1 (pt_val (pe_cal (ok_is_name T) hr (by decide) (pa_cons (pe_slice sl_str (pv 0) (po_some pe_int) po_none) pa_nil)))))) (pss_one (ps_ret (pe_tup (pa_cons pe_str (pa_cons (pe_slice sl_str (pv 0) (po_some pe_int) po_none) pa_nil))))) pss_nil)
    (pss_one (ps_ret (pe_cal (ok_place_of T) hr (by decide) (pa_cons (pv 0) pa_nil)))))))), ?_⟩
    have hc := cutS_length z (some 1) none
    refine ⟨_, rfl, z, rfl, hz, fun H1 s1 => ⟨_, rfl, ?_⟩⟩
    cases h1 : isNumeral z with
    | true =>
      obtain ⟨t1, t2, t3⟩ := numeral_text h1
      refine iteT ⟨_, rfl, z, _, rfl, t1, by omega, sz1 (by simp), fun t ht => ?_⟩
      refine q _ _ (s1.trans (Same.new ht)) ?_
      unfold valueOf
      rw [if_pos h1]
      exact ⟨t, rfl, Nat.le_trans t2 (by decide), upd_same⟩
    | false =>
      refine iteF ⟨_, rfl, rfl, _, rfl, ?_⟩
      refine dC (fun h2 => ?_) (fun h2 => ?_)
      · refine ⟨sz1 (by simp), fun t ht => ?_⟩
        refine q _ _ (s1.trans (Same.new ht)) ?_
        unfold valueOf
        rw [if_neg (by rw [h1]; decide), if_pos (by injection h2)]
        exact ⟨t, rfl, trivial, upd_same⟩
      have h2 : ¬ z = "it" := fun z2 => h2 (by rw [z2])
      have e1 : valueOf z = if (Txt.startswith z "$" && isName (cutS z (some 1) none)) = true then some (.own (cutS z (some 1) none)) else if (Txt.startswith z "#" && isName (cutS z (some 1) none)) = true then some (.named (cutS z (some 1) none)) else placeOf z := by
        unfold valueOf
        rw [if_neg (by rw [h1]; decide), if_neg h2]
      refine ⟨_, rfl, ⟨_, rfl⟩, z, "$", rfl, rfl, _, rfl, ?_⟩
      refine bC (fun h3 => ?g1) (fun h3 => ?g2)
      case' g1 =>
        refine ⟨_, rfl, _, rfl, z, rfl, sz1 hz, _, rfl, by omega, fun H2 s2 => ⟨_, rfl, ?_⟩⟩
        refine bC (fun h4 => ?_) (fun h4 => ?_)
        · refine ⟨_, rfl, _, rfl, z, rfl, sz1 hz, sz1 (by simp), fun t ht => ?_⟩
          refine q _ _ (s1.trans (s2.trans (Same.new ht))) ?_
          rw [e1, h3, h4]
          exact ⟨t, rfl, isName_ok h4, upd_same⟩
        replace e1 : valueOf z = if (Txt.startswith z "#" && isName (cutS z (some 1) none)) = true then some (.named (cutS z (some 1) none)) else placeOf z := by rw [e1, h3, h4]; rfl
        have sX := s1.trans s2
      case' g2 =>
        refine iteF ?_
        replace e1 : valueOf z = if (Txt.startswith z "#" && isName (cutS z (some 1) none)) = true then some (.named (cutS z (some 1) none)) else placeOf z := by rw [e1, h3]; rfl
        have sX := s1
      all_goals
        refine ⟨_, rfl, ⟨_, rfl⟩, z, "#", rfl, rfl, _, rfl, ?_⟩
        refine bC (fun h5 => ?_) (fun h5 => ?_)
        · refine ⟨_, rfl, _, rfl, z, rfl, sz1 hz, _, rfl, by omega, fun H3 s3 => ⟨_, rfl, ?_⟩⟩
          refine bC (fun h6 => ?_) (fun h6 => ?_)
          · refine ⟨_, rfl, _, rfl, z, rfl, sz1 hz, sz1 (by simp), fun t ht => ?_⟩
            refine q _ _ (sX.trans (s3.trans (Same.new ht))) ?_
            rw [e1, h5, h6]
            exact ⟨t, rfl, isName_ok h6, upd_same⟩
          · refine ⟨_, rfl, z, rfl, hz, fun v H4 s4 hv => q _ _ (sX.trans (s3.trans s4)) ?_⟩
            rw [e1, h5, h6]
            exact hv
        · refine iteF ⟨_, rfl, z, rfl, hz, fun v H4 s4 hv => q _ _ (sX.trans s4) ?_⟩
          rw [e1, h5]
          exact hv
end
end K88
namespace Um
open PySem PySem.Spec PyProof.Rows Cm TL
open L2 hiding Same
/-! ### a grammar, what a line is cut into -/
structure Gram where
  ranks : List (Str × Int)
  block : Int
  forms : List (Str × List (List Str))
  vk : List Str
  pk : List Str
inductive Pt where
  | w (s : Str) | n (i : Int) | v (x : Val)
  deriving DecidableEq
def Val.kd : Val → Str
  | .num _ => "number"
  | .arg => "argument"
  | .place _ _ => "place"
  | .own _ => "own"
  | .named _ => "named"
def fitsW (word slot : Str) : Bool :=
  if slot = "ACCESS" then decide (word ∈ [("open" : Str), "guarded", "hidden"]) else if slot = "LOCK" then decide (word ∈ [("open" : Str), "hidden"]) else (causeOf slot).isSome || decide (word = slot)
def rankOf (G : Gram) (h : Str) : Int := (G.ranks.lookup h).getD (-1)
def mayStand (G : Gram) (h : Str) (at_ : Nat) (rank : Int) : Bool :=
  if at_ = 0 ∨ rankOf G h ≤ 0 then decide (at_ = 0) && decide (rankOf G h = 0)
  else if G.block < rankOf G h then decide (rank = G.block) else decide (rank ≤ rankOf G h)
def slotsOf (fs : List (List Str)) (words : List Str) : Option (List Str) := fs.find? fun f => decide (f.length = words.length) && (words.zip f).all fun p => fitsW p.1 p.2
def valIn (ks : List Str) (w : Str) : Option Pt := match valueOf w with
  | none => none
  | some v => if v.kd ∈ ks then some (.v v) else none
def partOf (G : Gram) (word slot : Str) : Option Pt :=
  if slot = "NAME" then (if isName word = true then some (.w word) else none)
  else if slot = "N" ∨ slot = "K" then (if isNumeral word = true then some (.n (numOf word)) else none)
  else if slot = "T" then (if isTag word = true then some (.n (numOf word)) else none)
  else if slot = "V" then valIn G.vk word
  else if slot = "P" then valIn G.pk word
  else some (.w word)
def goParts (G : Gram) : List (Str × Str) → Str ⊕ List Pt
  | [] => .inr []
  | p :: r => match partOf G p.1 p.2 with
    | none => .inl ((causeOf p.2).getD "")
    | some a => match goParts G r with
      | .inl c => .inl c
      | .inr l => .inr (a :: l)
def headW (words : List Str) : Str := words.headD ""
def partsOf (G : Gram) (words : List Str) : Str ⊕ List Pt := match slotsOf ((G.forms.lookup (headW words)).getD []) words with
  | none => .inl "count"
  | some sl => goParts G (words.zip sl)
def parseL (G : Gram) : Nat → Int → List Str → (Int × Str) ⊕ List (List Pt)
  | _, _, [] => .inr []
  | i, rank, line :: r =>
    if ("" : Str) ∈ Txt.split line " " then .inl ((i : Int), "words")
    else if mayStand G (headW (Txt.split line " ")) i rank = false then .inl ((i : Int), "head")
    else match partsOf G (Txt.split line " ") with
      | .inl c => .inl ((i : Int), c)
      | .inr ps => match parseL G (i + 1) (min (rankOf G (headW (Txt.split line " "))) G.block) r with
        | .inl e => .inl e
        | .inr L => .inr (ps :: L)
def parseT (G : Gram) (t : Str) : (Int × Str) ⊕ List (List Pt) := parseL G 0 0 (Txt.split t "\n")
structure Gram.Ok (G : Gram) : Prop where
  forms : ∀ h i, G.ranks.lookup h = some i → 0 ≤ i → (G.forms.lookup h).isSome = true
  plain : ∀ h fs, G.forms.lookup h = some fs → ∀ f ∈ fs, f ≠ [] ∧ f.length ≤ 50 ∧ f.getLast? ≠ some (".." : Str) ∧ (∀ s ∈ f, s ∈ slotW)
  many : ∀ h fs, G.forms.lookup h = some fs → fs.length ≤ 100
/-! dicts of texts -/
def skv (l : List (Str × V)) : List (L2.Key × V) := l.map fun p => (Sum.inr p.1, p.2)
theorem val_skv (l : List (Str × V)) (s : Str) : valV (skv l) (Sum.inr s) = l.lookup s := by
  induction l with
  | nil => rfl
  | cons p l ih =>
    show valV ((Sum.inr p.1, p.2) :: skv l) (Sum.inr s) = _
    rw [List.lookup_cons]
    by_cases h : p.1 = s
    · rw [valV_pos (by rw [h]), ← h]; simp
    · rw [valV_neg (by intro e; injection e with e; exact h e), ih]
      have : (s == p.1) = false := beq_eq_false_iff_ne.mpr fun e => h e.symm
      rw [this]
theorem lookup_map {α β : Type} (f : α → β) (l : List (Str × α)) (s : Str) : (l.map fun p => (p.1, f p.2)).lookup s = (l.lookup s).map f := by
  induction l with
  | nil => rfl
  | cons p l ih =>
    rw [List.map_cons, List.lookup_cons, List.lookup_cons]
    by_cases h : (s == p.1) = true
    · rw [h]; rfl
    · have : (s == p.1) = false := by simpa using h
      rw [this]; exact ih
theorem mem_lookup {α : Type} {l : List (Str × α)} {s : Str} {a : α} (h : l.lookup s = some a) : (s, a) ∈ l := by
  induction l with
  | nil => cases h
  | cons p l ih =>
    rw [List.lookup_cons] at h
    by_cases e : (s == p.1) = true
    · rw [e] at h
      have e1 : s = p.1 := eq_of_beq e
      have e2 : p.2 = a := Option.some.inj h
      rw [e1, ← e2]; exact List.mem_cons_self
    · have e3 : (s == p.1) = false := by simpa using e
      rw [e3] at h
      exact List.mem_cons_of_mem _ (ih h)
def putS (l : List (Str × V)) (s : Str) (v : V) : List (Str × V) := if (l.lookup s).isSome = true then l.map fun p => if p.1 = s then (p.1, v) else p else l ++ [(s, v)]
end Um
namespace K88
open PySem PySem.Spec PyProof.Rows Cm Um TL
open L2 hiding Same
/-! ### a grammar and what it makes of a line -/
abbrev GC (K : PySem.W.Frag) : Addr := He.ga K "Grammar"
abbrev FE := Str × Addr × List (Addr × List Str)
def feV (l : List FE) : List (Str × V) := l.map fun e => (e.1, V.ref e.2.1)
def FormsAt (H : Hp) (fm : Addr) (fs : List (Str × List (List Str))) : Prop := ∃ l : List FE, H fm = some (.dK (skv (feV l))) ∧ (l.map fun e => (e.1, e.2.2.map (·.2))) = fs ∧
  ∀ e ∈ l, H e.2.1 = some (.lst (e.2.2.map fun q => V.ref q.1)) ∧ ∀ q ∈ e.2.2, H q.1 = some (.lst (q.2.map V.str))
def GrAt (K : PySem.W.Frag) (H : Hp) (g : Addr) (G : Gram) : Prop := ∃ dx rk fm kd tv tp, H g = some (.ins (GC K) dx [("ranks", .ref rk), ("block_rank", .int G.block), ("forms", .ref fm), ("kinds", .ref kd)]) ∧
  H rk = some (.dK (skv (G.ranks.map fun p => (p.1, V.int p.2)))) ∧ FormsAt H fm G.forms ∧ H kd = some (.dK (skv [("V", .ref tv), ("P", .ref tp)])) ∧ SqT K H tv (G.vk.map V.str) ∧ SqT K H tp (G.pk.map V.str)
theorem FormsAt.same {H H' : Hp} {fm : Addr} {fs} (s : Same H H') (h : FormsAt H fm fs) : FormsAt H' fm fs := let ⟨l, h1, h2, h3⟩ := h; ⟨l, s _ _ h1, h2, fun e he => ⟨s _ _ (h3 e he).1, fun q hq => s _ _ ((h3 e he).2 q hq)⟩⟩
theorem GrAt.same {K : PySem.W.Frag} {H H' : Hp} {g : Addr} {G : Gram} (s : Same H H') (h : GrAt K H g G) : GrAt K H' g G :=
  let ⟨dx, rk, fm, kd, tv, tp, h1, h2, h3, h4, h5, h6⟩ := h; ⟨dx, rk, fm, kd, tv, tp, s _ _ h1, s _ _ h2, h3.same s, s _ _ h4, s.st h5, s.st h6⟩
theorem forms_at {H : Hp} {fm : Addr} {fs : List (Str × List (List Str))} {h : Str} {l : List (List Str)} (F : FormsAt H fm fs) (e : fs.lookup h = some l) : ∃ (a : Addr) (qs : List (Addr × List Str)), DGet H fm (.str h) (some (.ref a)) ∧ H a = some (.lst (qs.map fun q => V.ref q.1)) ∧ qs.map (·.2) = l ∧ ∀ q ∈ qs, H q.1 = some (.lst (q.2.map V.str)) := by
  obtain ⟨es, h1, rfl, h3⟩ := F
  rw [lookup_map (fun e : Addr × List (Addr × List Str) => e.2.map (·.2)) es h] at e
  cases q : es.lookup h with
  | none => rw [q] at e; cases e
  | some x =>
    rw [q] at e
    have hm : (h, x) ∈ es := mem_lookup q
    have e2 := h3 _ hm
    refine ⟨x.1, x.2, ?_, e2.1, Option.some.inj e, e2.2⟩
    refine .inl ⟨_, .inr h, .inl h1, rfl, ?_⟩
    rw [val_skv, feV, lookup_map (fun e : Addr × List (Addr × List Str) => V.ref e.1) es h, q]
    rfl
def PtAt (H : Hp) (v : V) : Pt → Prop
  | .w s => v = .str s
  | .n i => v = .int i ∧ i.natAbs ≤ 999999999
  | .v x => ∃ t, v = .ref t ∧ x.ok ∧ H t = some (.tup x.vs)
theorem PtAt.same {H H' : Hp} {v : V} {p : Pt} (s : Same H H') (h : PtAt H v p) : PtAt H' v p := by
  cases p with
  | w z => exact h
  | n i => exact h
  | v x => obtain ⟨t, e, k, h⟩ := h; exact ⟨t, e, k, s _ _ h⟩
def PtsAt (H : Hp) (p : Addr) (ps : List Pt) : Prop := ∃ l : List (V × Pt), H p = some (.lst (l.map (·.1))) ∧ l.map (·.2) = ps ∧ ∀ q ∈ l, PtAt H q.1 q.2
theorem PtsAt.same {H H' : Hp} {p : Addr} {ps : List Pt} (s : Same H H') (h : PtsAt H p ps) : PtsAt H' p ps := let ⟨l, h1, h2, h3⟩ := h; ⟨l, s _ _ h1, h2, fun q hq => (h3 q hq).same s⟩
def OPt (H : Hp) (v : V) : Option Pt → Prop
  | none => v = .non
  | some p => PtAt H v p ∧ v ≠ .non
def spFits : Sp := fun vs H Q _ => ∃ word slot, vs = [.str word, .str slot] ∧ slot ∈ slotW ∧ Q (.bl (fitsW word slot)) H
def spStretched : Sp := fun vs H Q _ => ∃ (a : Addr) (f : List Str) (n : Int), vs = [.ref a, .int n] ∧ H a = some (.lst (f.map V.str)) ∧ f ≠ [] ∧ f.getLast? ≠ some (".." : Str) ∧ Q (.ref a) H
def spMay (K : PySem.W.Frag) : Sp := fun vs H Q _ => ∃ (g : Addr) (G : Gram) (h : Str) (i : Nat) (rank : Int), vs = [.ref g, .str h, .int i, .int rank] ∧ GrAt K H g G ∧ Q (.bl (mayStand G h i rank)) H
def spSlots (K : PySem.W.Frag) : Sp := fun vs H Q _ => ∃ (g a : Addr) (G : Gram) (ws : List Str) (fs : List (List Str)), vs = [.ref g, .ref a] ∧ GrAt K H g G ∧ G.Ok ∧ H a = some (.lst (ws.map V.str)) ∧ ws ≠ [] ∧ ws.length ≤ 100000 ∧ G.forms.lookup (headW ws) = some fs ∧
  (slotsOf fs ws = none → ∀ H', Same H H' → Q .non H') ∧ (∀ sl, slotsOf fs ws = some sl → ∀ p H', Same H H' → H' p = some (.lst (sl.map V.str)) → Q (.ref p) H')
def spPart (K : PySem.W.Frag) : Sp := fun vs H Q _ => ∃ (g : Addr) (G : Gram) (word slot : Str), vs = [.ref g, .str word, .str slot] ∧ GrAt K H g G ∧ word.length ≤ 100000 ∧ ∀ v H', Same H H' → OPt H' v (partOf G word slot) → Q v H'
theorem wx1 {K : PySem.W.Frag} {w : World} (W : Wx K w) : ∃ es n, KDict K w (He.ga K "CAUSES") es n := He.dicW_ok (ks := causeK) (by injection W)
section
variable {P : Program} {w : World} {K : PySem.W.Frag} {mg : Str → Option Value} {base : Heap} {sa : Addr} {sx : List Int}
theorem cause_at (T : Tx K mg sa sx) {s : Str} (h : s ∈ slotW) : ∃ r, PySem.W.nsIn K (He.ga K "CAUSES") s = some r ∧ (match causeOf s with | none => r = none | some y => ∃ t, r = some (.str y t)) := ctab_at (x_causes T) h
theorem ok_fits (T : Tx K mg sa sx) (W : Wx K w) : Cal P w K mg base 1 "fits" spFits := by
  obtain ⟨fd, F⟩ := f_fits T
  obtain ⟨es, en, D⟩ := wx1 W
  refine ⟨_, fd, ["word", "slot"], fnok F sc_fits (fun vs H Q E h => ?_) (fun cdv A outer s H vs Q E hr h => ?_), F.bindsN fun _ _ _ _ _ _ us hl => match us, hl with | [_, _], _ => rfl, g_fits T, F.kp⟩
  · obtain ⟨a, b, rfl, _⟩ := h; rfl
  · obtain ⟨a, b, rfl, hb, q⟩ := h
    refine ⟨_, (pss_cons (ps_if (pt_cmpR op_eq (pv 1) pe_str (nomark _)) (pss_one (ps_ret (pe_cmpR op_in_seq (pv 0) (pe_glob (v := .ref _) rfl (g_ACCESSES T) rfl) (by rfl)))) pss_nil)
    (pss_cons (ps_if (pt_cmpR op_eq (pv 1) pe_str (nomark _)) (pss_one (ps_ret (pe_cmpR op_in_seq (pv 0) (pe_glob (v := .ref _) rfl (g_CELL_ACCESSES T) rfl) (by rfl)))) pss_nil)
    (pss_one (ps_ret (pe_or (pe_cmpR ((op_in_kd D)) (pv 1) (pe_glob (v := .ref _) rfl (g_CAUSES T) rfl) (by rfl)) (pe_one (pe_cmpR op_eq (pv 0) (pv 1) (nomark _)))))))), ?_⟩
    have pick : ∀ ts : List Str, inV (.str a) (ts.map V.str) = decide (a ∈ ts) := inV_strs a
    refine ⟨_, rfl, rfl, _, rfl, ?_⟩
    refine dC (fun h => ?_) (fun h => ?_)
    · refine ⟨_, rfl, _, _, rfl, .inr (tsB_ok (x_tsACCESSES T) H), rfl, Cm.flat_strs _, ?_⟩
      have e : fitsW a b = decide (a ∈ [("open" : Str), "guarded", "hidden"]) := by unfold fitsW; rw [if_pos (by injection h)]
      rw [e] at q
      show Q (.bl (inV (.str a) ([("open" : Str), "guarded", "hidden"].map V.str))) H
      rw [pick]; exact q
    have h1 : ¬ b = "ACCESS" := fun z => h (by rw [z])
    refine ⟨_, rfl, rfl, _, rfl, ?_⟩
    refine dC (fun h => ?_) (fun h => ?_)
    · refine ⟨_, rfl, _, _, rfl, .inr (tsB_ok (x_tsCELL_ACCESSES T) H), rfl, Cm.flat_strs _, ?_⟩
      have e : fitsW a b = decide (a ∈ [("open" : Str), "hidden"]) := by unfold fitsW; rw [if_neg h1, if_pos (by injection h)]
      rw [e] at q
      show Q (.bl (inV (.str a) ([("open" : Str), "hidden"].map V.str))) H
      rw [pick]; exact q
    have h2 : ¬ b = "LOCK" := fun z => h (by rw [z])
    have e : fitsW a b = ((causeOf b).isSome || decide (a = b)) := by unfold fitsW; rw [if_neg h1, if_neg h2]
    obtain ⟨r, hr1, hr2⟩ := cause_at T hb
    refine ⟨_, rfl, b, r, rfl, rfl, hr1, _, rfl, ?_⟩
    cases q1 : causeOf b with
    | none =>
      rw [q1] at hr2 e
      cases (show r = none from hr2)
      refine iteF ⟨_, rfl, _, rfl, rfl, ?_⟩
      have e2 : fitsW a b = decide (V.str a = V.str b) := by
        rw [e]
        show decide (a = b) = _
        exact decide_eq_decide.mpr ⟨fun h => by rw [h], fun h => by injection h⟩
      rw [← e2]; exact q
    | some y =>
      rw [q1] at hr2 e
      obtain ⟨t, rfl⟩ := hr2
      refine iteT ?_
      have e2 : fitsW a b = true := e
      rw [← e2]; exact q
theorem ok_stretched (T : Tx K mg sa sx) : Cal P w K mg base 1 "stretched" spStretched := by
  obtain ⟨fd, F⟩ := f_stretched T
  refine ⟨_, fd, ["form", "count"], fnok F sc_stretched (fun vs H Q E h => ?_) (fun cdv A outer s H vs Q E hr h => ?_), F.bindsN fun _ _ _ _ _ _ us hl => match us, hl with | [_, _], _ => rfl, g_stretched T, F.kp⟩
  · obtain ⟨a, f, n, rfl, _⟩ := h; rfl
  · obtain ⟨a, f, n, rfl, ha, hne, hd, q⟩ := h
    refine ⟨_, (pss_cons (ps_if (pt_cmpR op_ne (pe_ix ix_list (pv 0) (pe_un un_neg pe_int) (fun _ _ => rfl)) pe_str (nomark _)) (pss_one (ps_ret (pv 0))) pss_nil)
    (pss_one ps_never)), ?_⟩
    have hl : 0 < f.length := List.length_pos_iff.mpr hne
    have hat : atI (f.map V.str) (-1) = some (.str (f[f.length - 1]'(by omega))) := by
      unfold atI ixN
      rw [List.length_map, if_neg (by decide), if_pos (by omega)]
      show (f.map V.str)[(-1 + (f.length : Int)).toNat]? = _
      rw [show (-1 + (f.length : Int)).toNat = f.length - 1 by omega, List.getElem?_map, List.getElem?_eq_getElem (by omega)]
      rfl
    refine ⟨_, rfl, _, rfl, a, _, -1, _, rfl, rfl, SqL.of ha, hat, rfl, _, rfl, uT (fun z => ?_) ⟨_, rfl, q⟩⟩
    have : f[f.length - 1]'(by omega) = ".." := by injection z
    exact hd (by rw [List.getLast?_eq_getElem?, List.getElem?_eq_getElem (by omega), this])
theorem ok_Grammar_may_stand (T : Tx K mg sa sx) : MCal P w K mg base 1 (GC K) "may_stand" (spMay K) := by
  obtain ⟨fd, F⟩ := f_Grammar_may_stand T
  refine ⟨c_Grammar T, _, fd, ["self", "head", "at", "rank"], fnok F sc_Grammar_may_stand (fun vs H Q E h => ?_) (fun cdv A outer s H vs Q E hr h => ?_), F.bindsN fun _ _ _ _ _ _ us hl => match us, hl with | [_, _, _, _], _ => rfl, me_Grammar_may_stand T⟩
  · obtain ⟨g, G, h, i, rank, rfl, _⟩ := h; rfl
  · obtain ⟨g, G, h, i, rank, rfl, ⟨dx, rk, fm, kd, tv, tp, hg, hk, _⟩, q⟩ := h
    refine ⟨_, (pss_cons (ps_set (i := 4) sc_Grammar_may_stand.nd rfl (by first | exact Or.inl rfl | exact Or.inr rfl) (pe_dget2 (hu_of hr) (pe_fld (pv 0) rfl) (pv 1) (pe_un un_neg pe_int) ⟨by rfl, by rfl, by rfl, by rfl⟩))
    (pss_cons (ps_if (PW.pt (pw_or (pt_cmpR op_eq (pv 2) pe_int (nomark _)) (pw_or1 (pt_cmpR op_le (pv 4) pe_int (nomark _))))) (pss_one (ps_ret (pe_and (pe_cmpR op_eq (pv 2) pe_int (nomark _)) (pe_one (pe_cmpR op_eq (pv 4) pe_int (nomark _)))))) pss_nil)
    (pss_cons (ps_if (pt_cmpR op_gt (pv 4) (pe_fld (pv 0) rfl) (nomark _)) (pss_one (ps_ret (pe_cmpR op_eq (pv 3) (pe_fld (pv 0) rfl) (nomark _)))) pss_nil)
    (pss_one (ps_ret (pe_cmpR op_ge (pv 4) (pv 3) (nomark _))))))), ?_⟩
    have ev : (valV (skv (G.ranks.map fun p => (p.1, V.int p.2))) (Sum.inr h)).getD (.int (-1)) = .int (rankOf G h) := by
      rw [val_skv, lookup_map (fun i : Int => V.int i) G.ranks h]
      unfold rankOf
      cases G.ranks.lookup h <;> rfl
    refine ⟨_, rfl, g, _, dx, _, _, rfl, hg, c_Grammar T, na_Grammar_ranks T, rfl, rk, rfl, .inl ⟨_, .inl hk⟩, _, rfl, _, rfl, _, DGet.k (k := .inr h) hk, ?_⟩
    rw [ev]
    unfold mayStand at q
    have z0 : (V.int (i : Int) = V.int 0) ↔ i = 0 := ⟨fun z => by injection z with z; omega, fun z => by rw [z]; rfl⟩
    have z1 : (V.int (rankOf G h) = V.int 0) ↔ rankOf G h = 0 := ⟨fun z => by injection z, fun z => by rw [z]⟩
    have z2 : (V.int rank = V.int G.block) ↔ rank = G.block := ⟨fun z => by injection z, fun z => by rw [z]⟩
    generalize rankOf G h = o at q z1 ⊢
    have both : ∀ b : Bool, b = (decide (i = 0) && decide (o = 0)) → i = 0 ∨ o ≤ 0 → Q (.bl b) H := fun b e c => by rw [if_pos c] at q; rw [e]; exact q
    have ret : i = 0 ∨ o ≤ 0 → tRet (tAndV (tOp rEq (tVar 2) (tC (.int 0))) (tOp rEq (tVar 4) (tC (.int 0)))) { nx := fun x H' => Q V.non H', rt := Q } [some (.ref g), some (.str h), some (.int i), some (.int rank), some (.int o)] H := fun c => by
      refine ⟨_, rfl, rfl, _, rfl, ?_⟩
      refine dC (fun h1 => ?_) (fun h1 => ?_)
      · exact ⟨_, rfl, rfl, both _ (by rw [decide_eq_true (z0.mp h1), Bool.true_and]; exact decide_eq_decide.mpr z1) c⟩
      · exact both _ (by rw [decide_eq_false (fun z => h1 (z0.mpr z)), Bool.false_and]) c
    refine ⟨_, rfl, rfl, _, rfl, ?_⟩
    refine dC (fun h1 => ret (.inl (z0.mp h1))) (fun h1 => ?_)
    refine ⟨_, rfl, _, _, rfl, rfl, _, rfl, ?_⟩
    refine dC (fun h2 => ret (.inr h2)) (fun h2 => ?_)
    rw [if_neg (fun z => z.elim (fun z => h1 (z0.mpr z)) h2)] at q
    refine ⟨_, rfl, _, rfl, g, _, dx, _, _, rfl, hg, c_Grammar T, na_Grammar_block_rank T, rfl, _, _, rfl, rfl, _, rfl, ?_⟩
    refine dC (fun h3 => ?_) (fun h3 => ?_)
    · rw [if_pos h3] at q
      refine ⟨_, rfl, _, rfl, g, _, dx, _, _, rfl, hg, c_Grammar T, na_Grammar_block_rank T, rfl, rfl, ?_⟩
      rw [decide_eq_decide.mpr z2]; exact q
    · rw [if_neg h3] at q
      exact ⟨_, rfl, _, rfl, _, _, rfl, rfl, q⟩
end
end K88
namespace K88
open PySem PySem.Spec PyProof.Rows Cm Um TL
open L2 hiding Same
/-! ### a line's parts -/
theorem headW_at {ws : List Str} (h : ws ≠ []) : atI (ws.map V.str) 0 = some (.str (headW ws)) := by
  cases ws with
  | nil => exact absurd rfl h
  | cons a r => exact atI_nat rfl
theorem zip_take {ws f : List Str} {i : Nat} {a b : Str} (ha : ws[i]? = some a) (hb : f[i]? = some b) : (ws.zip f).take (i + 1) = (ws.zip f).take i ++ [(a, b)] := by
  have h : i < (ws.zip f).length := by
    rw [List.length_zip]
    have h1 := (List.getElem?_eq_some_iff.mp ha).1
    have h2 := (List.getElem?_eq_some_iff.mp hb).1
    omega
  rw [take_snocN h]
  congr 2
  rw [List.getElem_zip]
  exact Prod.ext (List.getElem?_eq_some_iff.mp ha).2 (List.getElem?_eq_some_iff.mp hb).2
theorem strs_at' {ts : List Str} {i : Nat} {x : V} (h : (ts.map V.str)[i]? = some x) : ∃ a, ts[i]? = some a ∧ x = .str a := by
  rw [List.getElem?_map] at h
  cases e : ts[i]? with
  | none => rw [e] at h; cases h
  | some n => rw [e] at h; exact ⟨n, rfl, (Option.some.inj h).symm⟩
theorem oval_ne {H : Hp} {v : V} {x : Val} (h : OVal H v (some x)) : v ≠ .non := by
  obtain ⟨t, rfl, _⟩ := h
  exact fun z => by cases z
theorem vs_head (x : Val) : ∃ r, x.vs = .str x.kd :: r := by cases x <;> exact ⟨_, rfl⟩
section
variable {P : Program} {w : World} {K : PySem.W.Frag} {mg : Str → Option Value} {base : Heap} {sa : Addr} {sx : List Int}
theorem ok_Grammar_slots (T : Tx K mg sa sx) (W : Wx K w) : MCal P w K mg base 2 (GC K) "slots" (spSlots K) := by
  obtain ⟨fd, F⟩ := f_Grammar_slots T
  have okf : Cal P w K mg base 1 "fits" spFits := ok_fits T W
  refine ⟨c_Grammar T, _, fd, ["self", "words"], fnok F sc_Grammar_slots (fun vs H Q E h => ?_) (fun cdv A outer s H vs Q E hr h => ?_), F.bindsN fun _ _ _ _ _ _ us hl => match us, hl with | [_, _], _ => rfl, me_Grammar_slots T⟩
  · obtain ⟨g, a, G, ws, fs, rfl, _⟩ := h; rfl
  · obtain ⟨g, a, G, ws, fs, rfl, hG, ok, ha, hne, hlw, hfs, q0, q1⟩ := h
    refine ⟨_, (pss_cons (ps_for PassesOwn.never rfl (pi_list (pe_dget (hu_of hr) (pe_fld (pv 0) rfl) (pe_ix ix_list (pv 1) pe_int (fun _ _ => rfl)) (fun _ _ => rfl))) (pg_name (i := 2) sc_Grammar_slots.nd rfl (by first | exact Or.inl rfl | exact Or.inr rfl))
      (pss_cons (ps_set (i := 3) sc_Grammar_slots.nd rfl (by first | exact Or.inl rfl | exact Or.inr rfl) (pe_cal (ok_stretched T) hr (by decide) (pa_cons (pv 2) (pa_cons (pe_callB (id := "len") call_len_seq rfl (n_len T) (by decide +kernel) (pa_cons (pv 1) pa_nil)) pa_nil))))
      (pss_one (ps_if (PW.pt (pw_and (pt_cmpR op_eq (pe_callB (id := "len") call_len_seq rfl (n_len T) (by decide +kernel) (pa_cons (pv 3) pa_nil)) (pe_callB (id := "len") call_len_seq rfl (n_len T) (by decide +kernel) (pa_cons (pv 1) pa_nil)) (nomark _)) (pw_and1 (pt_val (pe_callB (id := "all") (cr_all rfl) rfl (n_all T) (by decide +kernel) (pa_cons (pe_lc (own := [("word", 4), ("slot", 5)]) (g := gTup K 2 (gCons (gName 4) (gCons (gName 5) gNil))) rfl sc_Grammar_slots.nd (show PI _ _ _ (iZip K _) from pi_zip (by rfl) (n_zip T) (pa_cons (pv 1) (pa_cons (pv 3) pa_nil))) (blkOk_by (own := [("word", 4), ("slot", 5)]) (N := ["self", "words", "form", "slots", "word", "slot"]) (sc := defScope s_Grammar_slots) (by decide +kernel)) (fun _ _ _ _ _ => pg_tup (by rfl) (pgs_cons (pg_name (i := 4) sc_Grammar_slots.nd rfl (Or.inl rfl)) (pgs_cons (pg_name (i := 5) sc_Grammar_slots.nd rfl (Or.inl rfl)) pgs_nil))) (fun _ _ _ _ _ => pts_nil) (fun _ _ _ _ _ => (pe_cal (okf ) hr (by decide) (pa_cons (pv 4) (pa_cons (pv 5) pa_nil))))) pa_nil)))))) (pss_one (ps_ret (pv 3))) pss_nil))))
    (pss_one (ps_ret pe_non))), ?_⟩
    obtain ⟨dx, rk, fm, kd, tv, tp, hg, hk, hF, _⟩ := id hG
    obtain ⟨la, qs, hD, hla, rfl, hqs⟩ := forms_at hF hfs
    have pl := ok.plain _ _ hfs
    have ml := ok.many _ _ hfs
    rw [List.length_map] at ml
    refine ⟨_, rfl, g, _, dx, _, _, rfl, hg, c_Grammar T, na_Grammar_forms T, rfl, _, rfl, a, _, 0, _, rfl, rfl, SqL.of ha, headW_at hne, fm, _, rfl, hD, la, rfl, ⟨_, SqL.of hla⟩, ?_⟩
    refine for_list (xs := qs.map fun q => V.ref q.1) (fun i σ H' => ∃ v2 v3, σ = [some (.ref g), some (.ref a), v2, v3, none, none] ∧ Same H H' ∧ slotsOf (qs.map (·.2)) ws = slotsOf ((qs.map (·.2)).drop i) ws) ⟨none, none, rfl, Cm.Same.refl _, rfl⟩ (fun i σ H' _ h => ?_) ?_ ?_
    · obtain ⟨v2, v3, _, sm, _⟩ := h; exact sm.sl (SqL.of hla)
    · rintro i x σ H' hx ⟨v2, v3, rfl, sm, he⟩
      have hi : i < qs.length := by
        have := (List.getElem?_eq_some_iff.mp hx).1
        simpa using this
      obtain rfl : x = V.ref qs[i].1 := by rw [List.getElem?_map, List.getElem?_eq_getElem hi] at hx; exact (Option.some.inj hx).symm
      have hq := sm _ _ (hqs _ (List.getElem_mem hi))
      have ha1 := sm _ _ ha
      obtain ⟨p1, p2, p3, p4⟩ := pl qs[i].2 (List.mem_map_of_mem (List.getElem_mem hi))
      have hdr : (qs.map (·.2)).drop i = qs[i].2 :: (qs.map (·.2)).drop (i + 1) := by
        rw [List.drop_eq_getElem_cons (by rw [List.length_map]; exact hi), List.getElem_map]
      rw [hdr] at he
      generalize qs[i].1 = fa at hq ⊢
      generalize qs[i].2 = f at hq p1 p2 p3 p4 he hdr ⊢
      refine ⟨_, rfl, _, rfl, a, _, rfl, .inl (SqL.of ha1), fa, f, _, rfl, hq, p1, p3, ?_⟩
      refine ⟨_, rfl, fa, _, rfl, .inl (SqL.of hq), _, rfl, a, _, rfl, .inl (SqL.of ha1), rfl, _, rfl, ?_⟩
      have el : decide (V.int ((f.map V.str).length : Nat) = V.int ((ws.map V.str).length : Nat)) = decide (f.length = ws.length) := decide_eq_decide.mpr ⟨fun z => by rw [List.length_map, List.length_map] at z; injection z with z; omega, fun z => by rw [List.length_map, List.length_map, z]⟩
      have nx : (decide (f.length = ws.length) && (ws.zip f).all fun p => fitsW p.1 p.2) = false → slotsOf (qs.map (·.2)) ws = slotsOf ((qs.map (·.2)).drop (i + 1)) ws := fun z => by
        rw [he]; unfold slotsOf; rw [List.find?_cons, z]
      rw [el]
      refine dC (fun hlen => ?_) (fun hlen => iteF ⟨_, _, rfl, sm, nx (by rw [decide_eq_false hlen]; rfl)⟩)
      unfold tB tCB tCons tNil
      dsimp only
      refine ⟨_, rfl, _, rfl, a, fa, _, _, rfl, SqL.of ha1, SqL.of hq, fun D hD2 => ?_⟩
      refine lc_it (walk_zip (K := K) (a := a) (b := fa) (xs := ws.map V.str) (ys := f.map V.str) (n := f.length) (by rw [List.length_map, List.length_map]; omega)) (fun j H2 => Same H' H2 ∧ H2 D = some (.lst (((ws.zip f).take j).map fun p => V.bl (fitsW p.1 p.2)))) ⟨Same.new hD2, upd_same⟩ (fun j H2 _ h => ⟨h.1.sl (SqL.of ha1), h.1.sl (SqL.of hq)⟩) ?_ ?_
      · rintro j x H2 G2 hj ⟨s2, hS⟩ ⟨Tp, y, z, rfl, hT, rfl, hy, hz⟩
        obtain ⟨wd, ew, rfl⟩ := strs_at' hy
        obtain ⟨sl, es, rfl⟩ := strs_at' hz
        refine ⟨Tp, _, rfl, SqT.of upd_same, rfl, _, _, rfl, _, _, rfl, rfl, rfl, ?_⟩
        refine ⟨_, rfl, _, rfl, wd, sl, rfl, p4 _ (List.mem_of_getElem? es), _, (Same.new hT) _ _ hS, sz2 (by simp only [List.length_map, List.length_take]; rw [List.length_zip]; omega), (s2.trans (Same.new hT)).mut hD2, ?_⟩
        rw [upd_same, zip_take ew es, List.map_append]; rfl
      · rintro H2 ⟨s2, hS⟩
        rw [List.take_of_length_le (by rw [List.length_zip]; omega)] at hS
        refine ⟨D, (ws.zip f).map fun p => fitsW p.1 p.2, rfl, SqL.of (by rw [hS, List.map_map]; rfl), _, rfl, ?_⟩
        rw [List.all_map]
        refine bC (fun hb => ?_) (fun hb => ⟨_, _, rfl, sm.trans s2, nx (by rw [decide_eq_true hlen, Bool.true_and]; exact hb)⟩)
        refine ⟨_, rfl, q1 f ?_ fa H2 (sm.trans s2) (s2 _ _ hq)⟩
        rw [he]; unfold slotsOf; rw [List.find?_cons, decide_eq_true hlen, Bool.true_and]
        rw [show ((ws.zip f).all fun p => fitsW p.1 p.2) = true from hb]
    · rintro σ H' ⟨v2, v3, rfl, sm, he⟩
      rw [List.length_map, show qs.length = (qs.map (·.2)).length from (List.length_map ..).symm, List.drop_length] at he
      exact q0 he _ sm
theorem ok_Grammar_part (T : Tx K mg sa sx) : MCal P w K mg base 5 (GC K) "part" (spPart K) := by
  obtain ⟨fd, F⟩ := f_Grammar_part T
  refine ⟨c_Grammar T, _, fd, ["self", "word", "slot"], fnok F sc_Grammar_part (fun vs H Q E h => ?_) (fun cdv A outer s H vs Q E hr h => ?_), F.bindsN fun _ _ _ _ _ _ us hl => match us, hl with | [_, _, _], _ => rfl, me_Grammar_part T⟩
  · obtain ⟨g, G, wd, sl, rfl, _⟩ := h; rfl
  · obtain ⟨g, G, wd, sl, rfl, hG, hw, q⟩ := h
    refine ⟨_, (pss_cons (ps_if (pt_cmpR op_eq (pv 2) pe_str (nomark _)) (pss_one (ps_ret (pe_ifExp (pt_val (pe_cal (ok_is_name T) hr (by decide) (pa_cons (pv 1) pa_nil))) (pv 1) pe_non))) pss_nil)
    (pss_cons (ps_if (PW.pt (pw_or (pt_cmpR op_eq (pv 2) pe_str (nomark _)) (pw_or1 (pt_cmpR op_eq (pv 2) pe_str (nomark _))))) (pss_one (ps_ret (pe_ifExp (pt_val (pe_cal (ok_is_numeral T) hr (by decide) (pa_cons (pv 1) pa_nil))) (pe_callTy (T := "int") call_int_str rfl (n_int T) (by decide +kernel) (pa_cons (pv 1) pa_nil)) pe_non))) pss_nil)
    (pss_cons (ps_if (pt_cmpR op_eq (pv 2) pe_str (nomark _)) (pss_one (ps_ret (pe_ifExp (pt_val (pe_cal (ok_is_tag T) hr (by decide) (pa_cons (pv 1) pa_nil))) (pe_callTy (T := "int") call_int_str rfl (n_int T) (by decide +kernel) (pa_cons (pv 1) pa_nil)) pe_non))) pss_nil)
    (pss_cons (ps_if (pt_cmp (pc_din (hu_of hr) (pv 2) (pe_fld (pv 0) rfl))) (pss_cons (ps_set (i := 3) sc_Grammar_part.nd rfl (by first | exact Or.inl rfl | exact Or.inr rfl) (pe_cal (ok_value_of T) hr (by decide) (pa_cons (pv 1) pa_nil)))
      (pss_one (ps_ret (pe_ifExp (PW.pt (pw_and (pt_cmpR op_notN (pv 3) pe_non (nomark _)) (pw_and1 (pt_cmpR op_in_seq (pe_ix ix_tup (pv 3) pe_int (fun _ _ => rfl)) (pe_dget (hu_of hr) (pe_fld (pv 0) rfl) (pv 2) (fun _ _ => rfl)) (by rfl))))) (pv 3) pe_non)))) pss_nil)
    (pss_one (ps_ret (pv 1))))))), ?_⟩
    have se : ∀ z : Str, (V.str sl = V.str z) ↔ sl = z := fun z => ⟨fun h => by injection h, fun h => by rw [h]⟩
    refine ⟨_, rfl, rfl, _, rfl, ?_⟩
    refine dC (fun h => ?_) (fun h1 => ?_)
    · have h := (se _).mp h
      refine ⟨_, rfl, wd, rfl, hw, fun H1 s1 => ⟨_, rfl, ?_⟩⟩
      refine bC (fun hn => ⟨_, rfl, ?_⟩) (fun hn => ?_)
      · exact q _ _ s1 (by unfold partOf; rw [if_pos h, if_pos hn]; exact ⟨rfl, fun z => by cases z⟩)
      · exact q _ _ s1 (by unfold partOf; rw [if_pos h, if_neg (by rw [hn]; decide)]; rfl)
    have h1 : ¬ sl = "NAME" := fun z => h1 ((se _).mpr z)
    have num : sl = "N" ∨ sl = "K" → tRet (tIf (tB (tCall (spW isNumeral) [] E0 (tCons (tVar 1) tNil))) (tCB (fun xs H Q => ∃ a n, xs = [.str a] ∧ PySem.intText? a = some n ∧ a.length ≤ 640 ∧ Q (.int n) H) (tCons (tVar 1) tNil)) (tC .non)) { nx := fun x H' => Q V.non H', rt := Q } [some (.ref g), some (.str wd), some (.str sl), none] H := fun c => by
      refine ⟨_, rfl, wd, rfl, hw, fun H1 s1 => ⟨_, rfl, ?_⟩⟩
      refine bC (fun hn => ?_) (fun hn => ?_)
      · obtain ⟨t1, t2, t3⟩ := numeral_text hn
        exact ⟨_, rfl, wd, _, rfl, t1, by omega, q _ _ s1 (by unfold partOf; rw [if_neg h1, if_pos c, if_pos hn]; exact ⟨⟨rfl, t2⟩, fun z => by cases z⟩)⟩
      · exact q _ _ s1 (by unfold partOf; rw [if_neg h1, if_pos c, if_neg (by rw [hn]; decide)]; rfl)
    refine ⟨_, rfl, rfl, _, rfl, ?_⟩
    refine dC (fun h => num (.inl ((se _).mp h))) (fun h2 => ⟨_, rfl, rfl, _, rfl, dC (fun h => num (.inr ((se _).mp h))) (fun h3 => ?_)⟩)
    have h23 : ¬ (sl = "N" ∨ sl = "K") := fun z => z.elim (fun z => h2 ((se _).mpr z)) (fun z => h3 ((se _).mpr z))
    refine ⟨_, rfl, rfl, _, rfl, ?_⟩
    refine dC (fun h => ?_) (fun h4 => ?_)
    · have h := (se _).mp h
      refine ⟨_, rfl, wd, rfl, hw, fun H1 s1 => ⟨_, rfl, ?_⟩⟩
      refine bC (fun hn => ?_) (fun hn => ?_)
      · have hi : isIndex wd = true := by unfold isTag at hn; exact (Bool.and_eq_true_iff.mp hn).1
        obtain ⟨t1, t2, t3, t4⟩ := index_text hi
        exact ⟨_, rfl, wd, _, rfl, t1, by omega, q _ _ s1 (by unfold partOf; rw [if_neg h1, if_neg h23, if_pos h, if_pos hn]; exact ⟨⟨rfl, by omega⟩, fun z => by cases z⟩)⟩
      · exact q _ _ s1 (by unfold partOf; rw [if_neg h1, if_neg h23, if_pos h, if_neg (by rw [hn]; decide)]; rfl)
    have h4 : ¬ sl = "T" := fun z => h4 ((se _).mpr z)
    obtain ⟨dx, rk, fm, kd, tv, tp, hg, hk, hF, hkd, htv, htp⟩ := id hG
    have kinds : ∀ (ks : List Str) (tk : Addr) (H1 : Hp), Same H H1 → SqT K H1 tk (ks.map V.str) → valV (skv [("V", .ref tv), ("P", .ref tp)]) (Sum.inr sl) = some (.ref tk) → partOf G wd sl = valIn ks wd → ∀ v H2, Same H1 H2 → OVal H2 v (valueOf wd) →
        tRet (tIf (tAnd (tTest (tOp (fun x y H Q => y = .non ∧ Q (.bl (!decide (x = .non))) H) (tVar 3) (tC .non))) (tTest (tOp (rIn K false) (tOp (rIxT K) (tVar 3) (tC (.int 0))) (tDGet (tFld K (tVar 0) "kinds") (tVar 2))))) (tVar 3) (tC .non)) { nx := fun x H' => Q V.non H', rt := Q } [some (.ref g), some (.str wd), some (.str sl), some v] H2 := fun ks tk H1 s1 ht hv he v H2 s2 ho => by
      have s12 := s1.trans s2
      cases hvo : valueOf wd with
      | none =>
        rw [hvo] at ho
        cases (show v = .non from ho)
        exact ⟨_, rfl, rfl, _, rfl, uF rfl (iteF (q _ _ s12 (by rw [he]; unfold valIn; rw [hvo]; rfl)))⟩
      | some x =>
        rw [hvo] at ho
        obtain ⟨t, rfl, hx, htup⟩ := id ho
        obtain ⟨r, er⟩ := vs_head x
        have htup2 : H2 t = some (.tup (.str x.kd :: r)) := by rw [htup, er]
        refine ⟨_, rfl, rfl, _, rfl, uT (fun z => by cases z) ⟨_, rfl, t, _, 0, .str x.kd, rfl, rfl, SqT.of htup2, atI_nat rfl, _, rfl, g, _, dx, _, _, rfl, s12 _ _ hg, c_Grammar T, na_Grammar_kinds T, rfl, _, rfl, kd, .ref tk, rfl, .inl ⟨_, .inr sl, .inl (s12 _ _ hkd), rfl, hv.symm⟩, tk, _, rfl, .inr (s2.st ht), rfl, Cm.flat_strs _, _, rfl, ?_⟩⟩
        show if (inV (.str x.kd) (ks.map V.str)) = true then _ else _
        rw [Cm.inV_strs]
        refine dC (fun hm => ⟨_, rfl, q _ _ s12 ?_⟩) (fun hm => q _ _ s12 ?_)
        · rw [he]; unfold valIn; rw [hvo]; dsimp only; rw [if_pos hm]; exact ⟨⟨t, rfl, hx, htup⟩, fun z => by cases z⟩
        · rw [he]; unfold valIn; rw [hvo]; dsimp only; rw [if_neg hm]; rfl
    have e0 : ∀ z : Str, valV (skv [("V", V.ref tv), ("P", V.ref tp)]) (Sum.inr z) = if z = "V" then some (.ref tv) else if z = "P" then some (.ref tp) else none := fun z => by
      by_cases hV : z = "V"
      · rw [if_pos hV, hV]; rfl
      · rw [if_neg hV]
        by_cases hP : z = "P"
        · rw [if_pos hP, hP]; rfl
        · rw [if_neg hP]
          show valV ((Sum.inr (("V" : Str)), V.ref tv) :: (Sum.inr (("P" : Str)), V.ref tp) :: []) (Sum.inr z) = none
          rw [valV_neg (by intro e; injection e with e; exact hV e.symm), valV_neg (by intro e; injection e with e; exact hP e.symm)]
          rfl
    refine ⟨_, rfl, _, rfl, g, _, dx, _, _, rfl, hg, c_Grammar T, na_Grammar_kinds T, rfl, kd, _, rfl, DGet.k (k := .inr sl) hkd, _, rfl, ?_⟩
    rw [e0]
    by_cases hV : sl = "V"
    · rw [if_pos hV]
      refine iteT ⟨_, rfl, wd, rfl, hw, fun v H2 s2 ho => kinds G.vk tv H (Cm.Same.refl _) htv (by rw [e0, if_pos hV]) (by unfold partOf; rw [if_neg h1, if_neg h23, if_neg h4, if_pos hV]) v H2 s2 ho⟩
    · rw [if_neg hV]
      by_cases hP : sl = "P"
      · rw [if_pos hP]
        refine iteT ⟨_, rfl, wd, rfl, hw, fun v H2 s2 ho => kinds G.pk tp H (Cm.Same.refl _) htp (by rw [e0, if_neg hV, if_pos hP]) (by unfold partOf; rw [if_neg h1, if_neg h23, if_neg h4, if_neg hV, if_pos hP]) v H2 s2 ho⟩
      · rw [if_neg hP]
        refine iteF ⟨_, rfl, q _ _ (Cm.Same.refl _) ?_⟩
        unfold partOf
        rw [if_neg h1, if_neg h23, if_neg h4, if_neg hV, if_neg hP]
        exact ⟨rfl, fun z => by cases z⟩
end
end K88
namespace Um
open PySem PySem.Spec PyProof.Rows Cm TL
open L2 hiding Same
theorem sum_mem : ∀ {l : List Nat} {x : Nat}, x ∈ l → x ≤ l.sum
  | a :: l, x, h => by
    rw [List.sum_cons]
    rcases List.mem_cons.mp h with rfl | h
    · omega
    · have := sum_mem h; omega
theorem split_small {x y z : Str} (hy : 1 ≤ y.length) (h : z ∈ Txt.split x y) : z.length ≤ x.length := by
  have h1 := split_weight x y hy
  have h2 := split_pos x y
  have : z.length ≤ _ := sum_mem (List.mem_map_of_mem (f := fun z : Str => z.length) h)
  omega
theorem split_many (x y : Str) (hy : 1 ≤ y.length) : (Txt.split x y).length ≤ x.length + 1 := by
  have h1 := split_weight x y hy
  omega
theorem split_ne (x y : Str) : Txt.split x y ≠ [] := fun z => by
  have := split_pos x y
  rw [z] at this; simp at this
theorem goParts_none {G : Gram} {p : Str × Str} {r : List (Str × Str)} (h : partOf G p.1 p.2 = none) : goParts G (p :: r) = .inl ((causeOf p.2).getD "") := by rw [goParts, h]
def andThen (done : List Pt) : Str ⊕ List Pt → Str ⊕ List Pt
  | .inl c => .inl c
  | .inr l => .inr (done ++ l)
theorem goParts_some {G : Gram} {p : Str × Str} {r : List (Str × Str)} {a : Pt} {done : List Pt} (h : partOf G p.1 p.2 = some a) : andThen done (goParts G (p :: r)) = andThen (done ++ [a]) (goParts G r) := by
  rw [goParts, h]
  cases goParts G r with
  | inl c => rfl
  | inr l => show Sum.inr (done ++ (a :: l)) = Sum.inr ((done ++ [a]) ++ l); rw [List.append_assoc]; rfl
theorem part_cause {G : Gram} {wd sl : Str} (h : partOf G wd sl = none) : ∃ c, causeOf sl = some c ∧ c.length ≤ 1000 := by
  unfold partOf at h
  by_cases h1 : sl = "NAME"
  · exact ⟨"name", by rw [h1]; rfl, by decide +kernel⟩
  rw [if_neg h1] at h
  by_cases h2 : sl = "N" ∨ sl = "K"
  · refine ⟨"number", ?_, by decide +kernel⟩
    rcases h2 with rfl | rfl <;> rfl
  rw [if_neg h2] at h
  by_cases h3 : sl = "T"
  · exact ⟨"number", by rw [h3]; rfl, by decide +kernel⟩
  rw [if_neg h3] at h
  by_cases h4 : sl = "V"
  · exact ⟨"value", by rw [h4]; rfl, by decide +kernel⟩
  rw [if_neg h4] at h
  by_cases h5 : sl = "P"
  · exact ⟨"value", by rw [h5]; rfl, by decide +kernel⟩
  rw [if_neg h5] at h
  cases h
theorem may_rank {G : Gram} {h : Str} {i : Nat} {r : Int} (m : mayStand G h i r = true) : ∃ o, G.ranks.lookup h = some o ∧ 0 ≤ o ∧ rankOf G h = o := by
  have h0 : 0 ≤ rankOf G h := by
    unfold mayStand at m
    by_cases c : i = 0 ∨ rankOf G h ≤ 0
    · rw [if_pos c, Bool.and_eq_true, decide_eq_true_iff, decide_eq_true_iff] at m
      omega
    · omega
  unfold rankOf at h0 ⊢
  cases e : G.ranks.lookup h with
  | none => rw [e] at h0; exact absurd h0 (by decide)
  | some o => rw [e] at h0; exact ⟨o, rfl, h0, rfl⟩
theorem goParts_len {G : Gram} {c : Str} : ∀ {l : List (Str × Str)}, goParts G l = .inl c → c.length ≤ 1000
  | [], h => by cases h
  | p :: r, h => by
    cases e : partOf G p.1 p.2 with
    | none =>
      rw [goParts_none e] at h
      obtain ⟨d, ed, ld⟩ := part_cause e
      rw [ed] at h
      cases h
      exact ld
    | some a =>
      rw [goParts, e] at h
      cases q : goParts G r with
      | inl d => rw [q] at h; cases h; exact goParts_len q
      | inr l => rw [q] at h; cases h
theorem parts_len {G : Gram} {ws : List Str} {c : Str} (h : partsOf G ws = .inl c) : c.length ≤ 1000 := by
  unfold partsOf at h
  split at h
  · cases h; decide +kernel
  · exact goParts_len h
abbrev EL := (Int × Str) ⊕ List (List Pt)
def thenL (done : List (List Pt)) : EL → EL
  | .inl c => .inl c
  | .inr l => .inr (done ++ l)
theorem parseL_words {G : Gram} {i : Nat} {rank : Int} {line : Str} {r : List Str} (h : ("" : Str) ∈ Txt.split line " ") : parseL G i rank (line :: r) = .inl ((i : Int), "words") := by rw [parseL, if_pos h]
theorem parseL_head {G : Gram} {i : Nat} {rank : Int} {line : Str} {r : List Str} (h : ("" : Str) ∉ Txt.split line " ") (m : mayStand G (headW (Txt.split line " ")) i rank = false) : parseL G i rank (line :: r) = .inl ((i : Int), "head") := by
  rw [parseL, if_neg h, if_pos m]
theorem parseL_bad {G : Gram} {i : Nat} {rank : Int} {line c : Str} {r : List Str} (h : ("" : Str) ∉ Txt.split line " ") (m : mayStand G (headW (Txt.split line " ")) i rank = true) (p : partsOf G (Txt.split line " ") = .inl c) : parseL G i rank (line :: r) = .inl ((i : Int), c) := by
  rw [parseL, if_neg h, if_neg (by rw [m]; decide), p]
theorem parseL_ok {G : Gram} {i : Nat} {rank : Int} {line : Str} {r : List Str} {ps : List Pt} {done : List (List Pt)} (h : ("" : Str) ∉ Txt.split line " ") (m : mayStand G (headW (Txt.split line " ")) i rank = true) (p : partsOf G (Txt.split line " ") = .inr ps) :
    thenL done (parseL G i rank (line :: r)) = thenL (done ++ [ps]) (parseL G (i + 1) (min (rankOf G (headW (Txt.split line " "))) G.block) r) := by
  rw [parseL, if_neg h, if_neg (by rw [m]; decide), p]
  dsimp only
  cases parseL G (i + 1) (min (rankOf G (headW (Txt.split line " "))) G.block) r with
  | inl c => rfl
  | inr l => show Sum.inr (done ++ (ps :: l)) = Sum.inr ((done ++ [ps]) ++ l); rw [List.append_assoc]; rfl
theorem thenL_nil (x : EL) : thenL [] x = x := by cases x <;> rfl
theorem andThen_nil (x : Str ⊕ List Pt) : andThen [] x = x := by cases x <;> rfl
end Um
namespace K88
open PySem PySem.Spec PyProof.Rows Cm Um TL
open L2 hiding Same
/-! ### lines and texts -/
theorem PtAt.mut {H : Hp} {v : V} {p : Pt} {D : Addr} {xs : List V} {o : HO} (hD : H D = some (.lst xs)) (h : PtAt H v p) : PtAt (upd H D o) v p := by
  cases p with
  | w z => exact h
  | n i => exact h
  | v x =>
    obtain ⟨t, e, k, h⟩ := h
    exact ⟨t, e, k, by rw [upd_ne (fun z => by rw [z, hD] at h; cases h)]; exact h⟩
theorem PtsAt.mut {H : Hp} {a D : Addr} {ps : List Pt} {xs : List V} {o : HO} (ne : a ≠ D) (hD : H D = some (.lst xs)) (h : PtsAt H a ps) : PtsAt (upd H D o) a ps :=
  let ⟨l, h1, h2, h3⟩ := h; ⟨l, by rw [upd_ne ne]; exact h1, h2, fun q hq => (h3 q hq).mut hD⟩
def LinesAt (H : Hp) (L : Addr) (ls : List (List Pt)) : Prop := ∃ m : List (Addr × List Pt), H L = some (.lst (m.map fun q => V.ref q.1)) ∧ m.map (·.2) = ls ∧ ∀ q ∈ m, PtsAt H q.1 q.2 ∧ q.1 ≠ L
theorem LinesAt.same {H H' : Hp} {L : Addr} {ls} (s : Same H H') (h : LinesAt H L ls) : LinesAt H' L ls := let ⟨m, h1, h2, h3⟩ := h; ⟨m, s _ _ h1, h2, fun q hq => ⟨(h3 q hq).1.same s, (h3 q hq).2⟩⟩
def spParts (K : PySem.W.Frag) : Sp := fun vs H Q E => ∃ (g a : Addr) (G : Gram) (ws : List Str) (i : Int), vs = [.ref g, .ref a, .int i] ∧ GrAt K H g G ∧ G.Ok ∧ H a = some (.lst (ws.map V.str)) ∧ ws ≠ [] ∧ ws.length ≤ 100000 ∧ (∀ z ∈ ws, z.length ≤ 100000) ∧
  (G.forms.lookup (headW ws)).isSome = true ∧ i.natAbs ≤ 4000000 ∧ (∀ ps, partsOf G ws = .inr ps → ∀ p H', Same H H' → H p = none → PtsAt H' p ps → Q (.ref p) H') ∧
  (∀ c, partsOf G ws = .inl c → ∀ H' d, Same H H' → H' d = some (.xd [("cause", .str c), ("row", .int i)]) → E (.ref (BT K)) (some d) H')
def spParse (K : PySem.W.Frag) : Sp := fun vs H Q E => ∃ (g : Addr) (G : Gram) (t : Str), vs = [.ref g, .str t] ∧ GrAt K H g G ∧ G.Ok ∧ t.length ≤ 99000 ∧
  (∀ ls, parseT G t = .inr ls → ∀ p H', Same H H' → H p = none → LinesAt H' p ls → Q (.ref p) H') ∧
  (∀ i c, parseT G t = .inl (i, c) → ∀ H' d, Same H H' → H' d = some (.xd [("cause", .str c), ("row", .int i)]) → E (.ref (BT K)) (some d) H')
section
variable {P : Program} {w : World} {K : PySem.W.Frag} {mg : Str → Option Value} {base : Heap} {sa : Addr} {sx : List Int}
theorem ok_Grammar_parts (T : Tx K mg sa sx) (W : Wx K w) (hP : PF P) : MCalX P w K mg base 6 (GC K) "parts" (spParts K) := by
  obtain ⟨fd, F⟩ := f_Grammar_parts T
  obtain ⟨fb, FB, bB⟩ := ok_BadText (P := P) (w := w) (base := base) T hP
  have oks : MCal P w K mg base 2 (GC K) "slots" (spSlots K) := ok_Grammar_slots T W
  refine ⟨c_Grammar T, _, fd, ["self", "words", "at"], F.ok sc_Grammar_parts (fun vs H Q E h => ?_) (fun cdv A outer s H vs Q E hr h => ?_), F.bindsN (fun _ _ _ _ _ _ us hl => match us, hl with | [_, _, _], _ => rfl), me_Grammar_parts T⟩
  · obtain ⟨g, a, G, ws, i, rfl, _⟩ := h; rfl
  · obtain ⟨g, a, G, ws, at_, rfl, hG, ok, ha, hne, hlw, hws, hfs, hat, q, qe⟩ := h
    refine ⟨_, (pss_cons (ps_set (i := 3) sc_Grammar_parts.nd rfl (by first | exact Or.inl rfl | exact Or.inr rfl) (pe_mcalA oks hr (by decide) (pv 0) (pa_cons (pv 1) pa_nil)))
    (pss_cons (ps_if (pt_cmpR op_isN (pv 3) pe_non (nomark _)) (pss_one (ps_raise rfl (takes_of rfl rfl rfl rfl) (pmk_oex (exT T).oex (exT T).iC (exT T).tI FB (hr.mono (by decide)) bB .nil pass0 rfl (g_BadText T) (pa_cons (pv 2) (pa_cons pe_str pa_nil))))) pss_nil)
    (pss_cons (ps_set (i := 4) sc_Grammar_parts.nd rfl (by first | exact Or.inl rfl | exact Or.inr rfl) (pe_lst pa_nil))
    (pss_cons (ps_for (passes_of rfl) rfl (pi_zip (by rfl) (n_zip T) (pa_cons (pv 1) (pa_cons (pv 3) pa_nil))) (pg_tup (by rfl) (pgs_cons (pg_name (i := 5) sc_Grammar_parts.nd rfl (by first | exact Or.inl rfl | exact Or.inr rfl)) (pgs_cons (pg_name (i := 6) sc_Grammar_parts.nd rfl (by first | exact Or.inl rfl | exact Or.inr rfl)) pgs_nil)))
      (pss_cons (ps_set (i := 7) sc_Grammar_parts.nd rfl (by first | exact Or.inl rfl | exact Or.inr rfl) (pe_mcalA (ok_Grammar_part T) hr (by decide) (pv 0) (pa_cons (pv 5) (pa_cons (pv 6) pa_nil))))
      (pss_cons (ps_if (pt_cmpR op_isN (pv 7) pe_non (nomark _)) (pss_one (ps_raise rfl (takes_of rfl rfl rfl rfl) (pmk_oex (exT T).oex (exT T).iC (exT T).tI FB (hr.mono (by decide)) bB .nil pass0 rfl (g_BadText T) (pa_cons (pv 2) (pa_cons (pe_ix ix_kdict (pe_glob (v := .ref _) rfl (g_CAUSES T) rfl) (pv 6) (fun _ _ => rfl)) pa_nil))))) pss_nil)
      (pss_one (ps_expr (pe_bm PySem.F.plainAttrs_list PySem.F.slot_list_append PySem.F.type_list_append mt_append (pv 4) (pa_cons (pv 7) pa_nil)))))))
    (pss_one (ps_ret (pv 4))))))), ?_⟩
    obtain ⟨fs, efs⟩ := Option.isSome_iff_exists.mp hfs
    have ep : partsOf G ws = match slotsOf fs ws with | none => .inl "count" | some sl => goParts G (ws.zip sl) := by unfold partsOf; rw [efs]; rfl
    obtain ⟨dx, rk, fm, kd, tv, tp, hg, _⟩ := id hG
    refine ⟨_, rfl, g, dx, _, rfl, hg, rfl, _, rfl, g, a, G, ws, fs, rfl, hG, ok, ha, hne, hlw, efs, fun h0 H1 s1 => ?_, fun sl h1 b H1 s1 hb => ?_⟩
    · rw [h0] at ep
      refine ⟨_, rfl, rfl, _, rfl, tT rfl ?_⟩
      exact ⟨_, rfl, raise2 hat (by decide +kernel) fun H' d s2 h => qe _ ep _ _ (s1.trans s2) h⟩
    · rw [h1] at ep
      have ep : partsOf G ws = goParts G (ws.zip sl) := ep
      have hsl : sl.length = ws.length ∧ sl ∈ fs := by
        unfold slotsOf at h1
        refine ⟨?_, List.mem_of_find?_eq_some h1⟩
        have := List.find?_some h1
        rw [Bool.and_eq_true, decide_eq_true_iff] at this
        exact this.1
      obtain ⟨p1, p2, p3, p4⟩ := ok.plain _ _ efs sl hsl.2
      refine ⟨_, rfl, rfl, _, rfl, tF (fun z => by cases z) ⟨sz1 (by simp), fun D hD => ?_⟩⟩
      have hD0 : H D = none := s1.free hD
      have ha1 : SqL K (upd H1 D (.lst [])) a (ws.map V.str) := SqL.of ((Same.new hD) _ _ (s1 _ _ ha))
      have hb1 : SqL K (upd H1 D (.lst [])) b (sl.map V.str) := SqL.of ((Same.new hD) _ _ hb)
      have sD : Same H (upd H1 D (.lst [])) := s1.trans (Same.new hD)
      have hDD : (upd H1 D (.lst [])) D = some (.lst []) := upd_same
      have bD : b ≠ D := fun z => by rw [z, hD] at hb; cases hb
      have aD : a ≠ D := fun z => by rw [z, hD0] at ha; cases ha
      have hb2 : (upd H1 D (.lst [])) b = some (.lst (sl.map V.str)) := by rw [upd_ne bD]; exact hb
      generalize upd H1 D (.lst []) = H2 at ha1 hb1 sD hDD hb2 ⊢
      refine ⟨_, rfl, _, rfl, a, b, _, _, rfl, ha1, hb1, ?_⟩
      refine RZ.for_zipL (K := K) (xs := ws.map V.str) (ys := sl.map V.str) (by rw [List.length_map, List.length_map, hsl.1]) (fun i σ H' => ∃ (v5 v6 v7 : Option V) (l : List (V × Pt)), σ = [some (.ref g), some (.ref a), some (.int at_), some (.ref b), some (.ref D), v5, v6, v7] ∧ Same H H' ∧ H' b = some (.lst (sl.map V.str)) ∧
        H' D = some (.lst (l.map (·.1))) ∧ l.length = i ∧ (∀ q ∈ l, PtAt H' q.1 q.2) ∧ goParts G (ws.zip sl) = andThen (l.map (·.2)) (goParts G ((ws.zip sl).drop i))) ⟨none, none, none, [], rfl, sD, hb2, hDD, rfl, fun q hq => (by cases hq), (andThen_nil _).symm⟩ (fun i σ H' h => ?_) ?_ ?_
      · obtain ⟨v5, v6, v7, l, _, sm, hbb, _⟩ := h; exact ⟨SqL.of (sm _ _ ha), SqL.of hbb⟩
      · rintro i x y Tp σ H' hx hy ⟨v5, v6, v7, l, rfl, sm, hbb, hS, ll, hl, he⟩ hT
        obtain ⟨wd, ew, rfl⟩ := strs_at' hx
        obtain ⟨st, es, rfl⟩ := strs_at' hy
        refine ⟨Tp, _, rfl, SqT.of upd_same, rfl, _, _, rfl, _, _, rfl, rfl, ?_⟩
        have sT := Same.new hT (o := .tup [V.str wd, V.str st])
        have hz : (ws.zip sl).drop i = (wd, st) :: (ws.zip sl).drop (i + 1) := by
          have h2 : i < (ws.zip sl).length := by
            rw [List.length_zip]
            have h1 := (List.getElem?_eq_some_iff.mp ew).1
            have h2 := (List.getElem?_eq_some_iff.mp es).1
            omega
          rw [List.drop_eq_getElem_cons h2, List.getElem_zip, (List.getElem?_eq_some_iff.mp ew).2, (List.getElem?_eq_some_iff.mp es).2]
        rw [hz] at he
        have hlen : i < 100000 := by have := (List.getElem?_eq_some_iff.mp ew).1; omega
        refine ⟨_, rfl, g, dx, _, rfl, sT _ _ (sm _ _ hg), rfl, _, rfl, _, rfl, g, G, wd, st, rfl, (hG.same sm).same sT, hws _ (List.mem_of_getElem? ew), fun v H3 s3 ho => ?_⟩
        have sm3 := (sm.trans sT).trans s3
        have s13 := sT.trans s3
        have hbb := s13 _ _ hbb
        have hS := s13 _ _ hS
        have hl : ∀ q ∈ l, PtAt H3 q.1 q.2 := fun q hq => (hl q hq).same s13
        cases hp : partOf G wd st with
        | none =>
          rw [hp] at ho
          cases (show v = .non from ho)
          obtain ⟨c, ec, lc⟩ := part_cause hp
          obtain ⟨r, hr1, hr2⟩ := cause_at T (p4 _ (List.mem_of_getElem? es))
          rw [ec] at hr2
          obtain ⟨tk, rfl⟩ := hr2
          obtain ⟨es2, en, Dk⟩ := wx1 W
          refine ⟨_, rfl, rfl, _, rfl, tT rfl ⟨_, rfl, _, rfl, _, st, .str c, rfl, rfl, ⟨es2, en, _, Dk.at_, Dk.lit, hr1, ⟨tk, rfl⟩⟩, ?_⟩⟩
          refine raise2 hat lc fun H' d s2 h => qe c ?_ _ _ (sm3.trans s2) h
          rw [ep, he, goParts_none (p := (wd, st)) hp]
          show Sum.inl ((causeOf st).getD "") = _
          rw [ec]; rfl
        | some pt =>
          rw [hp] at ho
          obtain ⟨ho1, ho2⟩ := (show PtAt H3 v pt ∧ v ≠ .non from ho)
          refine ⟨_, rfl, rfl, _, rfl, tF ho2 ⟨_, rfl, .inl ⟨rfl, _, SqL.of hS⟩, _, rfl, D, _, v, rfl, rfl, hS, sz2 (by rw [List.length_map]; omega), ?_⟩⟩
          refine ⟨_, _, _, l ++ [(v, pt)], rfl, sm3.mut hD0, by rw [upd_ne bD]; exact hbb, by rw [upd_same, List.map_append]; rfl, by rw [List.length_append, ll]; rfl, fun q hq => ?_, ?_⟩
          · rcases List.mem_append.mp hq with hq | hq
            · exact (hl q hq).mut hS
            · rw [List.mem_singleton.mp hq]; exact ho1.mut hS
          · rw [he, goParts_some (p := (wd, st)) hp, List.map_append]; rfl
      · rintro σ H' ⟨v5, v6, v7, l, rfl, sm, hbb, hS, ll, hl, he⟩
        rw [List.length_map] at ll
        rw [List.drop_of_length_le (by rw [List.length_zip, List.length_map]; omega)] at he
        refine ⟨_, rfl, q (l.map (·.2)) ?_ D H' sm hD0 ⟨l, hS, rfl, hl⟩⟩
        rw [ep, he]
        show Sum.inr (l.map (·.2) ++ []) = _
        rw [List.append_nil]
theorem ok_Grammar_parse (T : Tx K mg sa sx) (W : Wx K w) (hP : PF P) : MCalX P w K mg base 7 (GC K) "parse" (spParse K) := by
  obtain ⟨fd, F⟩ := f_Grammar_parse T
  obtain ⟨fb, FB, bB⟩ := ok_BadText (P := P) (w := w) (base := base) T hP
  have okp : MCalX P w K mg base 6 (GC K) "parts" (spParts K) := ok_Grammar_parts T W hP
  refine ⟨c_Grammar T, _, fd, ["self", "text"], F.ok sc_Grammar_parse (fun vs H Q E h => ?_) (fun cdv A outer s H vs Q E hr h => ?_), F.bindsN (fun _ _ _ _ _ _ us hl => match us, hl with | [_, _], _ => rfl), me_Grammar_parse T⟩
  · obtain ⟨g, G, t, rfl, _⟩ := h; rfl
  · obtain ⟨g, G, t, rfl, hG, ok, ht, q, qe⟩ := h
    refine ⟨_, (pss_cons (ps_if (pt_not (pt_val (pe_callB (id := "isinstance") (r := rIsi K) call_isi rfl (n_isinstance T) (by decide +kernel) (pa_cons (pv 1) (pa_cons (pe_bltn (v := .ty "str") rfl (n_str T) (by decide +kernel) rfl) pa_nil))))) (pss_one (ps_raise rfl (takes_of rfl rfl rfl rfl) (pmk_oex (exT T).oex (exT T).iC (exT T).tI FB (hr.mono (by decide)) bB .nil pass0 rfl (g_BadText T) (pa_cons (pe_un un_neg pe_int) (pa_cons pe_str pa_nil))))) pss_nil)
    (pss_cons (ps_set (i := 2) sc_Grammar_parse.nd rfl (by first | exact Or.inl rfl | exact Or.inr rfl) (pe_lst pa_nil))
    (pss_cons (ps_set (i := 3) sc_Grammar_parse.nd rfl (by first | exact Or.inl rfl | exact Or.inr rfl) pe_int)
    (pss_cons (ps_for (passes_of rfl) rfl (pi_enum rfl (n_enumerate T) (pa_cons (pe_split (pv 1) pe_str) pa_nil)) (pg_tup (by rfl) (pgs_cons (pg_name (i := 4) sc_Grammar_parse.nd rfl (by first | exact Or.inl rfl | exact Or.inr rfl)) (pgs_cons (pg_name (i := 5) sc_Grammar_parse.nd rfl (by first | exact Or.inl rfl | exact Or.inr rfl)) pgs_nil)))
      (pss_cons (ps_set (i := 6) sc_Grammar_parse.nd rfl (by first | exact Or.inl rfl | exact Or.inr rfl) (pe_split (pv 5) pe_str))
      (pss_cons (ps_if (pt_cmpR op_in_seq pe_str (pv 6) (by rfl)) (pss_one (ps_raise rfl (takes_of rfl rfl rfl rfl) (pmk_oex (exT T).oex (exT T).iC (exT T).tI FB (hr.mono (by decide)) bB .nil pass0 rfl (g_BadText T) (pa_cons (pv 4) (pa_cons pe_str pa_nil))))) pss_nil)
      (pss_cons (ps_if (pt_not (pt_val (pe_mcalA (ok_Grammar_may_stand T) hr (by decide) (pv 0) (pa_cons (pe_ix ix_list (pv 6) pe_int (fun _ _ => rfl)) (pa_cons (pv 4) (pa_cons (pv 3) pa_nil)))))) (pss_one (ps_raise rfl (takes_of rfl rfl rfl rfl) (pmk_oex (exT T).oex (exT T).iC (exT T).tI FB (hr.mono (by decide)) bB .nil pass0 rfl (g_BadText T) (pa_cons (pv 4) (pa_cons pe_str pa_nil))))) pss_nil)
      (pss_cons (ps_expr (pe_bm PySem.F.plainAttrs_list PySem.F.slot_list_append PySem.F.type_list_append mt_append (pv 2) (pa_cons (pe_mcalX okp hr (by decide) (passes_call (takes_of rfl rfl rfl rfl) (fun _ _ _ _ h => h)) (pv 0) (pa_cons (pv 6) (pa_cons (pv 4) pa_nil))) pa_nil)))
      (pss_one (ps_set (i := 3) sc_Grammar_parse.nd rfl (by first | exact Or.inl rfl | exact Or.inr rfl) (pe_callB (id := "min") (call_min2 rfl) rfl (n_min T) (by decide +kernel) (pa_cons (pe_dget (hu_of hr) (pe_fld (pv 0) rfl) (pe_ix ix_list (pv 6) pe_int (fun _ _ => rfl)) (fun _ _ => rfl)) (pa_cons (pe_fld (pv 0) rfl) pa_nil))))))))))
    (pss_one (ps_ret (pv 2))))))), ?_⟩
    obtain ⟨dx, rk, fm, kd, tv, tp, hg, hrk, _⟩ := id hG
    refine ⟨_, rfl, _, .ty "str", _, .type "str", true, rfl, .ty _, .base (.str t), kit_ty (by decide +kernel), true, rfl, iteF ?_⟩
    refine ⟨sz1 (by simp), fun L hL => ?_⟩
    have sL := Same.new hL (o := .lst [])
    have hLL : (upd H L (.lst [])) L = some (.lst []) := upd_same
    generalize upd H L (.lst []) = H1 at sL hLL ⊢
    refine ⟨_, rfl, ⟨_, rfl⟩, t, "\n", rfl, rfl, by decide, sz1 (by omega), fun p hp => ?_⟩
    have nl : ∀ z ∈ Txt.split t "\n", z.length ≤ 99000 := fun z hz => Nat.le_trans (split_small (by decide) hz) ht
    have ml : (Txt.split t "\n").length ≤ 99001 := Nat.le_trans (split_many t "\n" (by decide)) (by omega)
    have eT : parseT G t = parseL G 0 0 (Txt.split t "\n") := rfl
    generalize Txt.split t "\n" = lns at nl ml eT ⊢
    have sp := Same.new hp (o := .lst (lns.map V.str))
    have nLp : L ≠ p := ne_of_none hLL hp
    have hpp : (upd H1 p (.lst (lns.map V.str))) p = some (.lst (lns.map V.str)) := upd_same
    have hLL := sp _ _ hLL
    have s1 := sL.trans sp
    generalize upd H1 p (.lst (lns.map V.str)) = H2 at hpp hLL s1 ⊢
    clear sp sL hp
    refine ⟨p, _, rfl, SqL.of hpp, ?_⟩
    refine for_it (walk_enum (K := K) (a := p) (xs := lns.map V.str)) (fun i σ H' => ∃ (rank : Int) (v4 v5 v6 : Option V) (m : List (Addr × List Pt)), σ = [some (.ref g), some (.str t), some (.ref L), some (.int rank), v4, v5, v6] ∧ Same H H' ∧ H' p = some (.lst (lns.map V.str)) ∧ H' L = some (.lst (m.map fun q => V.ref q.1)) ∧ m.length = i ∧
      (∀ q ∈ m, PtsAt H' q.1 q.2 ∧ q.1 ≠ L) ∧ parseT G t = thenL (m.map (·.2)) (parseL G i rank (lns.drop i))) ⟨0, none, none, none, [], rfl, s1, hpp, hLL, rfl, fun q hq => (by cases hq), by rw [List.map_nil, thenL_nil]; exact eT⟩ (fun i σ H' _ h => ?_) ?_ ?_
    · obtain ⟨rank, v4, v5, v6, m, _, sm, hpp, _⟩ := h; exact SqL.of hpp
    · rintro i x σ H' G2 hi ⟨rank, v4, v5, v6, m, rfl, sm, hpp, hS, lm, hm, he⟩ ⟨Tp, y, z, rfl, hT, rfl, hy, hz⟩
      cases hy
      obtain ⟨ln, eln, rfl⟩ := strs_at' hz
      have hi2 : i < lns.length := (List.getElem?_eq_some_iff.mp eln).1
      have hdr : lns.drop i = ln :: lns.drop (i + 1) := by rw [List.drop_eq_getElem_cons hi2, (List.getElem?_eq_some_iff.mp eln).2]
      rw [hdr] at he
      have hln := nl _ (List.mem_of_getElem? eln)
      refine ⟨Tp, _, rfl, SqT.of upd_same, rfl, _, _, rfl, _, _, rfl, rfl, ?_⟩
      have sT := Same.new hT (o := .tup [V.int (i : Nat), V.str ln])
      refine ⟨_, rfl, ⟨_, rfl⟩, ln, " ", rfl, rfl, by decide, sz1 (by omega), fun wa hwa => ?_⟩
      have nw : ∀ z ∈ Txt.split ln " ", z.length ≤ 100000 := fun z hz => by have := split_small (y := " ") (by decide) hz; omega
      have mw : (Txt.split ln " ").length ≤ 100000 := by have := split_many ln " " (by decide); omega
      have wne : Txt.split ln " " ≠ [] := split_ne ln " "
      have pw := fun h => parseL_words (G := G) (i := i) (rank := rank) (line := ln) (r := lns.drop (i + 1)) h
      have ph := fun h m => parseL_head (G := G) (i := i) (rank := rank) (line := ln) (r := lns.drop (i + 1)) h m
      have pb := fun c h m p => parseL_bad (G := G) (i := i) (rank := rank) (line := ln) (c := c) (r := lns.drop (i + 1)) h m p
      have po := fun ps done h m p => parseL_ok (G := G) (i := i) (rank := rank) (line := ln) (r := lns.drop (i + 1)) (ps := ps) (done := done) h m p
      generalize Txt.split ln " " = ws at nw mw wne pw ph pb po ⊢
      have sW := Same.new hwa (o := .lst (ws.map V.str))
      have hww : (upd (upd H' Tp (.tup [V.int (i : Nat), V.str ln])) wa (.lst (ws.map V.str))) wa = some (.lst (ws.map V.str)) := upd_same
      have sTW := sT.trans sW
      have nLw : wa ≠ L := (ne_of_none (sT _ _ hS) hwa).symm
      generalize upd (upd H' Tp (.tup [V.int (i : Nat), V.str ln])) wa (.lst (ws.map V.str)) = H3 at hww sTW ⊢
      clear sT sW hwa hT
      have hpp := sTW _ _ hpp
      have hS := sTW _ _ hS
      have sm := sm.trans sTW
      have hm : ∀ q ∈ m, PtsAt H3 q.1 q.2 ∧ q.1 ≠ L := fun q hq => ⟨(hm q hq).1.same sTW, (hm q hq).2⟩
      have hiN : ((i : Nat) : Int).natAbs ≤ 4000000 := by omega
      have err : ∀ (c : Str) (H4 : Hp), Same H3 H4 → c.length ≤ 1000 → parseL G i rank (ln :: lns.drop (i + 1)) = .inl ((i : Int), c) → ∀ H' d, Same H4 H' → H' d = some (.xd [("cause", .str c), ("row", .int (i : Nat))]) → E (.ref (BT K)) (some d) H' := fun c H4 s4 hc e H' d s2 h => qe _ c (by rw [he, e]; rfl) _ _ ((sm.trans s4).trans s2) h
      refine ⟨_, rfl, wa, _, rfl, .inl (SqL.of hww), rfl, Cm.flat_strs _, _, rfl, ?_⟩
      show if (inV (.str "") (ws.map V.str)) = true then _ else _
      rw [Cm.inV_strs]
      refine dC (fun h => ?_) (fun h => ?_)
      · exact ⟨_, rfl, raise2 hiN (by decide +kernel) (err _ H3 (Cm.Same.refl _) (by decide +kernel) (pw h))⟩
      refine ⟨_, rfl, g, dx, _, rfl, sm _ _ hg, rfl, _, rfl, wa, _, 0, _, rfl, rfl, SqL.of hww, headW_at wne, _, rfl, _, rfl, g, G, headW ws, i, rank, rfl, hG.same sm, _, rfl, ?_⟩
      cases hmay : mayStand G (headW ws) i rank with
      | false => exact iteT ⟨_, rfl, raise2 hiN (by decide +kernel) (err _ H3 (Cm.Same.refl _) (by decide +kernel) (ph h hmay))⟩
      | true =>
        obtain ⟨o, eo, ho, er⟩ := may_rank hmay
        refine iteF ⟨_, rfl, .inl ⟨rfl, _, SqL.of hS⟩, _, rfl, g, dx, _, rfl, sm _ _ hg, rfl, _, rfl, _, rfl, g, wa, G, ws, i, rfl, hG.same sm, ok, hww, wne, mw, nw, ok.forms _ _ eo ho, hiN, fun ps ep p' H4 s4 hp' hps => ?_, fun c ec H' d s h2 => err c H3 (Cm.Same.refl _) (parts_len ec) (pb c h hmay ec) _ _ s h2⟩
        have hS4 := s4 _ _ hS
        have npL : p' ≠ L := fun z => by rw [z, hS] at hp'; cases hp'
        refine ⟨L, _, .ref p', rfl, rfl, hS4, sz2 (by rw [List.length_map]; omega), ?_⟩
        have sm4 := sm.trans s4
        have sm5 : Same H (upd H4 L (.lst (m.map (fun q => V.ref q.1) ++ [V.ref p']))) := sm4.mut hL
        have hw5 : (upd H4 L (.lst (m.map (fun q => V.ref q.1) ++ [V.ref p']))) wa = some (.lst (ws.map V.str)) := by rw [upd_ne nLw]; exact s4 _ _ hww
        have hp5 : (upd H4 L (.lst (m.map (fun q => V.ref q.1) ++ [V.ref p']))) p = some (.lst (lns.map V.str)) := by rw [upd_ne nLp.symm]; exact s4 _ _ hpp
        have hS5 : (upd H4 L (.lst (m.map (fun q => V.ref q.1) ++ [V.ref p']))) L = some (.lst ((m ++ [(p', ps)]).map fun q => V.ref q.1)) := by rw [upd_same, List.map_append]; rfl
        have hm5 : ∀ q ∈ m ++ [(p', ps)], PtsAt (upd H4 L (.lst (m.map (fun q => V.ref q.1) ++ [V.ref p']))) q.1 q.2 ∧ q.1 ≠ L := fun q hq => by
          rcases List.mem_append.mp hq with hq | hq
          · exact ⟨((hm q hq).1.same s4).mut (hm q hq).2 hS4, (hm q hq).2⟩
          · rw [List.mem_singleton.mp hq]; exact ⟨hps.mut npL hS4, npL⟩
        generalize upd H4 L (.lst (m.map (fun q => V.ref q.1) ++ [V.ref p'])) = H5 at sm5 hw5 hp5 hS5 hm5 ⊢
        have dg : DGet H5 rk (.str (headW ws)) (some (.int o)) := .inl ⟨_, .inr (headW ws), .inl (sm5 _ _ hrk), rfl, by rw [val_skv, lookup_map (fun i : Int => V.int i) G.ranks, eo]; rfl⟩
        refine ⟨_, rfl, g, _, dx, _, _, rfl, sm5 _ _ hg, c_Grammar T, na_Grammar_ranks T, rfl, _, rfl, wa, _, 0, _, rfl, rfl, SqL.of hw5, headW_at wne, rk, _, rfl, dg, _, rfl, g, _, dx, _, _, rfl, sm5 _ _ hg, c_Grammar T, na_Grammar_block_rank T, rfl, o, G.block, rfl, ?_⟩
        refine ⟨_, _, _, _, m ++ [(p', ps)], rfl, sm5, hp5, hS5, by rw [List.length_append, lm]; rfl, hm5, ?_⟩
        rw [he, po ps (m.map (·.2)) h hmay ep, List.map_append, er]
        rw [show min o G.block = if G.block < o then G.block else o by rw [Int.min_def]; split <;> split <;> omega]
        rfl
    · rintro σ H' ⟨rank, v4, v5, v6, m, rfl, sm, hpp, hS, lm, hm, he⟩
      rw [List.length_map] at lm
      rw [List.drop_of_length_le (by rw [List.length_map]; exact Nat.le_refl _)] at he
      refine ⟨_, rfl, q (m.map (·.2)) ?_ L H' sm hL ⟨m, hS, rfl, hm⟩⟩
      rw [he]
      show Sum.inr (m.map (·.2) ++ []) = _
      rw [List.append_nil]
end
end K88
namespace Um
open PySem PySem.Spec PyProof.Rows Cm TL
open L2 hiding Same
/-! ### a grammar made -/
def rkK (ps : List (Str × Nat)) : List (L2.Key × V) := ps.foldl (fun acc p => putK acc (Sum.inr p.1) (V.int (p.2 : Nat))) []
def rkF (p : Str × Nat) : List (Str × Nat) := (Txt.split p.1 " ").map fun h => (h, p.2)
theorem rkK_snoc (ps : List (Str × Nat)) (p : Str × Nat) : rkK (ps ++ [p]) = putK (rkK ps) (Sum.inr p.1) (V.int (p.2 : Nat)) := by unfold rkK; rw [List.foldl_append]; rfl
theorem rkK_len (ps : List (Str × Nat)) : (rkK ps).length ≤ ps.length := by
  suffices ∀ (ps : List (Str × Nat)) (acc : List (L2.Key × V)), (ps.foldl (fun acc p => putK acc (Sum.inr p.1) (V.int (p.2 : Nat))) acc).length ≤ acc.length + ps.length by
    have := this ps []
    unfold rkK
    simpa using this
  intro ps
  induction ps with
  | nil => intro acc; simp
  | cons p ps ih =>
    intro acc
    rw [List.foldl_cons, List.length_cons]
    have h1 := ih (putK acc (Sum.inr p.1) (V.int (p.2 : Nat)))
    have h2 := length_putK acc (Sum.inr p.1 : L2.Key) (V.int (p.2 : Nat))
    omega
def addF (acc : List (Str × List (List Str))) (f : List Str) : List (Str × List (List Str)) := match acc.lookup (headW f) with
  | none => acc ++ [(headW f, [f])]
  | some _ => acc.map fun e => if e.1 = headW f then (e.1, e.2 ++ [f]) else e
def formsOf (fs : List Str) : List (Str × List (List Str)) := (fs.map fun f => Txt.split f " ").foldl addF []
structure GOk (G : Gram) (order forms vk pk : List Str) : Prop where
  ranks : rkK (order.zipIdx.flatMap rkF) = skv (G.ranks.map fun p => (p.1, V.int p.2))
  many : (order.zipIdx.flatMap rkF).length ≤ 1000
  small : ∀ z ∈ order, z.length ≤ 1000
  block : G.block = (order.length : Int) - 2
  fms : G.forms = formsOf forms
  fmany : forms.length ≤ 100
  fsmall : ∀ z ∈ forms, z.length ≤ 1000
  vk : G.vk = vk
  pk : G.pk = pk
theorem lookup_mem {α : Type} {l : List (Str × α)} {s : Str} {a : α} (h : (s, a) ∈ l) : (l.lookup s).isSome = true := by
  induction l with
  | nil => cases h
  | cons p l ih =>
    rw [List.lookup_cons]
    by_cases e : (s == p.1) = true
    · rw [e]; rfl
    · have e3 : (s == p.1) = false := by simpa using e
      rw [e3]
      rcases List.mem_cons.mp h with h | h
      · rw [← h] at e3; simp at e3
      · exact ih h
/-! the grammar of units -/
def unitO : List Str := ["unit", "cell", "routine inner start", "tell set same there call end"]
def unitF : List Str := ["unit NAME", "unit NAME late", "cell NAME N", "routine NAME", "inner NAME", "start", "tell V", "set P V", "same V V else K", "there NAME else K", "call NAME V", "call NAME V at T", "end"]
def unitV : List Str := ["number", "argument", "place", "own", "named"]
def unitP : List Str := ["place", "own"]
def unitG : Gram where
  ranks := [("unit", 0), ("cell", 1), ("routine", 2), ("inner", 2), ("start", 2), ("tell", 3), ("set", 3), ("same", 3), ("there", 3), ("call", 3), ("end", 3)]
  block := 2
  forms := [("unit", [["unit", "NAME"], ["unit", "NAME", "late"]]), ("cell", [["cell", "NAME", "N"]]), ("routine", [["routine", "NAME"]]), ("inner", [["inner", "NAME"]]), ("start", [["start"]]), ("tell", [["tell", "V"]]), ("set", [["set", "P", "V"]]),
    ("same", [["same", "V", "V", "else", "K"]]), ("there", [["there", "NAME", "else", "K"]]), ("call", [["call", "NAME", "V"], ["call", "NAME", "V", "at", "T"]]), ("end", [["end"]])]
  vk := unitV
  pk := unitP
theorem unitG_ok : GOk unitG unitO unitF unitV unitP where
  ranks := by decide +kernel
  many := by decide +kernel
  small := by decide +kernel
  block := by decide +kernel
  fms := by decide +kernel
  fmany := by decide
  fsmall := by decide +kernel
  vk := rfl
  pk := rfl
theorem all_forms {G : Gram} {p : List Str → Bool} (h : (G.forms.all fun e => e.2.all p) = true) : ∀ x fs, G.forms.lookup x = some fs → ∀ f ∈ fs, p f = true := fun x fs e f hf => by
  have := List.all_eq_true.mp h _ (mem_lookup e)
  exact List.all_eq_true.mp this f hf
theorem unitG_Ok : unitG.Ok where
  forms := fun h i e _ => by
    have hm := mem_lookup e
    have : ∀ p ∈ unitG.ranks, (unitG.forms.lookup p.1).isSome = true := by decide +kernel
    exact this _ hm
  plain := fun h fs e f hf => by
    have := all_forms (G := unitG) (p := fun f => decide (f ≠ [] ∧ f.length ≤ 50 ∧ f.getLast? ≠ some (".." : Str) ∧ ∀ s ∈ f, s ∈ slotW)) (by decide +kernel) h fs e f hf
    exact of_decide_eq_true this
  many := fun h fs e => by
    have hm := mem_lookup e
    have : ∀ p ∈ unitG.forms, p.2.length ≤ 100 := by decide +kernel
    exact this _ hm
end Um
/-! list comprehensions of any number of clauses: each clause's loop over what its turn does -/
namespace Cm
open PySem PySem.Spec PyProof.Rows
open L2 hiding Same
/-- the turn of clause k, another clause behind it -/
def TurnMid (C : Expr) (k : Nat) (t i i1 : Expr) (ifs : List Expr) : Prop := ∀ (it acc : Value) (env : Env),
  compTurn C k it acc env = (do
      standAt i.pos
      match ← pyNext it with
      | none => pure (.done .next)
      | some v =>
        letOwnedTupleGo t it v
        assign t env v
        let mut ok := true
        for c in ifs do
          if ok then ok ← isTrue c env (eval c env)
        if ok then
          let x ← eval i1 env
          standAt i1.pos
          let x ← foldedSetIterable i1 env x
          let _ ← runOwn (.compStart C (k + 1) (← holding [x] (pyIter x)) acc env) env
        again (.compLoop C k it acc env))
/-- the turn of the last clause -/
def TurnEnd (C : Expr) (k : Nat) (t i elt : Expr) (ifs : List Expr) : Prop := ∀ (it acc : Value) (env : Env),
  compTurn C k it acc env = (do
      standAt i.pos
      match ← pyNext it with
      | none => pure (.done .next)
      | some v =>
        letOwnedTupleGo t it v
        assign t env v
        let mut ok := true
        for c in ifs do
          if ok then ok ← isTrue c env (eval c env)
        if ok then
          (do let _ ← call (.builtin "list.append") [acc, ← eval elt env])
        again (.compLoop C k it acc env))
/-- a later clause begins -/
def StartOk (C : Expr) (k : Nat) : Prop := ∀ {prog : Program} {w : World} {A : Around} {R : Result → Shared → Prop} {s : Shared} {it acc : Value} {env : Env},
  codeAny (model prog w) A (.compLoop C k it acc env) R s →
  wpAny (model prog w) A (pyIter it) (fun it' s' => codeAny (model prog w) A (.compLoop C k it' acc env) R s') (notedBy (model prog w) A env fun x s' => R (.error x) s') s →
  codeAny (model prog w) A (.compStart C k it acc env) R s
section
variable {prog : Program} {w : World} {A : Around} {R : Result → Shared → Prop} {s : Shared} {t i i1 elt el : Expr} {gs : List Comprehension} {scope : Scope} {pos : Pos} {ifs : List Expr} {k : Nat} {it acc : Value} {env : Env}
theorem loop_mid (hk : TurnMid (.ListComp el gs scope pos) k t i i1 ifs) (hs : ∀ x, foldedSetIterable i1 env x = pure x) (I : Nat → Shared → Prop)
    (turn : ∀ n s, I n s → wpAny (model prog w) A (pyNext it) (fun r s₁ => match r with
      | none => R (.ok .next) s₁
      | some v => wpAny (model prog w) A (letOwnedTupleGo t it v) (fun _ s₁' => wpAny (model prog w) A (assign t env v) (fun _ s₂ =>
          wpAny (model prog w) A (forIn ifs true fun c r => if r = true then do let ok ← isTrue c env (eval c env); pure (ForInStep.yield ok) else pure (ForInStep.yield r)) (fun ok s₃ =>
            if ok = true then wpAny (model prog w) A (eval i1 env) (fun x s₄ => wpAny (model prog w) A (pyIter x) (fun it1 s₅ =>
              codeAny (model prog w) A (.compStart (.ListComp el gs scope pos) (k + 1) it1 acc env) (fun r s' => match r with
                | .ok _ => ∃ m, m < n ∧ I m s'
                | .error _ => False) s₅) (fun _ _ => False) s₄) (fun _ _ => False) s₃
            else ∃ m, m < n ∧ I m s₃) (fun _ _ => False) s₂) (fun _ _ => False) s₁') (fun _ _ => False) s₁) (fun _ _ => False) s)
    (n : Nat) (h : I n s) : codeAny (model prog w) A (.compLoop (.ListComp el gs scope pos) k it acc env) R s := by
  refine codeAny_loop rfl I (fun n s hI => ?_) n h
  show wpAny _ A ((compTurn (.ListComp el gs scope pos) k it acc env).onRaise (fun x => do noteFrame x env; theTreesLotGoes x)) _ _ s
  refine wpAny_noted ?_
  rw [hk it acc env]
  refine wpAny_bind (wpAny_standAt (wpAny_bind (wpAny_mono (turn n s hI) (fun r s₁ h₁ => ?_) fun _ _ h' => h'.elim)))
  cases r with
  | none => exact wpAny_pure h₁
  | some v =>
    refine wpAny_bind (wpAny_mono h₁ (fun _ s₁' h₁' => ?_) fun _ _ h' => h'.elim)
    refine wpAny_bind (wpAny_mono h₁' (fun _ s₂ h₂ => wpAny_bind (wpAny_mono h₂ (fun ok s₃ h₃ => ?_) fun _ _ h' => h'.elim)) fun _ _ h' => h'.elim)
    cases ok with
    | false => exact wpAny_pure ⟨rfl, h₃⟩
    | true =>
      refine wpAny_bind (wpAny_mono h₃ (fun x s₄ h₄ => ?_) fun _ _ h' => h'.elim)
      refine wpAny_bind (wpAny_standAt (wpAny_bind (wpAny_of_eq (hs x) (wpAny_bind (wpAny_holding (wpAny_mono h₄ (fun it1 s₅ h₅ => ?_) fun _ _ h' => h'.elim))))))
      refine wpAny_bind (wpAny_runOwn ?_)
      rw [Around.mark_none]
      refine codeAny_mono h₅ fun r s' hr => ?_
      cases r with
      | ok f =>
        first
          | exact wpAny_pure ⟨rfl, hr⟩
          | exact wpAny_bind (wpAny_pure (wpAny_pure ⟨rfl, hr⟩))
      | error e => exact hr.elim
theorem loop_end (hk : TurnEnd (.ListComp el gs scope pos) k t i elt ifs) (I : Nat → Shared → Prop)
    (turn : ∀ n s, I n s → wpAny (model prog w) A (pyNext it) (fun r s₁ => match r with
      | none => R (.ok .next) s₁
      | some v => wpAny (model prog w) A (letOwnedTupleGo t it v) (fun _ s₁' => wpAny (model prog w) A (assign t env v) (fun _ s₂ =>
          wpAny (model prog w) A (forIn ifs true fun c r => if r = true then do let ok ← isTrue c env (eval c env); pure (ForInStep.yield ok) else pure (ForInStep.yield r)) (fun ok s₃ =>
            if ok = true then wpAny (model prog w) A (eval elt env) (fun x s₄ =>
              wpAny (model prog w) A (call (.builtin "list.append") [acc, x]) (fun _ s₅ => ∃ m, m < n ∧ I m s₅) (fun _ _ => False) s₄) (fun _ _ => False) s₃
            else ∃ m, m < n ∧ I m s₃) (fun _ _ => False) s₂) (fun _ _ => False) s₁') (fun _ _ => False) s₁) (fun _ _ => False) s)
    (n : Nat) (h : I n s) : codeAny (model prog w) A (.compLoop (.ListComp el gs scope pos) k it acc env) R s := by
  refine codeAny_loop rfl I (fun n s hI => ?_) n h
  show wpAny _ A ((compTurn (.ListComp el gs scope pos) k it acc env).onRaise (fun x => do noteFrame x env; theTreesLotGoes x)) _ _ s
  refine wpAny_noted ?_
  rw [hk it acc env]
  refine wpAny_bind (wpAny_standAt (wpAny_bind (wpAny_mono (turn n s hI) (fun r s₁ h₁ => ?_) fun _ _ h' => h'.elim)))
  cases r with
  | none => exact wpAny_pure h₁
  | some v =>
    refine wpAny_bind (wpAny_mono h₁ (fun _ s₁' h₁' => ?_) fun _ _ h' => h'.elim)
    refine wpAny_bind (wpAny_mono h₁' (fun _ s₂ h₂ => wpAny_bind (wpAny_mono h₂ (fun ok s₃ h₃ => ?_) fun _ _ h' => h'.elim)) fun _ _ h' => h'.elim)
    cases ok with
    | false => exact wpAny_pure ⟨rfl, h₃⟩
    | true =>
      exact wpAny_bind (wpAny_bind (wpAny_mono h₃ (fun x s₄ h₄ => wpAny_bind (wpAny_mono h₄ (fun _ s₅ h₅ => wpAny_pure (wpAny_pure ⟨rfl, h₅⟩)) fun _ _ h' => h'.elim)) fun _ _ h' => h'.elim))
end
section
variable {X : Cx}
abbrev FB := L2.St → Hp → (Hp → Prop) → Prop
/-- one clause's reading over what its turn does -/
def tCl (wi : TI) (g : TG) (tt : TT) (vs : List Nat) (F : FB) : FB := fun σ H Nx => wi σ H fun J H1 => ∃ W : Nat → Nat → Hp → Prop, (∃ m, W 0 m H1) ∧ ∀ i m H, W i m H →
  (J.stop i H ∧ Nx H) ∨ (J.go i H ∧ ∃ N1 : Hp → Prop, (∀ H', N1 H' → ∃ m', m' < m ∧ W (i + 1) m' H') ∧ ∀ x H', J.yld i H x H' → g x (wipe σ vs) H' fun σ2 H2 => wipe σ2 vs = wipe σ vs ∧ tt σ2 H2 fun b H3 =>
    if b = true then F σ2 H3 N1 else N1 H3)
/-- what the last clause's turn does -/
def fElt (D : Addr) (te : TE) : FB := fun σ H Nx => te σ H fun y H1 => ∃ acc, H1 D = some (.lst acc) ∧ acc.length < sizeLine ∧ Nx (upd H1 D (.lst (acc ++ [y])))
/-- clause k from its iterable on: it takes the list at D from what F asks to Nx -/
structure Cl (X : Cx) (C : Expr) (k : Nat) (i : Expr) (D : Addr) (vs : List Nat) (F : FB) : Prop where
  run : ∀ (pins : List (Addr × Obj)) (s : Shared) (σ : L2.St) (H : Hp) (Nx : Hp → Prop), Inv X pins σ H s → F σ H Nx →
    wpAny (model X.prog X.w) X.A (eval i X.env) (fun x s4 => wpAny (model X.prog X.w) X.A (pyIter x) (fun it1 s5 => codeAny (model X.prog X.w) X.A (.compStart C k it1 (.ref D) X.env) (fun r s' => match r with
      | .ok _ => ∃ H', Inv X pins (wipe σ vs) H' s' ∧ Nx H'
      | .error _ => False) s5) (fun _ _ => False) s4) (fun _ _ => False) s
theorem wipe_wipe {σ : L2.St} {vs us : List Nat} (h : ∀ i ∈ us, i ∈ vs) {j : Nat} {v : V} (e : (wipe σ vs)[j]? = some (some v)) : (wipe σ us)[j]? = some (some v) := by
  obtain ⟨e1, e2⟩ := wipe_some e
  rw [wipe_out fun z => e2 (h j z)]
  exact e1

theorem cl_back {pins pl : List (Addr × Obj)} {σ σ2 : L2.St} {vs us : List Nat} {H' : Hp} {s' : Shared} (hw : wipe σ2 vs = wipe σ vs) (hu : ∀ i ∈ us, i ∈ vs) (I : Inv X (pins ++ pl) (wipe σ2 us) H' s') : Inv X pins (wipe σ vs) H' s' :=
  I.unpinned.weak (by rw [← hw, wipe_length, wipe_length]) fun j v e => by rw [← hw] at e; exact wipe_wipe hu e
theorem cl_end {t i elt el : Expr} {gs : List Comprehension} {scope : Scope} {pos : Pos} {ifs : List Expr} {k : Nat} {D : Addr} {vs : List Nat} {wi : TI} {g : TG} {tt : TT} {te : TE} (hx : X.xe = fun _ _ => False) (hc : X.calm = true) (hk : TurnEnd (.ListComp el gs scope pos) k t i elt ifs) (hst : StartOk (.ListComp el gs scope pos) k)
    (hi : PI X t i wi) (hg : PG X t g) (ht : PTs X ifs tt) (he : PE X elt te) : Cl X (.ListComp el gs scope pos) k i D vs (tCl wi g tt vs (fElt D te)) := by
  constructor
  intro pins s σ H Nx I h
  have h1 := hi.run pins s σ H _ I h
  rw [hx] at h1
  refine thnF h1 fun xv s10 hx2 => thnF hx2 fun itv s11 h11 => ?_
  obtain ⟨it1, fp1, tn1, J1, H11, e1, I11, T1, st11, f11, W1, ⟨m1, w1⟩, turn1⟩ := h11
  subst e1
  have stat : ∀ {H' : Hp}, (∀ b ∈ fp1, H' b = none) → ∀ b ∈ fp1, FpOk X pins H' b := fun hn b hb => ⟨hn b hb, (f11 b hb).2⟩
  have loop1 : codeAny (model X.prog X.w) X.A (.compLoop (.ListComp el gs scope pos) k (.ref it1) (.ref D) X.env) (fun r s' => match r with
      | .ok _ => ∃ H', Inv X pins (wipe σ vs) H' s' ∧ Nx H'
      | .error _ => False) s11 := by
    refine loop_end hk (fun n s' => ∃ j H', Inv X pins (wipe σ vs) H' s' ∧ tn1 j s'.heap ∧ (∀ b ∈ fp1, H' b = none) ∧ W1 j n H') ?_ m1 ⟨0, H11, I11.weak (wipe_length _ _) (fun j v e => (wipe_some e).1), st11, fun b hb => (f11 b hb).1, w1⟩
    rintro n s12 ⟨j, H12, I12, st12, n12, w12⟩
    rcases turn1 j n H12 w12 with ⟨stop1, nx1⟩ | ⟨go1, Nx1, hNx1, step1⟩
    · refine thnF (T1.done X rfl rfl rfl hc j _ s12 (wipe σ vs) H12 (fun _ _ => False) I12 (stat n12) st12 stop1) fun r s13 ⟨hr, I13⟩ => ?_
      subst hr
      exact ⟨H12, I13, nx1⟩
    · refine thnF (T1.item X rfl rfl rfl hc j _ s12 (wipe σ vs) H12 (fun _ _ => False) I12 (stat n12) st12 go1) fun r s13 ⟨u1, hr, h13⟩ => ?_
      subst hr
      refine thnF h13 fun _ s14 ⟨x1, H14, I14, r14, y14, st14, n14⟩ => ?_
      have I14' := I14.pinned (stat n14) (T1.obj _ _ st14)
      have pgr := hg.run _ s14 (wipe σ vs) H14 x1 u1 _ I14' r14 (step1 x1 H14 y14)
      rw [hx] at pgr
      refine thnF pgr fun _ s15 ⟨σ15, H15, I15, hw15, q15⟩ => ?_
      have ptr := ht.run _ s15 σ15 H15 _ I15 q15
      rw [hx] at ptr
      refine thnF ptr fun b1 s16 ⟨H16, I16, q16⟩ => ?_
      have fin1 : ∀ {s' : Shared} {H' : Hp}, Inv X (pins ++ pinsAt fp1 s14.heap) (wipe σ15 []) H' s' → Nx1 H' → ∃ m, m < n ∧ ∃ j H', Inv X pins (wipe σ vs) H' s' ∧ tn1 j s'.heap ∧ (∀ b ∈ fp1, H' b = none) ∧ W1 j m H' := fun {s' H'} I' nx => by
        obtain ⟨m', hm, w'⟩ := hNx1 H' nx
        have pin' : ∀ b ∈ fp1, ∀ o, s14.heap.get? b = some o → s'.heap.get? b = some o ∧ H' b = none := fun b hb o e =>
          let z := I'.pin (b, o) (List.mem_append_right _ (List.mem_append_right _ (mem_pinsAt hb e)))
          ⟨z.1, z.2.1⟩
        refine ⟨m', hm, j + 1, H', cl_back hw15 (by simp) I', T1.keep _ _ _ st14 fun b hb o e => (pin' b hb o e).1, fun b hb => ?_, w'⟩
        obtain ⟨o, e, _⟩ := T1.obj _ _ st14 b hb
        exact (pin' b hb o e).2
      cases b1 with
      | false =>
        simp only [Bool.false_eq_true, if_false] at q16 ⊢
        exact fin1 I16 q16
      | true =>
        simp only [if_true] at q16 ⊢
        have per := he.run _ s16 σ15 H16 _ I16 q16
        rw [hx] at per
        refine thnF per fun z s17 ⟨yv, H17, I17, r17, acc, hD17, hz17, nx⟩ => ?_
        exact app_ok (X := X) I17 hD17 hz17 r17 fun s18 I18 => fin1 I18 nx
  exact hst loop1 (T1.self X.A 0 _ _ _ st11 loop1)
theorem cl_mid {t i i1 el : Expr} {gs : List Comprehension} {scope : Scope} {pos : Pos} {ifs : List Expr} {k : Nat} {D : Addr} {vs us : List Nat} {wi : TI} {g : TG} {tt : TT} {F : FB} (hx : X.xe = fun _ _ => False) (hc : X.calm = true) (hk : TurnMid (.ListComp el gs scope pos) k t i i1 ifs) (hs : ∀ x, foldedSetIterable i1 X.env x = pure x) (hst : StartOk (.ListComp el gs scope pos) k)
    (hi : PI X t i wi) (hg : PG X t g) (ht : PTs X ifs tt) (hu : ∀ i ∈ us, i ∈ vs) (hb : Cl X (.ListComp el gs scope pos) (k + 1) i1 D us F) : Cl X (.ListComp el gs scope pos) k i D vs (tCl wi g tt vs F) := by
  constructor
  intro pins s σ H Nx I h
  have h1 := hi.run pins s σ H _ I h
  rw [hx] at h1
  refine thnF h1 fun xv s10 hx2 => thnF hx2 fun itv s11 h11 => ?_
  obtain ⟨it1, fp1, tn1, J1, H11, e1, I11, T1, st11, f11, W1, ⟨m1, w1⟩, turn1⟩ := h11
  subst e1
  have stat : ∀ {H' : Hp}, (∀ b ∈ fp1, H' b = none) → ∀ b ∈ fp1, FpOk X pins H' b := fun hn b hb => ⟨hn b hb, (f11 b hb).2⟩
  have loop1 : codeAny (model X.prog X.w) X.A (.compLoop (.ListComp el gs scope pos) k (.ref it1) (.ref D) X.env) (fun r s' => match r with
      | .ok _ => ∃ H', Inv X pins (wipe σ vs) H' s' ∧ Nx H'
      | .error _ => False) s11 := by
    refine loop_mid hk hs (fun n s' => ∃ j H', Inv X pins (wipe σ vs) H' s' ∧ tn1 j s'.heap ∧ (∀ b ∈ fp1, H' b = none) ∧ W1 j n H') ?_ m1 ⟨0, H11, I11.weak (wipe_length _ _) (fun j v e => (wipe_some e).1), st11, fun b hb => (f11 b hb).1, w1⟩
    rintro n s12 ⟨j, H12, I12, st12, n12, w12⟩
    rcases turn1 j n H12 w12 with ⟨stop1, nx1⟩ | ⟨go1, Nx1, hNx1, step1⟩
    · refine thnF (T1.done X rfl rfl rfl hc j _ s12 (wipe σ vs) H12 (fun _ _ => False) I12 (stat n12) st12 stop1) fun r s13 ⟨hr, I13⟩ => ?_
      subst hr
      exact ⟨H12, I13, nx1⟩
    · refine thnF (T1.item X rfl rfl rfl hc j _ s12 (wipe σ vs) H12 (fun _ _ => False) I12 (stat n12) st12 go1) fun r s13 ⟨u1, hr, h13⟩ => ?_
      subst hr
      refine thnF h13 fun _ s14 ⟨x1, H14, I14, r14, y14, st14, n14⟩ => ?_
      have I14' := I14.pinned (stat n14) (T1.obj _ _ st14)
      have pgr := hg.run _ s14 (wipe σ vs) H14 x1 u1 _ I14' r14 (step1 x1 H14 y14)
      rw [hx] at pgr
      refine thnF pgr fun _ s15 ⟨σ15, H15, I15, hw15, q15⟩ => ?_
      have ptr := ht.run _ s15 σ15 H15 _ I15 q15
      rw [hx] at ptr
      refine thnF ptr fun b1 s16 ⟨H16, I16, q16⟩ => ?_
      have fin1 : ∀ {us : List Nat} {s' : Shared} {H' : Hp}, (∀ i ∈ us, i ∈ vs) → Inv X (pins ++ pinsAt fp1 s14.heap) (wipe σ15 us) H' s' → Nx1 H' → ∃ m, m < n ∧ ∃ j H', Inv X pins (wipe σ vs) H' s' ∧ tn1 j s'.heap ∧ (∀ b ∈ fp1, H' b = none) ∧ W1 j m H' := fun {us s' H'} hu I' nx => by
        obtain ⟨m', hm, w'⟩ := hNx1 H' nx
        have pin' : ∀ b ∈ fp1, ∀ o, s14.heap.get? b = some o → s'.heap.get? b = some o ∧ H' b = none := fun b hb o e =>
          let z := I'.pin (b, o) (List.mem_append_right _ (List.mem_append_right _ (mem_pinsAt hb e)))
          ⟨z.1, z.2.1⟩
        refine ⟨m', hm, j + 1, H', cl_back hw15 hu I', T1.keep _ _ _ st14 fun b hb o e => (pin' b hb o e).1, fun b hb => ?_, w'⟩
        obtain ⟨o, e, _⟩ := T1.obj _ _ st14 b hb
        exact (pin' b hb o e).2
      cases b1 with
      | false =>
        simp only [Bool.false_eq_true, if_false] at q16 ⊢
        exact fin1 (us := []) (by simp) I16 q16
      | true =>
        simp only [if_true] at q16 ⊢
        refine thnF (hb.run _ s16 σ15 H16 Nx1 I16 q16) fun xv2 s17 h17 => thnF h17 fun itv2 s18 h18 => ?_
        refine codeAny_mono h18 fun r s' hr => ?_
        cases r with
        | ok f =>
          obtain ⟨H', I', nx⟩ := hr
          exact fin1 hu I' nx
        | error e => exact hr
  exact hst loop1 (T1.self X.A 0 _ _ _ st11 loop1)
/-- the whole: the first clause, what its turn does told by F over the new list -/
def tLcC (wi : TI) (g : TG) (tt : TT) (F : Addr → FB) (vs : List Nat) : TE := fun σ H Q => wi σ H fun J H1 => ∀ D, H1 D = none → ∃ W : Nat → Nat → Hp → Prop, (∃ m, W 0 m (upd H1 D (.lst []))) ∧ ∀ i m H, W i m H →
  (J.stop i H ∧ Q (.ref D) H) ∨ (J.go i H ∧ ∃ Nx : Hp → Prop, (∀ H', Nx H' → ∃ m', m' < m ∧ W (i + 1) m' H') ∧ ∀ x H', J.yld i H x H' → g x (wipe σ vs) H' fun σ2 H2 => wipe σ2 vs = wipe σ vs ∧ tt σ2 H2 fun b H3 =>
    if b = true then F D σ2 H3 Nx else Nx H3)
theorem lcC_core {pins : List (Addr × Obj)} {s : Shared} {σ : L2.St} {H : Hp} {Q : VK} {elt tg iter i1 : Expr} {ifs : List Expr} {cs : List Comprehension} {scope : Scope} {own : List (Str × Nat)} {us : List Nat} {pos pos' : Pos} {wi : TI} {g : TG} {tt : TT} {F : Addr → FB} {use : Option (Value → Sem Unit)} {Qf : Value → Shared → Prop}
    (hc : X.calm = true) (hN : X.N.Nodup) (I : Inv X pins σ H s) (hi : PI X tg iter wi) (ok : BlkOk X.N X.env.scope scope own) (hk : TurnMid (.ListComp elt (⟨tg, iter, ifs, 0⟩ :: cs) scope pos) 0 tg iter i1 ifs) (hs1 : ∀ env x, foldedSetIterable i1 env x = pure x) (hu : ∀ i ∈ us, i ∈ own.map (·.2))
    (hg : ∀ (s : Shared) (H : Hp) (C : Addr) (cl : List (Str × Addr)) (fp : List Addr), PG (X.blk s H scope (compEnvC scope cl C X.env) fp) tg g) (ht : ∀ (s : Shared) (H : Hp) (C : Addr) (cl : List (Str × Addr)) (fp : List Addr), PTs (X.blk s H scope (compEnvC scope cl C X.env) fp) ifs tt)
    (hb : ∀ (s : Shared) (H : Hp) (C : Addr) (cl : List (Str × Addr)) (fp : List Addr) (D : Addr), Cl (X.blk s H scope (compEnvC scope cl C X.env) fp) (.ListComp elt (⟨tg, iter, ifs, 0⟩ :: cs) scope pos) 1 i1 D us (F D)) (hs : ∀ x, foldedSetIterable iter X.env x = pure x)
    (h : tLcC wi g tt F (own.map (·.2)) σ H Q)
    (hRR : ∀ D C s' m H', Inv X pins σ H' s' → Q (.ref D) H' → s'.heap.Ns C m → FpOk X pins H' C → compPost (model X.prog X.w) X.A X.xe use Qf (.ref D) C (.ok .next) s') :
    wpAny (model X.prog X.w) X.A (comprehension (.ListComp elt (⟨tg, iter, ifs, 0⟩ :: cs) scope pos) scope X.env pos' (newList []) false (eval iter X.env) use) Qf X.xe s := by
  have hfree : ∀ y ∈ scope.names, y.2 = .free → ∃ c, X.env.cells.lookup y.1 = some c := fun y hy e => (ok.free y hy e).elim (fun k => I.ok.has _ (.inl k)) fun k => I.ok.has _ (.inr k)
  refine wpAny_comprehension_free (use := use) rfl hs (closure_ok hfree) ok.kind (fun y hy e => by rw [ok.uniq y hy, e])
    (thn (hi.run pins s σ H _ I h) fun xv s1 hx => thn hx fun itv s2 h2 => ?_)
  obtain ⟨it, fp, tn, J, H2, e, I2, T, st2, f2, q⟩ := h2
  subst e
  refine wpAny_newObj_type (newEnv_comp ?_) (by show 0 ≤ sizeLine; decide)
  generalize hD : s2.heap.objs.size = D
  have hDn : H2 D = none := I2.hok.fresh (Nat.le_of_eq hD)
  obtain ⟨W, ⟨m0, w0⟩, turn⟩ := q D hDn
  generalize hs3 : ({ s2 with heap := s2.heap.push { cls := .type "list", data := .seq ([] : List Value).toArray } } : Shared) = s3
  have I3 : Inv X pins σ (upd H2 D (.lst [])) s3 := by
    rw [← hs3]
    refine I2.laid (t' := s2.toks) (fun b o e => Heap.get?_push_of_some _ e) (Nat.le_of_eq hD) ⟨Nat.zero_le _, [], 0, .nil, ?_⟩
    rw [← hD]
    exact Heap.get?_push_size _ rfl
  have h3 : s3.heap = s2.heap.push { cls := .type "list", data := .seq ([] : List Value).toArray } := by rw [← hs3]
  have sz : ∀ b ∈ fp, b < s2.heap.objs.size := fun b hb => by
    obtain ⟨o, e, _⟩ := T.obj _ _ st2 b hb
    exact Heap.lt_size e
  have f3 : ∀ b ∈ fp, FpOk X pins (upd H2 D (.lst [])) b ∧ b < s3.heap.objs.size := fun b hb => by
    have hlt := sz b hb
    refine ⟨⟨?_, (f2 b hb).2⟩, by rw [h3, Heap.size_push]; exact Nat.lt_succ_of_lt hlt⟩
    rw [upd_ne (by rw [← hD]; exact Nat.ne_of_lt hlt)]
    exact (f2 b hb).1
  have st3 : tn 0 s3.heap := T.keep _ _ _ st2 fun b _ o e => by rw [h3]; exact Heap.get?_push_of_some _ e
  have I4 := block_start I3 ok hN f3
  have pg := hg s3 (upd H2 D (.lst [])) s3.heap.objs.size (cellsFrom (s3.heap.objs.size + 1) scope.names (cloFrom X.env.cells scope.names [])) fp
  have pt := ht s3 (upd H2 D (.lst [])) s3.heap.objs.size (cellsFrom (s3.heap.objs.size + 1) scope.names (cloFrom X.env.cells scope.names [])) fp
  have pb := hb s3 (upd H2 D (.lst [])) s3.heap.objs.size (cellsFrom (s3.heap.objs.size + 1) scope.names (cloFrom X.env.cells scope.names [])) fp D
  show codeAny _ _ (.compStart (.ListComp elt (⟨tg, iter, ifs, 0⟩ :: cs) scope pos) 0 (.ref it) (.ref D) (compEnvC scope (cellsFrom (s3.heap.objs.size + 1) scope.names (cloFrom X.env.cells scope.names [])) s3.heap.objs.size X.env)) (compPost (model X.prog X.w) X.A X.xe use Qf (.ref D) s3.heap.objs.size) { s3 with heap := pushCells (s3.heap.push { cls := .type "dict", data := .dict #[] }) scope.names }
  have nfp : ∀ b ∈ fp, (upd H2 D (.lst [])) b = none := fun b hb => (f3 b hb).1.1
  generalize hce : compEnvC scope (cellsFrom (s3.heap.objs.size + 1) scope.names (cloFrom X.env.cells scope.names [])) s3.heap.objs.size X.env = ce at I4 pg pt pb ⊢
  have cL : ce.locals = s3.heap.objs.size := by subst hce; rfl
  generalize hH3 : upd H2 D (.lst []) = H3 at I3 I4 pg pt pb w0 nfp f3
  generalize hs4 : ({ s3 with heap := pushCells (s3.heap.push { cls := .type "dict", data := .dict #[] }) scope.names } : Shared) = s4 at I4 ⊢
  have st4 : tn 0 s4.heap := T.keep _ _ _ st3 fun b _ o e => by rw [← hs4]; exact pushCells_keeps _ _ _ _ (Heap.get?_push_of_some _ e)
  have stat : ∀ {σ' : L2.St} {H' : Hp} {s' : Shared}, Inv (X.blk s3 H3 scope ce fp) [] σ' H' s' → (∀ b ∈ fp, H' b = none) → ∀ b ∈ fp, FpOk (X.blk s3 H3 scope ce fp) [] H' b := fun {σ' H' s'} I' hn b hb =>
    ⟨hn b hb, (I'.ok.exf b hb).1, I'.ok.exfs b hb, .inl hb, fun x c e => (I'.ok.exf b hb).2 x c e, fun p hp => absurd (show p ∈ ([] : List (Addr × Obj)) ++ [] from hp) (by simp)⟩
  have loop : codeAny (model X.prog X.w) X.A (.compLoop (.ListComp elt (⟨tg, iter, ifs, 0⟩ :: cs) scope pos) 0 (.ref it) (.ref D) ce) (compPost (model X.prog X.w) X.A X.xe use Qf (.ref D) s3.heap.objs.size) s4 := by
    refine loop_mid hk (hs1 ce) (fun n s' => ∃ i H', Inv (X.blk s3 H3 scope ce fp) [] (wipe σ (own.map (·.2))) H' s' ∧ tn i s'.heap ∧ (∀ b ∈ fp, H' b = none) ∧ W i n H') ?_ m0 ⟨0, H3, I4, st4, nfp, w0⟩
    rintro n s5 ⟨i, H5, I5, st5, n5, w5⟩
    rcases turn i n H5 w5 with ⟨stop, qq⟩ | ⟨go, Nx, hNx, step⟩
    · refine thnF (T.done (X.blk s3 H3 scope ce fp) rfl rfl rfl hc i [] s5 _ H5 (fun _ _ => False) I5 (stat I5 n5) st5 stop) fun r s6 ⟨hr, I6⟩ => ?_
      subst hr
      have I7 : Inv X pins σ H5 s6 := I3.call' (ch := fp) I6.os I6.base I6.hok I6.bare fun b hb => ⟨(f3 b hb).1.2.2.2.1, (f3 b hb).1.2.1, (f3 b hb).1.2.2.2.2.1, (f3 b hb).1.2.2.2.2.2⟩
      have nC : H5 s3.heap.objs.size = none := by
        have z : H5 ce.locals = none := I6.free
        rw [cL] at z
        exact z
      obtain ⟨m, hn, _⟩ := I6.loc
      have hn : s6.heap.Ns ce.locals m := hn
      rw [cL] at hn
      exact hRR D s3.heap.objs.size s6 m H5 I7 qq hn (I3.fpOk (Nat.le_refl _) nC)
    · refine thnF (T.item (X.blk s3 H3 scope ce fp) rfl rfl rfl hc i [] s5 _ H5 (fun _ _ => False) I5 (stat I5 n5) st5 go) fun r s6 ⟨u, hr, h6⟩ => ?_
      subst hr
      refine thnF h6 fun _ s7 ⟨x, H7, I7, r7, y7, st7, n7⟩ => ?_
      have I7' := I7.pinned (stat I7 n7) (T.obj _ _ st7)
      refine thnF (pg.run _ s7 _ H7 x u _ I7' r7 (step x H7 y7)) fun _ s8 ⟨σ8, H8, I8, hw8, q8⟩ => ?_
      refine thnF (pt.run _ s8 σ8 H8 _ I8 q8) fun b s9 ⟨H9, I9, q9⟩ => ?_
      have fin : ∀ {us : List Nat} {s' : Shared} {H' : Hp}, (∀ i ∈ us, i ∈ own.map (·.2)) → Inv (X.blk s3 H3 scope ce fp) ([] ++ pinsAt fp s7.heap) (wipe σ8 us) H' s' → Nx H' → ∃ m, m < n ∧ ∃ i H', Inv (X.blk s3 H3 scope ce fp) [] (wipe σ (own.map (·.2))) H' s' ∧ tn i s'.heap ∧ (∀ b ∈ fp, H' b = none) ∧ W i m H' := fun {us s' H'} hu I' nx => by
        obtain ⟨m', hm, w'⟩ := hNx H' nx
        have pin' : ∀ b ∈ fp, ∀ o, s7.heap.get? b = some o → s'.heap.get? b = some o ∧ H' b = none := fun b hb o e =>
          let z := I'.pin (b, o) (List.mem_append_right _ (List.mem_append_right _ (mem_pinsAt hb e)))
          ⟨z.1, z.2.1⟩
        refine ⟨m', hm, i + 1, H', cl_back hw8 hu I', T.keep _ _ _ st7 fun b hb o e => (pin' b hb o e).1, fun b hb => ?_, w'⟩
        obtain ⟨o, e, _⟩ := T.obj _ _ st7 b hb
        exact (pin' b hb o e).2
      cases b with
      | false =>
        simp only [Bool.false_eq_true, if_false] at q9 ⊢
        exact fin (us := []) (by simp) I9 q9
      | true =>
        simp only [if_true] at q9 ⊢
        refine thnF (pb.run _ s9 σ8 H9 Nx I9 q9) fun xv2 s17 h17 => thnF h17 fun itv2 s18 h18 => ?_
        refine codeAny_mono h18 fun r s' hr => ?_
        cases r with
        | ok f =>
          obtain ⟨H', I', nx⟩ := hr
          exact fin hu I' nx
        | error e => exact hr
  exact codeAny_compStart_list loop (T.self X.A 0 _ _ _ st4 loop)
theorem ps_setLcC {i : Nat} {y : Str} {py : Pos} {elt tg iter i1 : Expr} {ifs : List Expr} {cs : List Comprehension} {scope : Scope} {own : List (Str × Nat)} {us : List Nat} {pos spos : Pos} {wi : TI} {g : TG} {tt : TT} {F : Addr → FB} (hc : X.calm = true) (hN : X.N.Nodup) (hy : X.N[i]? = some y) (hyl : X.env.scope.names.lookup y = some .local)
    (hsw : swapsWith (.ListComp elt (⟨tg, iter, ifs, 0⟩ :: cs) scope pos) (some (.Name y py)) spos.line X.env = pure true) (hi : PI X tg iter wi) (ok : BlkOk X.N X.env.scope scope own) (hk : TurnMid (.ListComp elt (⟨tg, iter, ifs, 0⟩ :: cs) scope pos) 0 tg iter i1 ifs) (hu : ∀ i ∈ us, i ∈ own.map (·.2))
    (hg : ∀ (s : Shared) (H : Hp) (C : Addr) (cl : List (Str × Addr)) (fp : List Addr), PG (X.blk s H scope (compEnvC scope cl C X.env) fp) tg g) (ht : ∀ (s : Shared) (H : Hp) (C : Addr) (cl : List (Str × Addr)) (fp : List Addr), PTs (X.blk s H scope (compEnvC scope cl C X.env) fp) ifs tt)
    (hb : ∀ (s : Shared) (H : Hp) (C : Addr) (cl : List (Str × Addr)) (fp : List Addr) (D : Addr), Cl (X.blk s H scope (compEnvC scope cl C X.env) fp) (.ListComp elt (⟨tg, iter, ifs, 0⟩ :: cs) scope pos) 1 i1 D us (F D)) (hs : ∀ x, foldedSetIterable iter X.env x = pure x := by intro _; rfl) (hs1 : ∀ env x, foldedSetIterable i1 env x = pure x := by intro _ _; rfl) :
    PS X (.Assign [.Name y py] (.ListComp elt (⟨tg, iter, ifs, 0⟩ :: cs) scope pos) spos) (tAsg (tLcC wi g tt F (own.map (·.2))) (gName i)) := by
  refine ⟨fun pins s σ H D I h => ?_⟩
  rw [exec_Assign_Name_used _ _ _ _ hsw]
  refine wpAny_bind (wpAny_standAt (wpAny_bind ?_))
  show wpAny _ X.A (do let _ ← comprehension (.ListComp elt (⟨tg, iter, ifs, 0⟩ :: cs) scope pos) scope X.env (firstIterPos (⟨tg, iter, ifs, 0⟩ :: cs) pos) (newList []) false (eval iter X.env) (some (assign (.Name y py) X.env))) _ _ s
  have h : tLcC wi g tt F (own.map (·.2)) σ H (fun x H1 => gName i x σ H1 D.nx) := h
  refine wpAny_bind (thn (lcC_core (Qf := fun _ s' => SP X pins D .next s') hc hN I hi ok hk hs1 hu hg ht hb hs h fun L C s' m H' I' q hn f => ?_) fun _ s' hq => wpAny_pure (wpAny_pure hq))
  show wpAny _ _ (assign (.Name y py) X.env (.ref L)) _ _ _
  refine wpAny_assign_Name (store_ok2 (v := V.ref L) I' hN hy (.inl hyl) rfl (fun s2 I2 ⟨a, sb, ha⟩ => ?_) (.inr hyl))
  obtain ⟨f0, f1, f2, f3, f4, f5⟩ := f
  have haC : C ≠ a := by
    rcases ha with z | z
    · rw [z]; exact f1
    · exact fun e => f4 y a z e.symm
  refine ⟨m, hn.sameBut sb haC, fun h3 sb3 => ?_⟩
  exact ⟨_, H', I2.turned (t' := s2.toks) (fun b o hb e => (sb3.2 b hb).trans e) f0 f1 f3 f4 f5, q⟩
end
/-! ### three clauses -/
section
variable {elt t0 i0 t1 i1 t2 i2 : Expr} {ifs0 ifs1 ifs2 : List Expr} {scope : Scope} {pos : Pos}
theorem turn3_0 : TurnMid (.ListComp elt [⟨t0, i0, ifs0, 0⟩, ⟨t1, i1, ifs1, 0⟩, ⟨t2, i2, ifs2, 0⟩] scope pos) 0 t0 i0 i1 ifs0 := fun _ _ _ => rfl
theorem turn3_1 : TurnMid (.ListComp elt [⟨t0, i0, ifs0, 0⟩, ⟨t1, i1, ifs1, 0⟩, ⟨t2, i2, ifs2, 0⟩] scope pos) 1 t1 i1 i2 ifs1 := fun _ _ _ => rfl
theorem turn3_2 : TurnEnd (.ListComp elt [⟨t0, i0, ifs0, 0⟩, ⟨t1, i1, ifs1, 0⟩, ⟨t2, i2, ifs2, 0⟩] scope pos) 2 t2 i2 elt ifs2 := fun _ _ _ => rfl
theorem start3_1 : StartOk (.ListComp elt [⟨t0, i0, ifs0, 0⟩, ⟨t1, i1, ifs1, 0⟩, ⟨t2, i2, ifs2, 0⟩] scope pos) 1 := by
  intro prog w A R s it acc env h0 h
  refine codeAny_of_tree ?_
  show wpAny _ _ ((compStart (.ListComp elt [⟨t0, i0, ifs0, 0⟩, ⟨t1, i1, ifs1, 0⟩, ⟨t2, i2, ifs2, 0⟩] scope pos) 1 it acc env).onRaise (fun x => do noteFrame x env; standAt theWindowsPlace)) _ _ s
  refine wpAny_notedAt ?_
  unfold compStart
  show wpAny _ _ (ask >>= _) _ _ s
  refine wpAny_bind (wpAny_askSetting (wpAny_ite ?_))
  split
  · first
      | exact wpAny_bind (wpAny_pure (wpAny_pure (And.intro rfl h0)))
      | exact wpAny_pure (And.intro rfl h0)
  · refine wpAny_bind (wpAny_rule ?_)
    show wpAny _ _ (standAt i1.pos >>= _) _ _ s
    exact wpAny_bind (wpAny_standAt (wpAny_bind (wpAny_mono h (fun it' s' h' => wpAny_pure (And.intro rfl h')) fun _ _ x => x)))
theorem start3_2 : StartOk (.ListComp elt [⟨t0, i0, ifs0, 0⟩, ⟨t1, i1, ifs1, 0⟩, ⟨t2, i2, ifs2, 0⟩] scope pos) 2 := by
  intro prog w A R s it acc env h0 h
  refine codeAny_of_tree ?_
  show wpAny _ _ ((compStart (.ListComp elt [⟨t0, i0, ifs0, 0⟩, ⟨t1, i1, ifs1, 0⟩, ⟨t2, i2, ifs2, 0⟩] scope pos) 2 it acc env).onRaise (fun x => do noteFrame x env; standAt theWindowsPlace)) _ _ s
  refine wpAny_notedAt ?_
  unfold compStart
  show wpAny _ _ (ask >>= _) _ _ s
  refine wpAny_bind (wpAny_askSetting (wpAny_ite ?_))
  split
  · first
      | exact wpAny_bind (wpAny_pure (wpAny_pure (And.intro rfl h0)))
      | exact wpAny_pure (And.intro rfl h0)
  · refine wpAny_bind (wpAny_rule ?_)
    show wpAny _ _ (standAt i2.pos >>= _) _ _ s
    exact wpAny_bind (wpAny_standAt (wpAny_bind (wpAny_mono h (fun it' s' h' => wpAny_pure (And.intro rfl h')) fun _ _ x => x)))
end
end Cm
/-! dict comprehensions of any number of clauses, as Cm18 has it for lists -/
namespace Cm
open PySem PySem.Spec PyProof.Rows
open L2 hiding Same
/-- the turn of the last clause -/
def TurnEndD (C : Expr) (k : Nat) (t i kx vx : Expr) (ifs : List Expr) : Prop := ∀ (it : Value) (D : Addr) (env : Env),
  compTurn C k it (.ref D) env = (do
      standAt i.pos
      match ← pyNext it with
      | none => pure (.done .next)
      | some v =>
        letOwnedTupleGo t it v
        assign t env v
        let mut ok := true
        for c in ifs do
          if ok then ok ← isTrue c env (eval c env)
        if ok then
          (do
            let kv ← eval kx env
            let vv ← holding [kv] (eval vx env)
            standAt { kx.pos with endLine := vx.pos.endLine, endCol := vx.pos.endCol }
            holding [kv, vv] (dictSet D kv vv))
        again (.compLoop C k it (.ref D) env))
section
variable {prog : Program} {w : World} {A : Around} {R : Result → Shared → Prop} {s : Shared} {t i i1 kx vx : Expr} {gs : List Comprehension} {scope : Scope} {pos : Pos} {ifs : List Expr} {k : Nat} {it acc : Value} {D : Addr} {env : Env}
theorem loop_midD (hk : TurnMid (.DictComp kx vx gs scope pos) k t i i1 ifs) (hs : ∀ x, foldedSetIterable i1 env x = pure x) (I : Nat → Shared → Prop)
    (turn : ∀ n s, I n s → wpAny (model prog w) A (pyNext it) (fun r s₁ => match r with
      | none => R (.ok .next) s₁
      | some v => wpAny (model prog w) A (letOwnedTupleGo t it v) (fun _ s₁' => wpAny (model prog w) A (assign t env v) (fun _ s₂ =>
          wpAny (model prog w) A (forIn ifs true fun c r => if r = true then do let ok ← isTrue c env (eval c env); pure (ForInStep.yield ok) else pure (ForInStep.yield r)) (fun ok s₃ =>
            if ok = true then wpAny (model prog w) A (eval i1 env) (fun x s₄ => wpAny (model prog w) A (pyIter x) (fun it1 s₅ =>
              codeAny (model prog w) A (.compStart (.DictComp kx vx gs scope pos) (k + 1) it1 acc env) (fun r s' => match r with
                | .ok _ => ∃ m, m < n ∧ I m s'
                | .error _ => False) s₅) (fun _ _ => False) s₄) (fun _ _ => False) s₃
            else ∃ m, m < n ∧ I m s₃) (fun _ _ => False) s₂) (fun _ _ => False) s₁') (fun _ _ => False) s₁) (fun _ _ => False) s)
    (n : Nat) (h : I n s) : codeAny (model prog w) A (.compLoop (.DictComp kx vx gs scope pos) k it acc env) R s := by
  refine codeAny_loop rfl I (fun n s hI => ?_) n h
  show wpAny _ A ((compTurn (.DictComp kx vx gs scope pos) k it acc env).onRaise (fun x => do noteFrame x env; theTreesLotGoes x)) _ _ s
  refine wpAny_noted ?_
  rw [hk it acc env]
  refine wpAny_bind (wpAny_standAt (wpAny_bind (wpAny_mono (turn n s hI) (fun r s₁ h₁ => ?_) fun _ _ h' => h'.elim)))
  cases r with
  | none => exact wpAny_pure h₁
  | some v =>
    refine wpAny_bind (wpAny_mono h₁ (fun _ s₁' h₁' => ?_) fun _ _ h' => h'.elim)
    refine wpAny_bind (wpAny_mono h₁' (fun _ s₂ h₂ => wpAny_bind (wpAny_mono h₂ (fun ok s₃ h₃ => ?_) fun _ _ h' => h'.elim)) fun _ _ h' => h'.elim)
    cases ok with
    | false => exact wpAny_pure ⟨rfl, h₃⟩
    | true =>
      refine wpAny_bind (wpAny_mono h₃ (fun x s₄ h₄ => ?_) fun _ _ h' => h'.elim)
      refine wpAny_bind (wpAny_standAt (wpAny_bind (wpAny_of_eq (hs x) (wpAny_bind (wpAny_holding (wpAny_mono h₄ (fun it1 s₅ h₅ => ?_) fun _ _ h' => h'.elim))))))
      refine wpAny_bind (wpAny_runOwn ?_)
      rw [Around.mark_none]
      refine codeAny_mono h₅ fun r s' hr => ?_
      cases r with
      | ok f =>
        first
          | exact wpAny_pure ⟨rfl, hr⟩
          | exact wpAny_bind (wpAny_pure (wpAny_pure ⟨rfl, hr⟩))
      | error e => exact hr.elim
theorem loop_endD (hk : TurnEndD (.DictComp kx vx gs scope pos) k t i kx vx ifs) (I : Nat → Shared → Prop)
    (turn : ∀ n s, I n s → wpAny (model prog w) A (pyNext it) (fun r s₁ => match r with
      | none => R (.ok .next) s₁
      | some v => wpAny (model prog w) A (letOwnedTupleGo t it v) (fun _ s₁' => wpAny (model prog w) A (assign t env v) (fun _ s₂ =>
          wpAny (model prog w) A (forIn ifs true fun c r => if r = true then do let ok ← isTrue c env (eval c env); pure (ForInStep.yield ok) else pure (ForInStep.yield r)) (fun ok s₃ =>
            if ok = true then wpAny (model prog w) A (eval kx env) (fun kv s₄ => wpAny (model prog w) A (eval vx env) (fun vv s₅ =>
              wpAny (model prog w) A (dictSet D kv vv) (fun _ s₆ => ∃ m, m < n ∧ I m s₆) (fun _ _ => False) s₅) (fun _ _ => False) s₄) (fun _ _ => False) s₃
            else ∃ m, m < n ∧ I m s₃) (fun _ _ => False) s₂) (fun _ _ => False) s₁') (fun _ _ => False) s₁) (fun _ _ => False) s)
    (n : Nat) (h : I n s) : codeAny (model prog w) A (.compLoop (.DictComp kx vx gs scope pos) k it (.ref D) env) R s := by
  refine codeAny_loop rfl I (fun n s hI => ?_) n h
  show wpAny _ A ((compTurn (.DictComp kx vx gs scope pos) k it (.ref D) env).onRaise (fun x => do noteFrame x env; theTreesLotGoes x)) _ _ s
  refine wpAny_noted ?_
  rw [hk it D env]
  refine wpAny_bind (wpAny_standAt (wpAny_bind (wpAny_mono (turn n s hI) (fun r s₁ h₁ => ?_) fun _ _ h' => h'.elim)))
  cases r with
  | none => exact wpAny_pure h₁
  | some v =>
    refine wpAny_bind (wpAny_mono h₁ (fun _ s₁' h₁' => ?_) fun _ _ h' => h'.elim)
    refine wpAny_bind (wpAny_mono h₁' (fun _ s₂ h₂ => wpAny_bind (wpAny_mono h₂ (fun ok s₃ h₃ => ?_) fun _ _ h' => h'.elim)) fun _ _ h' => h'.elim)
    cases ok with
    | false => exact wpAny_pure ⟨rfl, h₃⟩
    | true =>
      exact wpAny_bind (wpAny_bind (wpAny_mono h₃ (fun kv s₄ h₄ => wpAny_bind (wpAny_holding (wpAny_mono h₄ (fun vv s₅ h₅ => wpAny_bind (wpAny_standAt (wpAny_holding (wpAny_mono h₅ (fun _ s₆ h₆ => wpAny_pure ⟨rfl, h₆⟩) fun _ _ h' => h'.elim)))) fun _ _ h' => h'.elim))) fun _ _ h' => h'.elim))
end
section
variable {X : Cx}
/-- what the last clause's turn does -/
def fPut (D : Addr) (tk tv : TE) : FB := fun σ H Nx => tk σ H fun y H1 => tv σ H1 fun z H2 => ∃ kvs k, y = kV k ∧ H2 D = some (.dK kvs) ∧ kvs.length < sizeLine ∧ Nx (upd H2 D (.dK (putK kvs k z)))
theorem cl_endD {t i kx vx : Expr} {gs : List Comprehension} {scope : Scope} {pos : Pos} {ifs : List Expr} {k : Nat} {D : Addr} {vs : List Nat} {wi : TI} {g : TG} {tt : TT} {tk tv : TE} (hx : X.xe = fun _ _ => False) (hc : X.calm = true) (hk : TurnEndD (.DictComp kx vx gs scope pos) k t i kx vx ifs) (hst : StartOk (.DictComp kx vx gs scope pos) k)
    (hi : PI X t i wi) (hg : PG X t g) (ht : PTs X ifs tt) (hkk : PE X kx tk) (he : PE X vx tv) : Cl X (.DictComp kx vx gs scope pos) k i D vs (tCl wi g tt vs (fPut D tk tv)) := by
  constructor
  intro pins s σ H Nx I h
  have h1 := hi.run pins s σ H _ I h
  rw [hx] at h1
  refine thnF h1 fun xv s10 hx2 => thnF hx2 fun itv s11 h11 => ?_
  obtain ⟨it1, fp1, tn1, J1, H11, e1, I11, T1, st11, f11, W1, ⟨m1, w1⟩, turn1⟩ := h11
  subst e1
  have stat : ∀ {H' : Hp}, (∀ b ∈ fp1, H' b = none) → ∀ b ∈ fp1, FpOk X pins H' b := fun hn b hb => ⟨hn b hb, (f11 b hb).2⟩
  have loop1 : codeAny (model X.prog X.w) X.A (.compLoop (.DictComp kx vx gs scope pos) k (.ref it1) (.ref D) X.env) (fun r s' => match r with
      | .ok _ => ∃ H', Inv X pins (wipe σ vs) H' s' ∧ Nx H'
      | .error _ => False) s11 := by
    refine loop_endD hk (fun n s' => ∃ j H', Inv X pins (wipe σ vs) H' s' ∧ tn1 j s'.heap ∧ (∀ b ∈ fp1, H' b = none) ∧ W1 j n H') ?_ m1 ⟨0, H11, I11.weak (wipe_length _ _) (fun j v e => (wipe_some e).1), st11, fun b hb => (f11 b hb).1, w1⟩
    rintro n s12 ⟨j, H12, I12, st12, n12, w12⟩
    rcases turn1 j n H12 w12 with ⟨stop1, nx1⟩ | ⟨go1, Nx1, hNx1, step1⟩
    · refine thnF (T1.done X rfl rfl rfl hc j _ s12 (wipe σ vs) H12 (fun _ _ => False) I12 (stat n12) st12 stop1) fun r s13 ⟨hr, I13⟩ => ?_
      subst hr
      exact ⟨H12, I13, nx1⟩
    · refine thnF (T1.item X rfl rfl rfl hc j _ s12 (wipe σ vs) H12 (fun _ _ => False) I12 (stat n12) st12 go1) fun r s13 ⟨u1, hr, h13⟩ => ?_
      subst hr
      refine thnF h13 fun _ s14 ⟨x1, H14, I14, r14, y14, st14, n14⟩ => ?_
      have I14' := I14.pinned (stat n14) (T1.obj _ _ st14)
      have pgr := hg.run _ s14 (wipe σ vs) H14 x1 u1 _ I14' r14 (step1 x1 H14 y14)
      rw [hx] at pgr
      refine thnF pgr fun _ s15 ⟨σ15, H15, I15, hw15, q15⟩ => ?_
      have ptr := ht.run _ s15 σ15 H15 _ I15 q15
      rw [hx] at ptr
      refine thnF ptr fun b1 s16 ⟨H16, I16, q16⟩ => ?_
      have fin1 : ∀ {s' : Shared} {H' : Hp}, Inv X (pins ++ pinsAt fp1 s14.heap) (wipe σ15 []) H' s' → Nx1 H' → ∃ m, m < n ∧ ∃ j H', Inv X pins (wipe σ vs) H' s' ∧ tn1 j s'.heap ∧ (∀ b ∈ fp1, H' b = none) ∧ W1 j m H' := fun {s' H'} I' nx => by
        obtain ⟨m', hm, w'⟩ := hNx1 H' nx
        have pin' : ∀ b ∈ fp1, ∀ o, s14.heap.get? b = some o → s'.heap.get? b = some o ∧ H' b = none := fun b hb o e =>
          let z := I'.pin (b, o) (List.mem_append_right _ (List.mem_append_right _ (mem_pinsAt hb e)))
          ⟨z.1, z.2.1⟩
        refine ⟨m', hm, j + 1, H', cl_back hw15 (by simp) I', T1.keep _ _ _ st14 fun b hb o e => (pin' b hb o e).1, fun b hb => ?_, w'⟩
        obtain ⟨o, e, _⟩ := T1.obj _ _ st14 b hb
        exact (pin' b hb o e).2
      cases b1 with
      | false =>
        simp only [Bool.false_eq_true, if_false] at q16 ⊢
        exact fin1 I16 q16
      | true =>
        simp only [if_true] at q16 ⊢
        have pkr := hkk.run _ s16 σ15 H16 _ I16 q16
        rw [hx] at pkr
        refine thnF pkr fun z s17 ⟨yk, H17, I17, r17, q17⟩ => ?_
        have per := he.run _ s17 σ15 H17 _ I17 q17
        rw [hx] at per
        refine thnF per fun z2 s18 ⟨yv, H18, I18, r18, kvs, ky, ek, hD18, hz18, nx⟩ => ?_
        subst ek
        exact d_dictSet (X := X) I18 hD18 hz18 r17 r18 fun s19 I19 => fin1 I19 nx
  exact hst loop1 (T1.self X.A 0 _ _ _ st11 loop1)
theorem cl_midD {t i i1 kx vx : Expr} {gs : List Comprehension} {scope : Scope} {pos : Pos} {ifs : List Expr} {k : Nat} {D : Addr} {vs us : List Nat} {wi : TI} {g : TG} {tt : TT} {F : FB} (hx : X.xe = fun _ _ => False) (hc : X.calm = true) (hk : TurnMid (.DictComp kx vx gs scope pos) k t i i1 ifs) (hs : ∀ x, foldedSetIterable i1 X.env x = pure x) (hst : StartOk (.DictComp kx vx gs scope pos) k)
    (hi : PI X t i wi) (hg : PG X t g) (ht : PTs X ifs tt) (hu : ∀ i ∈ us, i ∈ vs) (hb : Cl X (.DictComp kx vx gs scope pos) (k + 1) i1 D us F) : Cl X (.DictComp kx vx gs scope pos) k i D vs (tCl wi g tt vs F) := by
  constructor
  intro pins s σ H Nx I h
  have h1 := hi.run pins s σ H _ I h
  rw [hx] at h1
  refine thnF h1 fun xv s10 hx2 => thnF hx2 fun itv s11 h11 => ?_
  obtain ⟨it1, fp1, tn1, J1, H11, e1, I11, T1, st11, f11, W1, ⟨m1, w1⟩, turn1⟩ := h11
  subst e1
  have stat : ∀ {H' : Hp}, (∀ b ∈ fp1, H' b = none) → ∀ b ∈ fp1, FpOk X pins H' b := fun hn b hb => ⟨hn b hb, (f11 b hb).2⟩
  have loop1 : codeAny (model X.prog X.w) X.A (.compLoop (.DictComp kx vx gs scope pos) k (.ref it1) (.ref D) X.env) (fun r s' => match r with
      | .ok _ => ∃ H', Inv X pins (wipe σ vs) H' s' ∧ Nx H'
      | .error _ => False) s11 := by
    refine loop_midD hk hs (fun n s' => ∃ j H', Inv X pins (wipe σ vs) H' s' ∧ tn1 j s'.heap ∧ (∀ b ∈ fp1, H' b = none) ∧ W1 j n H') ?_ m1 ⟨0, H11, I11.weak (wipe_length _ _) (fun j v e => (wipe_some e).1), st11, fun b hb => (f11 b hb).1, w1⟩
    rintro n s12 ⟨j, H12, I12, st12, n12, w12⟩
    rcases turn1 j n H12 w12 with ⟨stop1, nx1⟩ | ⟨go1, Nx1, hNx1, step1⟩
    · refine thnF (T1.done X rfl rfl rfl hc j _ s12 (wipe σ vs) H12 (fun _ _ => False) I12 (stat n12) st12 stop1) fun r s13 ⟨hr, I13⟩ => ?_
      subst hr
      exact ⟨H12, I13, nx1⟩
    · refine thnF (T1.item X rfl rfl rfl hc j _ s12 (wipe σ vs) H12 (fun _ _ => False) I12 (stat n12) st12 go1) fun r s13 ⟨u1, hr, h13⟩ => ?_
      subst hr
      refine thnF h13 fun _ s14 ⟨x1, H14, I14, r14, y14, st14, n14⟩ => ?_
      have I14' := I14.pinned (stat n14) (T1.obj _ _ st14)
      have pgr := hg.run _ s14 (wipe σ vs) H14 x1 u1 _ I14' r14 (step1 x1 H14 y14)
      rw [hx] at pgr
      refine thnF pgr fun _ s15 ⟨σ15, H15, I15, hw15, q15⟩ => ?_
      have ptr := ht.run _ s15 σ15 H15 _ I15 q15
      rw [hx] at ptr
      refine thnF ptr fun b1 s16 ⟨H16, I16, q16⟩ => ?_
      have fin1 : ∀ {us : List Nat} {s' : Shared} {H' : Hp}, (∀ i ∈ us, i ∈ vs) → Inv X (pins ++ pinsAt fp1 s14.heap) (wipe σ15 us) H' s' → Nx1 H' → ∃ m, m < n ∧ ∃ j H', Inv X pins (wipe σ vs) H' s' ∧ tn1 j s'.heap ∧ (∀ b ∈ fp1, H' b = none) ∧ W1 j m H' := fun {us s' H'} hu I' nx => by
        obtain ⟨m', hm, w'⟩ := hNx1 H' nx
        have pin' : ∀ b ∈ fp1, ∀ o, s14.heap.get? b = some o → s'.heap.get? b = some o ∧ H' b = none := fun b hb o e =>
          let z := I'.pin (b, o) (List.mem_append_right _ (List.mem_append_right _ (mem_pinsAt hb e)))
          ⟨z.1, z.2.1⟩
        refine ⟨m', hm, j + 1, H', cl_back hw15 hu I', T1.keep _ _ _ st14 fun b hb o e => (pin' b hb o e).1, fun b hb => ?_, w'⟩
        obtain ⟨o, e, _⟩ := T1.obj _ _ st14 b hb
        exact (pin' b hb o e).2
      cases b1 with
      | false =>
        simp only [Bool.false_eq_true, if_false] at q16 ⊢
        exact fin1 (us := []) (by simp) I16 q16
      | true =>
        simp only [if_true] at q16 ⊢
        refine thnF (hb.run _ s16 σ15 H16 Nx1 I16 q16) fun xv2 s17 h17 => thnF h17 fun itv2 s18 h18 => ?_
        refine codeAny_mono h18 fun r s' hr => ?_
        cases r with
        | ok f =>
          obtain ⟨H', I', nx⟩ := hr
          exact fin1 hu I' nx
        | error e => exact hr
  exact hst loop1 (T1.self X.A 0 _ _ _ st11 loop1)
/-- the whole: the first clause, what its turn does told by F over the new list -/
def tDcC (wi : TI) (g : TG) (tt : TT) (F : Addr → FB) (vs : List Nat) : TE := fun σ H Q => wi σ H fun J H1 => ∀ D, H1 D = none → ∃ W : Nat → Nat → Hp → Prop, (∃ m, W 0 m (upd H1 D (.dK []))) ∧ ∀ i m H, W i m H →
  (J.stop i H ∧ Q (.ref D) H) ∨ (J.go i H ∧ ∃ Nx : Hp → Prop, (∀ H', Nx H' → ∃ m', m' < m ∧ W (i + 1) m' H') ∧ ∀ x H', J.yld i H x H' → g x (wipe σ vs) H' fun σ2 H2 => wipe σ2 vs = wipe σ vs ∧ tt σ2 H2 fun b H3 =>
    if b = true then F D σ2 H3 Nx else Nx H3)
theorem dcC_core {pins : List (Addr × Obj)} {s : Shared} {σ : L2.St} {H : Hp} {Q : VK} {kx vx tg iter i1 : Expr} {ifs : List Expr} {cs : List Comprehension} {scope : Scope} {own : List (Str × Nat)} {us : List Nat} {pos pos' : Pos} {wi : TI} {g : TG} {tt : TT} {F : Addr → FB} {use : Option (Value → Sem Unit)} {Qf : Value → Shared → Prop}
    (hc : X.calm = true) (hN : X.N.Nodup) (I : Inv X pins σ H s) (hi : PI X tg iter wi) (ok : BlkOk X.N X.env.scope scope own) (hk : TurnMid (.DictComp kx vx (⟨tg, iter, ifs, 0⟩ :: cs) scope pos) 0 tg iter i1 ifs) (hs1 : ∀ env x, foldedSetIterable i1 env x = pure x) (hu : ∀ i ∈ us, i ∈ own.map (·.2))
    (hg : ∀ (s : Shared) (H : Hp) (C : Addr) (cl : List (Str × Addr)) (fp : List Addr), PG (X.blk s H scope (compEnvC scope cl C X.env) fp) tg g) (ht : ∀ (s : Shared) (H : Hp) (C : Addr) (cl : List (Str × Addr)) (fp : List Addr), PTs (X.blk s H scope (compEnvC scope cl C X.env) fp) ifs tt)
    (hb : ∀ (s : Shared) (H : Hp) (C : Addr) (cl : List (Str × Addr)) (fp : List Addr) (D : Addr), Cl (X.blk s H scope (compEnvC scope cl C X.env) fp) (.DictComp kx vx (⟨tg, iter, ifs, 0⟩ :: cs) scope pos) 1 i1 D us (F D)) (hs : ∀ x, foldedSetIterable iter X.env x = pure x)
    (h : tDcC wi g tt F (own.map (·.2)) σ H Q)
    (hRR : ∀ D C s' m H', Inv X pins σ H' s' → Q (.ref D) H' → s'.heap.Ns C m → FpOk X pins H' C → compPost (model X.prog X.w) X.A X.xe use Qf (.ref D) C (.ok .next) s') :
    wpAny (model X.prog X.w) X.A (comprehension (.DictComp kx vx (⟨tg, iter, ifs, 0⟩ :: cs) scope pos) scope X.env pos' newDict false (eval iter X.env) use) Qf X.xe s := by
  have hfree : ∀ y ∈ scope.names, y.2 = .free → ∃ c, X.env.cells.lookup y.1 = some c := fun y hy e => (ok.free y hy e).elim (fun k => I.ok.has _ (.inl k)) fun k => I.ok.has _ (.inr k)
  refine wpAny_comprehension_free (use := use) rfl hs (closure_ok hfree) ok.kind (fun y hy e => by rw [ok.uniq y hy, e])
    (thn (hi.run pins s σ H _ I h) fun xv s1 hx => thn hx fun itv s2 h2 => ?_)
  obtain ⟨it, fp, tn, J, H2, e, I2, T, st2, f2, q⟩ := h2
  subst e
  refine wpAny_newObj_type (newEnv_comp ?_)
  generalize hD : s2.heap.objs.size = D
  have hDn : H2 D = none := I2.hok.fresh (Nat.le_of_eq hD)
  obtain ⟨W, ⟨m0, w0⟩, turn⟩ := q D hDn
  generalize hs3 : ({ s2 with heap := s2.heap.push { cls := .type "dict", data := .dict #[] } } : Shared) = s3
  have I3 : Inv X pins σ (upd H2 D (.dK [])) s3 := by
    rw [← hs3]
    refine I2.laid (t' := s2.toks) (fun b o e => Heap.get?_push_of_some _ e) (Nat.le_of_eq hD) ?_
    rw [← hD]
    exact dk_empty s2.heap I2.big
  have h3 : s3.heap = s2.heap.push { cls := .type "dict", data := .dict #[] } := by rw [← hs3]
  have sz : ∀ b ∈ fp, b < s2.heap.objs.size := fun b hb => by
    obtain ⟨o, e, _⟩ := T.obj _ _ st2 b hb
    exact Heap.lt_size e
  have f3 : ∀ b ∈ fp, FpOk X pins (upd H2 D (.dK [])) b ∧ b < s3.heap.objs.size := fun b hb => by
    have hlt := sz b hb
    refine ⟨⟨?_, (f2 b hb).2⟩, by rw [h3, Heap.size_push]; exact Nat.lt_succ_of_lt hlt⟩
    rw [upd_ne (by rw [← hD]; exact Nat.ne_of_lt hlt)]
    exact (f2 b hb).1
  have st3 : tn 0 s3.heap := T.keep _ _ _ st2 fun b _ o e => by rw [h3]; exact Heap.get?_push_of_some _ e
  have I4 := block_start I3 ok hN f3
  have pg := hg s3 (upd H2 D (.dK [])) s3.heap.objs.size (cellsFrom (s3.heap.objs.size + 1) scope.names (cloFrom X.env.cells scope.names [])) fp
  have pt := ht s3 (upd H2 D (.dK [])) s3.heap.objs.size (cellsFrom (s3.heap.objs.size + 1) scope.names (cloFrom X.env.cells scope.names [])) fp
  have pb := hb s3 (upd H2 D (.dK [])) s3.heap.objs.size (cellsFrom (s3.heap.objs.size + 1) scope.names (cloFrom X.env.cells scope.names [])) fp D
  show codeAny _ _ (.compStart (.DictComp kx vx (⟨tg, iter, ifs, 0⟩ :: cs) scope pos) 0 (.ref it) (.ref D) (compEnvC scope (cellsFrom (s3.heap.objs.size + 1) scope.names (cloFrom X.env.cells scope.names [])) s3.heap.objs.size X.env)) (compPost (model X.prog X.w) X.A X.xe use Qf (.ref D) s3.heap.objs.size) { s3 with heap := pushCells (s3.heap.push { cls := .type "dict", data := .dict #[] }) scope.names }
  have nfp : ∀ b ∈ fp, (upd H2 D (.dK [])) b = none := fun b hb => (f3 b hb).1.1
  generalize hce : compEnvC scope (cellsFrom (s3.heap.objs.size + 1) scope.names (cloFrom X.env.cells scope.names [])) s3.heap.objs.size X.env = ce at I4 pg pt pb ⊢
  have cL : ce.locals = s3.heap.objs.size := by subst hce; rfl
  generalize hH3 : upd H2 D (.dK []) = H3 at I3 I4 pg pt pb w0 nfp f3
  generalize hs4 : ({ s3 with heap := pushCells (s3.heap.push { cls := .type "dict", data := .dict #[] }) scope.names } : Shared) = s4 at I4 ⊢
  have st4 : tn 0 s4.heap := T.keep _ _ _ st3 fun b _ o e => by rw [← hs4]; exact pushCells_keeps _ _ _ _ (Heap.get?_push_of_some _ e)
  have stat : ∀ {σ' : L2.St} {H' : Hp} {s' : Shared}, Inv (X.blk s3 H3 scope ce fp) [] σ' H' s' → (∀ b ∈ fp, H' b = none) → ∀ b ∈ fp, FpOk (X.blk s3 H3 scope ce fp) [] H' b := fun {σ' H' s'} I' hn b hb =>
    ⟨hn b hb, (I'.ok.exf b hb).1, I'.ok.exfs b hb, .inl hb, fun x c e => (I'.ok.exf b hb).2 x c e, fun p hp => absurd (show p ∈ ([] : List (Addr × Obj)) ++ [] from hp) (by simp)⟩
  have loop : codeAny (model X.prog X.w) X.A (.compLoop (.DictComp kx vx (⟨tg, iter, ifs, 0⟩ :: cs) scope pos) 0 (.ref it) (.ref D) ce) (compPost (model X.prog X.w) X.A X.xe use Qf (.ref D) s3.heap.objs.size) s4 := by
    refine loop_midD hk (hs1 ce) (fun n s' => ∃ i H', Inv (X.blk s3 H3 scope ce fp) [] (wipe σ (own.map (·.2))) H' s' ∧ tn i s'.heap ∧ (∀ b ∈ fp, H' b = none) ∧ W i n H') ?_ m0 ⟨0, H3, I4, st4, nfp, w0⟩
    rintro n s5 ⟨i, H5, I5, st5, n5, w5⟩
    rcases turn i n H5 w5 with ⟨stop, qq⟩ | ⟨go, Nx, hNx, step⟩
    · refine thnF (T.done (X.blk s3 H3 scope ce fp) rfl rfl rfl hc i [] s5 _ H5 (fun _ _ => False) I5 (stat I5 n5) st5 stop) fun r s6 ⟨hr, I6⟩ => ?_
      subst hr
      have I7 : Inv X pins σ H5 s6 := I3.call' (ch := fp) I6.os I6.base I6.hok I6.bare fun b hb => ⟨(f3 b hb).1.2.2.2.1, (f3 b hb).1.2.1, (f3 b hb).1.2.2.2.2.1, (f3 b hb).1.2.2.2.2.2⟩
      have nC : H5 s3.heap.objs.size = none := by
        have z : H5 ce.locals = none := I6.free
        rw [cL] at z
        exact z
      obtain ⟨m, hn, _⟩ := I6.loc
      have hn : s6.heap.Ns ce.locals m := hn
      rw [cL] at hn
      exact hRR D s3.heap.objs.size s6 m H5 I7 qq hn (I3.fpOk (Nat.le_refl _) nC)
    · refine thnF (T.item (X.blk s3 H3 scope ce fp) rfl rfl rfl hc i [] s5 _ H5 (fun _ _ => False) I5 (stat I5 n5) st5 go) fun r s6 ⟨u, hr, h6⟩ => ?_
      subst hr
      refine thnF h6 fun _ s7 ⟨x, H7, I7, r7, y7, st7, n7⟩ => ?_
      have I7' := I7.pinned (stat I7 n7) (T.obj _ _ st7)
      refine thnF (pg.run _ s7 _ H7 x u _ I7' r7 (step x H7 y7)) fun _ s8 ⟨σ8, H8, I8, hw8, q8⟩ => ?_
      refine thnF (pt.run _ s8 σ8 H8 _ I8 q8) fun b s9 ⟨H9, I9, q9⟩ => ?_
      have fin : ∀ {us : List Nat} {s' : Shared} {H' : Hp}, (∀ i ∈ us, i ∈ own.map (·.2)) → Inv (X.blk s3 H3 scope ce fp) ([] ++ pinsAt fp s7.heap) (wipe σ8 us) H' s' → Nx H' → ∃ m, m < n ∧ ∃ i H', Inv (X.blk s3 H3 scope ce fp) [] (wipe σ (own.map (·.2))) H' s' ∧ tn i s'.heap ∧ (∀ b ∈ fp, H' b = none) ∧ W i m H' := fun {us s' H'} hu I' nx => by
        obtain ⟨m', hm, w'⟩ := hNx H' nx
        have pin' : ∀ b ∈ fp, ∀ o, s7.heap.get? b = some o → s'.heap.get? b = some o ∧ H' b = none := fun b hb o e =>
          let z := I'.pin (b, o) (List.mem_append_right _ (List.mem_append_right _ (mem_pinsAt hb e)))
          ⟨z.1, z.2.1⟩
        refine ⟨m', hm, i + 1, H', cl_back hw8 hu I', T.keep _ _ _ st7 fun b hb o e => (pin' b hb o e).1, fun b hb => ?_, w'⟩
        obtain ⟨o, e, _⟩ := T.obj _ _ st7 b hb
        exact (pin' b hb o e).2
      cases b with
      | false =>
        simp only [Bool.false_eq_true, if_false] at q9 ⊢
        exact fin (us := []) (by simp) I9 q9
      | true =>
        simp only [if_true] at q9 ⊢
        refine thnF (pb.run _ s9 σ8 H9 Nx I9 q9) fun xv2 s17 h17 => thnF h17 fun itv2 s18 h18 => ?_
        refine codeAny_mono h18 fun r s' hr => ?_
        cases r with
        | ok f =>
          obtain ⟨H', I', nx⟩ := hr
          exact fin hu I' nx
        | error e => exact hr
  exact codeAny_compStart_dict loop (T.self X.A 0 _ _ _ st4 loop)
theorem pe_dcC {kx vx tg iter i1 : Expr} {ifs : List Expr} {cs : List Comprehension} {scope : Scope} {own : List (Str × Nat)} {us : List Nat} {pos : Pos} {wi : TI} {g : TG} {tt : TT} {F : Addr → FB} (hc : X.calm = true) (hN : X.N.Nodup)
    (hi : PI X tg iter wi) (ok : BlkOk X.N X.env.scope scope own) (hk : TurnMid (.DictComp kx vx (⟨tg, iter, ifs, 0⟩ :: cs) scope pos) 0 tg iter i1 ifs) (hu : ∀ i ∈ us, i ∈ own.map (·.2))
    (hg : ∀ (s : Shared) (H : Hp) (C : Addr) (cl : List (Str × Addr)) (fp : List Addr), PG (X.blk s H scope (compEnvC scope cl C X.env) fp) tg g) (ht : ∀ (s : Shared) (H : Hp) (C : Addr) (cl : List (Str × Addr)) (fp : List Addr), PTs (X.blk s H scope (compEnvC scope cl C X.env) fp) ifs tt)
    (hb : ∀ (s : Shared) (H : Hp) (C : Addr) (cl : List (Str × Addr)) (fp : List Addr) (D : Addr), Cl (X.blk s H scope (compEnvC scope cl C X.env) fp) (.DictComp kx vx (⟨tg, iter, ifs, 0⟩ :: cs) scope pos) 1 i1 D us (F D)) (hs : ∀ x, foldedSetIterable iter X.env x = pure x := by intro _; rfl) (hs1 : ∀ env x, foldedSetIterable i1 env x = pure x := by intro _ _; rfl) :
    PE X (.DictComp kx vx (⟨tg, iter, ifs, 0⟩ :: cs) scope pos) (tDcC wi g tt F (own.map (·.2))) := by
  refine ⟨fun pins s σ H Q I h => ?_⟩
  rw [arm_eval_DictComp]
  refine dcC_core hc hN I hi ok hk hs1 hu hg ht hb hs h fun D C s' m H' I' q hn f => ⟨m, hn, fun h'' sb => ?_⟩
  obtain ⟨f0, f1, f2, f3, f4, f5⟩ := f
  exact ⟨.ref D, H', I'.turned (t' := s'.toks) (fun b o hb e => (sb.2 b hb).trans e) f0 f1 f3 f4 f5, rfl, q⟩
end
section
variable {kx vx t0 i0 t1 i1 : Expr} {ifs0 ifs1 : List Expr} {scope : Scope} {pos : Pos}
theorem turnD_0 : TurnMid (.DictComp kx vx [⟨t0, i0, ifs0, 0⟩, ⟨t1, i1, ifs1, 0⟩] scope pos) 0 t0 i0 i1 ifs0 := fun _ _ _ => rfl
theorem turnD_1 : TurnEndD (.DictComp kx vx [⟨t0, i0, ifs0, 0⟩, ⟨t1, i1, ifs1, 0⟩] scope pos) 1 t1 i1 kx vx ifs1 := fun _ _ _ => rfl
theorem startD_1 : StartOk (.DictComp kx vx [⟨t0, i0, ifs0, 0⟩, ⟨t1, i1, ifs1, 0⟩] scope pos) 1 := by
  intro prog w A R s it acc env h0 h
  refine codeAny_of_tree ?_
  show wpAny _ _ ((compStart (.DictComp kx vx [⟨t0, i0, ifs0, 0⟩, ⟨t1, i1, ifs1, 0⟩] scope pos) 1 it acc env).onRaise (fun x => do noteFrame x env; standAt theWindowsPlace)) _ _ s
  refine wpAny_notedAt ?_
  unfold compStart
  show wpAny _ _ (ask >>= _) _ _ s
  refine wpAny_bind (wpAny_askSetting (wpAny_ite ?_))
  split
  · first
      | exact wpAny_bind (wpAny_pure (wpAny_pure (And.intro rfl h0)))
      | exact wpAny_pure (And.intro rfl h0)
  · refine wpAny_bind (wpAny_rule ?_)
    show wpAny _ _ (standAt i1.pos >>= _) _ _ s
    exact wpAny_bind (wpAny_standAt (wpAny_bind (wpAny_mono h (fun it' s' h' => wpAny_pure (And.intro rfl h')) fun _ _ x => x)))
end
end Cm
namespace Cm
open PySem PySem.Spec PyProof.Rows
open L2 hiding Same
theorem walk_enumT {K : PySem.W.Frag} {a : Addr} {xs : List V} : Walk (IteT K a) xs.length (fun H => SqT K H a xs) (YPair (fun i => some (.int (i : Nat))) (fun i => xs[i]?)) := by
  refine ⟨fun i _ hi q => ⟨xs, xs[i], q, by simp [hi]⟩, fun _ q => ⟨xs, q, Nat.le_refl _⟩, fun i H v H' _ q y => ?_⟩
  obtain ⟨T, x, h1, h2, h3, h4⟩ := y
  exact ⟨T, .int (i : Nat), x, h1, h2, h3, rfl, h4 xs q⟩
/-- a clause of a comprehension over a walk -/
theorem cl_it {J : It} {n : Nat} {G : Hp → Prop} {Y : Nat → Hp → V → Hp → Prop} (w : Walk J n G Y) {g : TG} {tt : TT} {F : FB} {vs : List Nat} {σ : L2.St} {H0 : Hp} {Qd : Hp → Prop} (Pv : Nat → Hp → Prop) (h0 : Pv 0 H0) (hG : ∀ i H, i ≤ n → Pv i H → G H)
    (hs : ∀ i x H H', i < n → Pv i H → Y i H x H' → g x (wipe σ vs) H' fun σ2 H2 => wipe σ2 vs = wipe σ vs ∧ tt σ2 H2 fun b H3 => if b = true then F σ2 H3 (Pv (i + 1)) else Pv (i + 1) H3) (hd : ∀ H, Pv n H → Qd H) :
    ∃ W : Nat → Nat → Hp → Prop, (∃ m, W 0 m H0) ∧ ∀ i m H, W i m H →
      (J.stop i H ∧ Qd H) ∨ (J.go i H ∧ ∃ Nx : Hp → Prop, (∀ H', Nx H' → ∃ m', m' < m ∧ W (i + 1) m' H') ∧ ∀ x H', J.yld i H x H' → g x (wipe σ vs) H' fun σ2 H2 => wipe σ2 vs = wipe σ vs ∧ tt σ2 H2 fun b H3 =>
        if b = true then F σ2 H3 Nx else Nx H3) := by
  refine ⟨fun i m H => m = n - i ∧ i ≤ n ∧ Pv i H, ⟨n, by simp, Nat.zero_le _, h0⟩, ?_⟩
  rintro i m H ⟨rfl, hi, p⟩
  have q := hG i H hi p
  by_cases hlt : i < n
  · exact .inr ⟨w.goes i H hlt q, Pv (i + 1), fun H' p' => ⟨n - (i + 1), by omega, rfl, hlt, p'⟩, fun x H' y => hs i x H H' hlt p (w.yields i H x H' hlt q y)⟩
  · have e : i = n := by omega
    subst e
    exact .inl ⟨w.stops H q, hd H p⟩
end Cm
namespace K88
open PySem PySem.Spec PyProof.Rows Cm Um TL
open L2 hiding Same
/-! ### Grammar(order, forms, ..) -/
abbrev rSplit : V → List V → Hp → VK → Prop := fun x xs H Q => ∃ a b, x = .str a ∧ xs = [.str b] ∧ (b.length == 0) = false ∧ a.length + 2 ≤ sizeLine ∧ rNewStrs (Txt.split a b) H Q
def spGram (K : PySem.W.Frag) : Sp := fun vs H Q _ => ∃ (y dx o f v p : Addr) (G : Gram) (order forms vk pk : List Str), vs = [.ref y, .ref o, .ref f, .ref v, .ref p] ∧ H y = some (.ins (GC K) dx []) ∧ (∀ H, SqT K H o (order.map V.str)) ∧ (∀ H, SqT K H f (forms.map V.str)) ∧
  (∀ H, SqT K H v (vk.map V.str)) ∧ (∀ H, SqT K H p (pk.map V.str)) ∧ GOk G order forms vk pk ∧ ∀ H', Kp y H H' → GrAt K H' y G → Q .non H'
theorem kp_same {p : Addr} {H H1 H2 : Hp} (a : Kp p H H1) (b : Same H1 H2) : Kp p H H2 := fun c o n h => b c o (a c o n h)
/-- the lists of forms under way: each at its own new place -/
structure FL (H H' : Hp) (n : Nat) (l : List FE) : Prop where
  cont : ∀ e ∈ l, H' e.2.1 = some (.lst (e.2.2.map fun q => V.ref q.1)) ∧ ∀ q ∈ e.2.2, H' q.1 = some (.lst (q.2.map V.str))
  keys : (l.map (·.1)).Nodup
  addr : (l.map (·.2.1)).Nodup
  own : ∀ e ∈ l, ∀ e' ∈ l, ∀ q ∈ e'.2.2, q.1 ≠ e.2.1
  fresh : ∀ e ∈ l, H e.2.1 = none
  few : ∀ e ∈ l, e.2.2.length ≤ n
theorem pair_of_nodup {α β : Type} {f : α → β} {l : List α} (h : (l.map f).Nodup) {a b : α} (ha : a ∈ l) (hb : b ∈ l) (e : f a = f b) : a = b := by
  induction l with
  | nil => cases ha
  | cons x l ih =>
    rw [List.map_cons, List.nodup_cons] at h
    rcases List.mem_cons.mp ha with rfl | ha
    · rcases List.mem_cons.mp hb with rfl | hb
      · rfl
      · exact absurd (e ▸ List.mem_map_of_mem hb) h.1
    · rcases List.mem_cons.mp hb with rfl | hb
      · exact absurd (e ▸ List.mem_map_of_mem (by assumption)) h.1
      · exact ih h.2 (by assumption) (by assumption)
theorem FL.nil {H H' : Hp} {n : Nat} : FL H H' n [] := ⟨fun _ h => (by cases h), List.nodup_nil, List.nodup_nil, fun _ h => (by cases h), fun _ h => (by cases h), fun _ h => (by cases h)⟩
theorem FL.new {H H' : Hp} {n : Nat} {l : List FE} {y p : Addr} {o : HO} (f : FL H H' n l) (k : Kp y H H') (ny : p ≠ y) (hp : H' p = none) : FL H (upd H' p o) n l ∧ (∀ e ∈ l, p ≠ e.2.1 ∧ ∀ q ∈ e.2.2, q.1 ≠ p) :=
  ⟨⟨fun e he => ⟨(Same.new hp) _ _ (f.cont e he).1, fun q hq => (Same.new hp) _ _ ((f.cont e he).2 q hq)⟩, f.keys, f.addr, f.own, f.fresh, f.few⟩, fun e he => ⟨(ne_of_none (f.cont e he).1 hp).symm, fun q hq => ne_of_none ((f.cont e he).2 q hq) hp⟩⟩
section
variable {P : Program} {w : World} {K : PySem.W.Frag} {mg : Str → Option Value} {base : Heap} {sa : Addr} {sx : List Int}
theorem ok_Grammar_init (T : Tx K mg sa sx) : KCal P w K mg base 1 "Grammar" (GC K) (spGram K) [] := by
  obtain ⟨fd, F⟩ := f_Grammar_init T
  refine ⟨g_Grammar T, _, fd, ["self", "order", "forms", "value_kinds", "place_kinds"], [], m_Grammar T, fnok F sc_Grammar_init (fun vs H Q E h => ?_) (fun cdv A outer s H vs Q E hr h => ?_), F.bindsN fun _ _ _ _ _ _ us hl => match us, hl with | [_, _, _, _, _], _ => rfl, .nil⟩
  · obtain ⟨y, dx, o, f, v, p, G, order, forms, vk, pk, rfl, _⟩ := h; rfl
  · obtain ⟨y, dx, o, f, v, p, G, order, forms, vk, pk, rfl, hy, ho, hf, hv, hp, ok, q⟩ := h
    refine ⟨_, (pss_cons (ps_fld (pv 0) (pe_dcC (own := [("rank", 5), ("heads", 6), ("head", 7)]) (us := [7]) (g := gTup K 2 (gCons (gName 5) (gCons (gName 6) gNil))) (tt := tYes) (F := fun D => tCl (iList K (tM1 rSplit (tVar 6) (tC (.str " ")))) (gName 7) tYes [7] (fPut D (tVar 7) (tVar 5))) rfl sc_Grammar_init.nd (pi_enumS rfl (n_enumerate T) (pa_cons (pv 1) pa_nil)) (blkOk_by (own := [("rank", 5), ("heads", 6), ("head", 7)]) (N := ["self", "order", "forms", "value_kinds", "place_kinds", "rank", "heads", "head", "form", "slots"]) (sc := defScope s_Grammar_init) (by decide +kernel)) turnD_0 (by decide) (fun _ _ _ _ _ => pg_tup (by rfl) (pgs_cons (pg_name (i := 5) sc_Grammar_init.nd rfl (Or.inl rfl)) (pgs_cons (pg_name (i := 6) sc_Grammar_init.nd rfl (Or.inl rfl)) pgs_nil))) (fun _ _ _ _ _ => pts_nil) (fun _ _ _ _ _ _ => cl_endD rfl rfl turnD_1 startD_1 (pi_list (pe_split (pv 6) pe_str)) (pg_name (i := 7) sc_Grammar_init.nd rfl (Or.inl rfl)) pts_nil (pv 7) (pv 5))) rfl)
    (pss_cons (ps_fld (pv 0) (pe_op op_sub (pe_callB (id := "len") call_len_seq rfl (n_len T) (by decide +kernel) (pa_cons (pv 1) pa_nil)) pe_int) rfl)
    (pss_cons (ps_fld (pv 0) pe_dnewK rfl)
    (pss_cons (ps_for PassesOwn.never rfl (pi_tup (pv 2)) (pg_name (i := 8) sc_Grammar_init.nd rfl (by first | exact Or.inl rfl | exact Or.inr rfl))
      (pss_cons (ps_set (i := 9) sc_Grammar_init.nd rfl (by first | exact Or.inl rfl | exact Or.inr rfl) (pe_split (pv 8) pe_str))
      (pss_one (ps_expr (pe_bm PySem.F.plainAttrs_list PySem.F.slot_list_append PySem.F.type_list_append mt_append (pe_dsetd (pe_fld (pv 0) rfl) (pe_ix ix_list (pv 9) pe_int (fun _ _ => rfl)) (pe_lst pa_nil) ⟨by rfl, by rfl, by rfl, by rfl⟩) (pa_cons (pv 9) pa_nil))))))
    (pss_one (ps_fld (pv 0) (pe_disp (pps_cons pe_str (pe_callTy (T := "tuple") call_tuple_of rfl (n_tuple T) (by decide +kernel) (pa_cons (pv 3) pa_nil)) (pps_cons pe_str (pe_callTy (T := "tuple") call_tuple_of rfl (n_tuple T) (by decide +kernel) (pa_cons (pv 4) pa_nil)) pps_nil)) (by rfl) (by rfl) (fun z => by cases z) (by decide)) rfl)))))), ?_⟩
    -- ranks
    refine .inr ⟨_, rfl, o, order.map V.str, rfl, ho H, fun D hD => ?_⟩
    refine cl_it (walk_enumT (K := K) (a := o) (xs := order.map V.str)) (fun i H' => Same H H' ∧ H' D = some (.dK (rkK ((order.zipIdx.take i).flatMap rkF)))) ⟨Same.new hD, upd_same⟩ (fun i H' _ _ => ho H') ?_ ?_
    · rintro i x H' G2 hi ⟨sm, hS⟩ ⟨Tp, a, b, rfl, hT, rfl, ha, hb⟩
      cases ha
      obtain ⟨hs, eh, rfl⟩ := strs_at' hb
      refine ⟨Tp, _, rfl, SqT.of upd_same, rfl, _, _, rfl, _, _, rfl, rfl, rfl, ?_⟩
      have hi2 : i < order.length := (List.getElem?_eq_some_iff.mp eh).1
      have ez : order.zipIdx.take (i + 1) = order.zipIdx.take i ++ [(hs, i)] := by
        rw [take_snocN (by rw [List.length_zipIdx]; exact hi2), List.getElem_zipIdx, (List.getElem?_eq_some_iff.mp eh).2]; simp
      have sT := Same.new hT (o := .tup [V.int (i : Nat), V.str hs])
      have lh := ok.small _ (List.mem_of_getElem? eh)
      refine ⟨_, rfl, ⟨_, rfl⟩, hs, " ", rfl, rfl, by decide, sz1 (by omega), fun wa hwa => ?_⟩
      have sW := sT.trans (Same.new hwa (o := .lst ((Txt.split hs " ").map V.str)))
      have hww : (upd (upd H' Tp (.tup [V.int (i : Nat), V.str hs])) wa (.lst ((Txt.split hs " ").map V.str))) wa = some (.lst ((Txt.split hs " ").map V.str)) := upd_same
      have nDw : wa ≠ D := (ne_of_none (sT _ _ hS) hwa).symm
      generalize upd (upd H' Tp (.tup [V.int (i : Nat), V.str hs])) wa (.lst ((Txt.split hs " ").map V.str)) = H3 at sW hww ⊢
      have whole : ∀ j, j ≤ (Txt.split hs " ").length → ((order.zipIdx.take i).flatMap rkF ++ ((Txt.split hs " ").take j).map fun h => (h, i)).length ≤ 1000 := fun j hj => by
        refine Nat.le_trans ?_ ok.many
        have e1 : order.zipIdx.flatMap rkF = (order.zipIdx.take (i + 1)).flatMap rkF ++ (order.zipIdx.drop (i + 1)).flatMap rkF := by rw [← List.flatMap_append, List.take_append_drop]
        rw [e1, ez, List.flatMap_append, List.length_append, List.length_append, List.length_append]
        have e2 : ([(hs, i)] : List (Str × Nat)).flatMap rkF = (Txt.split hs " ").map fun h => (h, i) := by simp [rkF]
        rw [e2, List.length_map, List.length_map, List.length_take]
        omega
      refine ⟨wa, rfl, ⟨_, SqL.of hww⟩, ?_⟩
      refine cl_it (walk_list (K := K) (a := wa) (xs := (Txt.split hs " ").map V.str)) (fun j H4 => Same H H4 ∧ H4 wa = some (.lst ((Txt.split hs " ").map V.str)) ∧ H4 D = some (.dK (rkK ((order.zipIdx.take i).flatMap rkF ++ ((Txt.split hs " ").take j).map fun h => (h, i))))) ⟨sm.trans sW, hww, by rw [List.take_zero, List.map_nil, List.append_nil]; exact sW _ _ hS⟩ (fun j H4 _ h => SqL.of h.2.1) ?_ ?_
      · rintro j x H4 H5 hj ⟨s4, hw4, hS4⟩ ⟨rfl, hx⟩
        obtain ⟨hd, ed, rfl⟩ := strs_at' hx
        have hj2 : j < (Txt.split hs " ").length := (List.getElem?_eq_some_iff.mp ed).1
        refine ⟨rfl, _, rfl, _, rfl, _, .inr hd, rfl, hS4, sz2 (Nat.le_trans (rkK_len _) (Nat.le_trans (whole j (by omega)) (by decide))), s4.mut hD, by rw [upd_ne nDw]; exact hw4, ?_⟩
        rw [upd_same, take_snocN hj2, List.map_append, ← List.append_assoc, (List.getElem?_eq_some_iff.mp ed).2]
        exact congrArg (fun z => some (HO.dK z)) (rkK_snoc _ (hd, i)).symm
      · rintro H4 ⟨s4, hw4, hS4⟩
        refine ⟨s4, ?_⟩
        rw [List.length_map, List.take_length] at hS4
        rw [ez, List.flatMap_append, show ([(hs, i)] : List (Str × Nat)).flatMap rkF = (Txt.split hs " ").map fun h => (h, i) by simp [rkF]]
        exact hS4
    rintro H1 ⟨s1, hD1⟩
    rw [List.length_map, show order.length = order.zipIdx.length from List.length_zipIdx.symm, List.take_length, ok.ranks] at hD1
    have nDy : D ≠ y := fun z => by rw [z, hy] at hD; cases hD
    refine ⟨_, rfl, y, GC K, dx, [], rfl, s1 _ _ hy, c_Grammar T, na_Grammar_ranks T, fn0, ?_⟩
    -- block_rank
    refine ⟨_, rfl, o, _, rfl, .inr (ho _), _, _, rfl, rfl, _, rfl, y, GC K, dx, _, rfl, upd_same, c_Grammar T, na_Grammar_block_rank T, fnS fs0, ?_⟩
    rw [upd_upd]
    have eb : putF "block_rank" ((fun i j => V.int (i - j)) ((List.map V.str order).length : Nat) 2) (putF "ranks" (V.ref D) []) = ([("ranks", V.ref D), ("block_rank", V.int G.block)] : List (Str × V)) := by
      rw [ok.block, List.length_map]; rfl
    rw [eb]
    have k2 : Kp y H (upd H1 y (.ins (GC K) dx [("ranks", .ref D), ("block_rank", .int G.block)])) := s1.kp.at
    have hy2 : (upd H1 y (.ins (GC K) dx [("ranks", .ref D), ("block_rank", .int G.block)])) y = some (.ins (GC K) dx [("ranks", .ref D), ("block_rank", .int G.block)]) := upd_same
    have hD2 : (upd H1 y (.ins (GC K) dx [("ranks", .ref D), ("block_rank", .int G.block)])) D = some (.dK (skv (G.ranks.map fun p => (p.1, V.int p.2)))) := by rw [upd_ne nDy]; exact hD1
    generalize upd H1 y (.ins (GC K) dx [("ranks", .ref D), ("block_rank", .int G.block)]) = H2 at k2 hy2 hD2 ⊢
    -- forms
    refine fun fm hfm => ?_
    have nfy : fm ≠ y := (ne_of_none hy2 hfm).symm
    have nfD : fm ≠ D := (ne_of_none hD2 hfm).symm
    have hfm0 : H fm = none := kfree k2 nfy hfm
    refine ⟨_, rfl, y, GC K, dx, _, rfl, by rw [upd_ne nfy.symm]; exact hy2, c_Grammar T, na_Grammar_forms T, by simp, ?_⟩
    have ef : putF "forms" (V.ref fm) [("ranks", V.ref D), ("block_rank", V.int G.block)] = ([("ranks", V.ref D), ("block_rank", V.int G.block), ("forms", V.ref fm)] : List (Str × V)) := rfl
    rw [ef]
    have k3 : Kp y H (upd (upd H2 fm (.dK [])) y (.ins (GC K) dx [("ranks", .ref D), ("block_rank", .int G.block), ("forms", .ref fm)])) := (kmut k2 hfm0).at
    have hy3 : (upd (upd H2 fm (.dK [])) y (.ins (GC K) dx [("ranks", .ref D), ("block_rank", .int G.block), ("forms", .ref fm)])) y = some (.ins (GC K) dx [("ranks", .ref D), ("block_rank", .int G.block), ("forms", .ref fm)]) := upd_same
    have hD3 : (upd (upd H2 fm (.dK [])) y (.ins (GC K) dx [("ranks", .ref D), ("block_rank", .int G.block), ("forms", .ref fm)])) D = some (.dK (skv (G.ranks.map fun p => (p.1, V.int p.2)))) := by rw [upd_ne nDy, upd_ne nfD.symm]; exact hD2
    have hf3 : (upd (upd H2 fm (.dK [])) y (.ins (GC K) dx [("ranks", .ref D), ("block_rank", .int G.block), ("forms", .ref fm)])) fm = some (.dK []) := by rw [upd_ne nfy, upd_same]
    generalize upd (upd H2 fm (.dK [])) y (.ins (GC K) dx [("ranks", .ref D), ("block_rank", .int G.block), ("forms", .ref fm)]) = H3 at k3 hy3 hD3 hf3 ⊢
    refine ⟨_, rfl, f, rfl, ⟨_, hf _⟩, ?_⟩
    refine for_it (walk_tup (K := K) (a := f) (xs := forms.map V.str)) (fun i σ H' => ∃ (v8 v9 : Option V) (l : List FE), σ = [some (.ref y), some (.ref o), some (.ref f), some (.ref v), some (.ref p), none, none, none, v8, v9] ∧ Kp y H H' ∧ H' y = some (.ins (GC K) dx [("ranks", .ref D), ("block_rank", .int G.block), ("forms", .ref fm)]) ∧
      H' D = some (.dK (skv (G.ranks.map fun p => (p.1, V.int p.2)))) ∧ H' fm = some (.dK (skv (feV l))) ∧ (l.map fun e => (e.1, e.2.2.map (·.2))) = ((forms.take i).map fun f => Txt.split f " ").foldl addF [] ∧ l.length ≤ i ∧ FL H H' i l) ⟨none, none, [], rfl, k3, hy3, hD3, hf3, rfl, Nat.le_refl _, FL.nil⟩ (fun i σ H' _ _ => hf H') ?_ ?_
    · rintro i x σ H9 H' hi ⟨v8, v9, l, rfl, k4, hy4, hD4, hf4, el, ll, fl⟩ ⟨rfl, hx⟩
      obtain ⟨fo, efo, rfl⟩ := strs_at' hx
      have hi2 : i < forms.length := (List.getElem?_eq_some_iff.mp efo).1
      have lf := ok.fsmall _ (List.mem_of_getElem? efo)
      have mf := ok.fmany
      refine ⟨_, rfl, ⟨_, rfl⟩, fo, " ", rfl, rfl, by decide, sz1 (by omega), fun wa hwa => ?_⟩
      have wne : Txt.split fo " " ≠ [] := split_ne fo " "
      have et : ((forms.take (i + 1)).map fun f => Txt.split f " ").foldl addF [] = addF (((forms.take i).map fun f => Txt.split f " ").foldl addF []) (Txt.split fo " ") := by
        rw [take_snocN hi2, List.map_append, List.foldl_append, (List.getElem?_eq_some_iff.mp efo).2]; rfl
      rw [← el] at et
      generalize Txt.split fo " " = ws at wne et hwa ⊢
      have sw := Same.new hwa (o := .lst (ws.map V.str))
      have hww : (upd H' wa (.lst (ws.map V.str))) wa = some (.lst (ws.map V.str)) := upd_same
      have nwy : wa ≠ y := (ne_of_none hy4 hwa).symm
      have fl := fl.new k4 nwy hwa (o := .lst (ws.map V.str))
      have nwl := fl.2
      have fl := fl.1
      have nwf : wa ≠ fm := (ne_of_none hf4 hwa).symm
      have k5 := kp_same k4 sw
      have hy5 := sw _ _ hy4
      have hD5 := sw _ _ hD4
      have hf5 := sw _ _ hf4
      have hwa0 : H wa = none := kfree k4 nwy hwa
      generalize upd H' wa (.lst (ws.map V.str)) = H5 at sw hww fl nwl k5 hy5 hD5 hf5 ⊢
      refine ⟨_, rfl, y, _, dx, _, _, rfl, hy5, c_Grammar T, na_Grammar_forms T, rfl, fm, rfl, .inl ⟨_, .inl hf5⟩, _, rfl, wa, _, 0, _, rfl, rfl, SqL.of hww, headW_at wne, sz1 (by simp), fun N hN => ?_⟩
      have nNf : N ≠ fm := (ne_of_none hf5 hN).symm
      have nNy : N ≠ y := (ne_of_none hy5 hN).symm
      have nNw : N ≠ wa := (ne_of_none hww hN).symm
      have nND : N ≠ D := (ne_of_none hD5 hN).symm
      have hN0 : H N = none := kfree k5 nNy hN
      have f6 := fl.new k5 nNy hN (o := .lst [])
      have sN := Same.new hN (o := .lst [])
      refine ⟨_, .inr (headW ws), sN _ _ hf5, rfl, sz2 (by unfold skv feV; rw [List.length_map, List.length_map]; omega), fun r hr => ?_, fun hn => ?_⟩
      · -- there
        rw [val_skv, feV, lookup_map (fun e : Addr × List (Addr × List Str) => V.ref e.1) l (headW ws)] at hr
        cases e : l.lookup (headW ws) with
        | none => rw [e] at hr; cases hr
        | some z =>
          rw [e] at hr
          cases hr
          obtain ⟨a, qs⟩ := z
          have hm := mem_lookup e
          have ha := (f6.1.cont _ hm).1
          refine ⟨.inl ⟨rfl, _, SqL.of ha⟩, _, rfl, a, _, .ref wa, rfl, rfl, ha, sz2 (by rw [List.length_map]; show qs.length ≤ 100000; have : qs.length ≤ i := f6.1.few _ hm; omega), ?_⟩
          have nay : a ≠ y := fun z => by rw [z] at ha; rw [sN _ _ hy5] at ha; cases ha
          have naw : wa ≠ a := (nwl _ hm).1
          have naf : a ≠ fm := fun z => by rw [z] at ha; rw [sN _ _ hf5] at ha; cases ha
          have naD : a ≠ D := fun z => by rw [z] at ha; rw [sN _ _ hD5] at ha; cases ha
          have ha0 := f6.1.fresh _ hm
          have key : ∀ e ∈ l, e.1 = headW ws → e = (headW ws, a, qs) := fun e he z => by
            have h1 := pair_of_nodup f6.1.keys he hm z
            exact h1
          have adr : ∀ e ∈ l, e.1 ≠ headW ws → e.2.1 ≠ a := fun e he z z2 => z (by
            have h1 := pair_of_nodup (f := fun e : FE => e.2.1) f6.1.addr he hm z2
            rw [h1])
          let up : FE → FE := fun e => if e.1 = headW ws then (e.1, e.2.1, e.2.2 ++ [(wa, ws)]) else e
          have up1 : ∀ e, (up e).1 = e.1 := fun e => by show (if _ then _ else _ : FE).1 = _; split <;> rfl
          have up2 : ∀ e, (up e).2.1 = e.2.1 := fun e => by show (if _ then _ else _ : FE).2.1 = _; split <;> rfl
          have upq : ∀ e ∈ l, ∀ q ∈ (up e).2.2, q ∈ e.2.2 ∨ q = (wa, ws) := fun e he q hq => by
            by_cases c : e.1 = headW ws
            · rw [show up e = (e.1, e.2.1, e.2.2 ++ [(wa, ws)]) from if_pos c] at hq
              exact (List.mem_append.mp hq).imp_right List.mem_singleton.mp
            · rw [show up e = e from if_neg c] at hq; exact .inl hq
          refine ⟨_, _, l.map up, rfl, kmut (kmut k5 hN0) ha0, ?_, ?_, ?_, ?_, by rw [List.length_map]; omega, ⟨fun e he => ?_, ?_, ?_, fun e he e' he' q hq => ?_, fun e he => ?_, fun e he => ?_⟩⟩
          · rw [upd_ne nay.symm]; exact sN _ _ hy5
          · rw [upd_ne naD.symm]; exact sN _ _ hD5
          · rw [upd_ne naf.symm, sN _ _ hf5]
            congr 2
            unfold feV
            rw [List.map_map]
            congr 1
            exact List.map_congr_left fun e he => by show _ = ((up e).1, V.ref (up e).2.1); rw [up1, up2]
          · rw [et]
            have el2 : (l.map fun e => (e.1, e.2.2.map (·.2))).lookup (headW ws) = some (qs.map (·.2)) := by rw [lookup_map (fun e : Addr × List (Addr × List Str) => e.2.map (·.2)) l (headW ws), e]; rfl
            unfold addF
            rw [el2]
            dsimp only
            rw [List.map_map, List.map_map]
            refine List.map_congr_left fun e he => ?_
            show ((up e).1, (up e).2.2.map (·.2)) = if e.1 = headW ws then (e.1, e.2.2.map (·.2) ++ [ws]) else (e.1, e.2.2.map (·.2))
            by_cases c : e.1 = headW ws
            · rw [if_pos c, show up e = (e.1, e.2.1, e.2.2 ++ [(wa, ws)]) from if_pos c, List.map_append]; rfl
            · rw [if_neg c, show up e = e from if_neg c]
          · obtain ⟨e0, he0, rfl⟩ := List.mem_map.mp he
            have c0 := f6.1.cont _ he0
            have cq : ∀ q ∈ (up e0).2.2, upd (upd H5 N (.lst [])) a (.lst (qs.map (fun q => V.ref q.1) ++ [V.ref wa])) q.1 = some (.lst (q.2.map V.str)) := fun q hq => by
              rcases upq e0 he0 q hq with h | h
              · rw [upd_ne (f6.1.own _ hm _ he0 q h)]; exact c0.2 q h
              · rw [h, upd_ne naw]; exact sN _ _ hww
            refine ⟨?_, cq⟩
            by_cases c : e0.1 = headW ws
            · have := key e0 he0 c
              rw [show up e0 = (e0.1, e0.2.1, e0.2.2 ++ [(wa, ws)]) from if_pos c, this]
              show upd _ a _ a = _
              rw [upd_same, List.map_append]; rfl
            · rw [show up e0 = e0 from if_neg c, upd_ne (adr e0 he0 c)]; exact c0.1
          · rw [List.map_map, show ((·.1) ∘ up : FE → Str) = (·.1) from funext up1]; exact f6.1.keys
          · rw [List.map_map, show ((·.2.1) ∘ up : FE → Addr) = (·.2.1) from funext up2]; exact f6.1.addr
          · obtain ⟨e0, he0, rfl⟩ := List.mem_map.mp he
            obtain ⟨e1, he1, rfl⟩ := List.mem_map.mp he'
            rw [up2]
            rcases upq e1 he1 q hq with h | h
            · exact f6.1.own _ he0 _ he1 q h
            · rw [h]; exact (nwl _ he0).1
          · obtain ⟨e0, he0, rfl⟩ := List.mem_map.mp he
            rw [up2]; exact f6.1.fresh _ he0
          · obtain ⟨e0, he0, rfl⟩ := List.mem_map.mp he
            have c1 := f6.1.few _ he0
            by_cases c : e0.1 = headW ws
            · rw [show up e0 = (e0.1, e0.2.1, e0.2.2 ++ [(wa, ws)]) from if_pos c]
              show (e0.2.2 ++ [(wa, ws)]).length ≤ i + 1
              rw [List.length_append, List.length_singleton]; omega
            · rw [show up e0 = e0 from if_neg c]; omega
      · -- new
        rw [val_skv, feV, lookup_map (fun e : Addr × List (Addr × List Str) => V.ref e.1) l (headW ws)] at hn
        have e0 : l.lookup (headW ws) = none := by
          cases e : l.lookup (headW ws) with
          | none => rfl
          | some z => rw [e] at hn; cases hn
        have hn2 : valV (skv (feV l)) (Sum.inr (headW ws)) = none := by rw [val_skv, feV, lookup_map (fun e : Addr × List (Addr × List Str) => V.ref e.1) l (headW ws), e0]; rfl
        have hNN : (upd (upd H5 N (.lst [])) fm (.dK (putK (skv (feV l)) (Sum.inr (headW ws)) (V.ref N)))) N = some (.lst []) := by rw [upd_ne nNf, upd_same]
        refine ⟨.inl ⟨rfl, _, SqL.of hNN⟩, _, rfl, N, [], .ref wa, rfl, rfl, hNN, sz2 (by simp), ?_⟩
        have nkey : headW ws ∉ l.map (·.1) := fun z => by
          obtain ⟨e, he, ee⟩ := List.mem_map.mp z
          have := lookup_mem (l := l) (s := e.1) (a := e.2) he
          rw [ee, e0] at this; cases this
        have keep : ∀ b u, b ≠ N → b ≠ fm → H5 b = some u → (upd (upd (upd H5 N (.lst [])) fm (.dK (putK (skv (feV l)) (Sum.inr (headW ws)) (V.ref N)))) N (.lst ([] ++ [V.ref wa]))) b = some u := fun b u n1 n2 h => by rw [upd_ne n1, upd_ne n2, upd_ne n1]; exact h
        have lf : ∀ b xs, H5 b = some (.lst xs) → b ≠ fm := fun b xs h z => by rw [z, hf5] at h; cases h
        refine ⟨_, _, l ++ [(headW ws, N, [(wa, ws)])], rfl, kmut (kmut (kmut k5 hN0) hfm0) hN0, keep _ _ nNy.symm nfy.symm hy5, keep _ _ nND.symm nfD.symm hD5, ?_, ?_, by rw [List.length_append, List.length_singleton]; omega, ⟨fun e he => ?_, ?_, ?_, fun e he e' he' q hq => ?_, fun e he => ?_, fun e he => ?_⟩⟩
        · rw [upd_ne nNf.symm, upd_same, putK_new _ hn2]
          unfold skv feV
          rw [List.map_append, List.map_append]; rfl
        · rw [et]
          have el2 : (l.map fun e => (e.1, e.2.2.map (·.2))).lookup (headW ws) = none := by rw [lookup_map (fun e : Addr × List (Addr × List Str) => e.2.map (·.2)) l (headW ws), e0]; rfl
          unfold addF
          rw [el2, List.map_append]; rfl
        · rcases List.mem_append.mp he with he | he
          · have c0 := fl.cont _ he
            have c1 := f6.2 _ he
            exact ⟨keep _ _ c1.1.symm (lf _ _ c0.1) c0.1, fun q hq => keep _ _ (c1.2 q hq) (lf _ _ (c0.2 q hq)) (c0.2 q hq)⟩
          · rw [List.mem_singleton.mp he]
            refine ⟨by rw [upd_same]; rfl, fun q hq => ?_⟩
            rw [List.mem_singleton.mp hq]
            exact keep _ _ nNw.symm nwf hww
        · rw [List.map_append]
          refine List.nodup_append.mpr ⟨fl.keys, by simp, fun a ha b hb z => ?_⟩
          rw [List.mem_singleton.mp hb] at z
          have z : a = headW ws := z
          exact nkey (z ▸ ha)
        · rw [List.map_append]
          refine List.nodup_append.mpr ⟨fl.addr, by simp, fun a ha b hb z => ?_⟩
          obtain ⟨e, he, rfl⟩ := List.mem_map.mp ha
          rw [List.mem_singleton.mp hb] at z
          exact (f6.2 _ he).1 z.symm
        · rcases List.mem_append.mp he with he | he
          · rcases List.mem_append.mp he' with he' | he'
            · exact fl.own _ he _ he' q hq
            · rw [List.mem_singleton.mp he'] at hq
              rw [List.mem_singleton.mp hq]; exact (nwl _ he).1
          · rw [List.mem_singleton.mp he]
            rcases List.mem_append.mp he' with he' | he'
            · exact (f6.2 _ he').2 q hq
            · rw [List.mem_singleton.mp he'] at hq
              rw [List.mem_singleton.mp hq]; exact nNw.symm
        · rcases List.mem_append.mp he with he | he
          · exact fl.fresh _ he
          · rw [List.mem_singleton.mp he]; exact hN0
        · rcases List.mem_append.mp he with he | he
          · have := fl.few _ he; omega
          · rw [List.mem_singleton.mp he]; show 1 ≤ i + 1; omega
    · rintro σ H' ⟨v8, v9, l, rfl, k4, hy4, hD4, hf4, el, ll, fl⟩
      rw [List.length_map, List.take_length] at el
      refine fun kd hkd => ?_
      have nky : kd ≠ y := (ne_of_none hy4 hkd).symm
      have hkd0 : H kd = none := kfree k4 nky hkd
      have fl0 := fl
      refine ⟨_, rfl, v, _, rfl, .inr ⟨hv _, _, rfl, p, _, rfl, .inr ⟨hp _, upd_same, [(.inr "V", .ref v), (.inr "P", .ref p)], rfl, by simp, ?_⟩⟩⟩
      rw [upd_upd]
      refine ⟨_, rfl, y, GC K, dx, _, rfl, by rw [upd_ne nky.symm]; exact hy4, c_Grammar T, na_Grammar_kinds T, by simp, ?_⟩
      refine q _ (kmut k4 hkd0).at ⟨dx, D, fm, kd, v, p, upd_same, ?_, ⟨l, ?_, by rw [el, ok.fms]; rfl, fun e he => ?_⟩, ?_, ?_, ?_⟩
      · rw [upd_ne nDy, upd_ne (ne_of_none hD4 hkd)]; exact hD4
      · rw [upd_ne nfy, upd_ne (ne_of_none hf4 hkd)]; exact hf4
      · have h1 := fl0.cont e he
        have o : ∀ b xs, H' b = some (.lst xs) → upd (upd H' kd (.dK (mergeK [] [(.inr "V", .ref v), (.inr "P", .ref p)]))) y (.ins (GC K) dx (putF "kinds" (V.ref kd) [("ranks", V.ref D), ("block_rank", V.int G.block), ("forms", V.ref fm)])) b = some (.lst xs) := fun b xs hb => by
          rw [upd_ne (fun z => by rw [z, hy4] at hb; cases hb), upd_ne (ne_of_none hb hkd)]; exact hb
        exact ⟨o _ _ h1.1, fun q hq => o _ _ (h1.2 q hq)⟩
      · rw [upd_ne nky, upd_same]; rfl
      · rw [ok.vk]; exact hv _
      · rw [ok.pk]; exact hp _
end
end K88
namespace K88
open PySem PySem.Spec PyProof.Rows Cm Um
open L2 hiding Same
local macro_rules | `(tactic| walk_at "sz") => `(tactic| (apply sz1; simp only [app_len, show Str.empty.length = 0 from rfl,
  show (("tell " : Str)).length = 5 by decide +kernel, show (("set " : Str)).length = 4 by decide +kernel, show (("same " : Str)).length = 5 by decide +kernel, show (("there " : Str)).length = 6 by decide +kernel,
  show (("call " : Str)).length = 5 by decide +kernel, show ((" else " : Str)).length = 6 by decide +kernel, show ((" at " : Str)).length = 4 by decide +kernel, show ((" " : Str)).length = 1 by decide +kernel,
  show (("." : Str)).length = 1 by decide +kernel, show (("$" : Str)).length = 1 by decide +kernel, show (("#" : Str)).length = 1 by decide +kernel]; omega))
section
variable {P : Program} {w : World} {K : PySem.W.Frag} {mg : Str → Option Value} {base : Heap} {sa : Addr} {sx : List Int}
def spVt : Sp := fun vs H Q _ => ∃ t v, vs = [.ref t] ∧ Val.ok v ∧ H t = some (.tup v.vs) ∧ Q (.str v.tx) H
theorem ok_value_text (T : Tx K mg sa sx) : Cal P w K mg base 1 "value_text" spVt := by
  obtain ⟨fd, F⟩ := f_value_text T
  refine ⟨_, fd, ["value"], fnok F sc_value_text (fun vs H Q E h => ?_) (fun cdv A outer s H vs Q E hr h => ?_), F.bindsN fun _ _ _ _ _ _ us hl => match us, hl with | [_], _ => rfl, g_value_text T, F.kp⟩
  · obtain ⟨t, v, rfl, _⟩ := h; rfl
  · obtain ⟨t, v, rfl, ok, ht, k⟩ := h
    refine ⟨_, (pss_cons (ps_set (i := 1) sc_value_text.nd rfl (by first | exact Or.inl rfl | exact Or.inr rfl) (pe_ix ix_tup (pv 0) pe_int (fun _ _ => rfl)))
    (pss_cons (ps_if (pt_cmpR op_eq (pv 1) pe_str (nomark _)) (pss_one (ps_ret (pe_callTy (T := "str") call_str_int rfl (n_str T) (by decide +kernel) (pa_cons (pe_ix ix_tup (pv 0) pe_int (fun _ _ => rfl)) pa_nil)))) pss_nil)
    (pss_cons (ps_if (pt_cmpR op_eq (pv 1) pe_str (nomark _)) (pss_one (ps_ret pe_str)) pss_nil)
    (pss_cons (ps_if (pt_cmpR op_eq (pv 1) pe_str (nomark _)) (pss_one (ps_ret (pe_joined (PJ.cons (pe_fmt (pe_ix ix_tup (pv 0) pe_int (fun _ _ => rfl))) (PJ.cons pe_str (PJ.cons (pe_fmt (pe_ix ix_tup (pv 0) pe_int (fun _ _ => rfl))) PJ.nil)))))) pss_nil)
    (pss_cons (ps_if (pt_cmpR op_eq (pv 1) pe_str (nomark _)) (pss_one (ps_ret (pe_op op_add_str pe_str (pe_ix ix_tup (pv 0) pe_int (fun _ _ => rfl))))) pss_nil)
    (pss_one (ps_ret (pe_op op_add_str pe_str (pe_ix ix_tup (pv 0) pe_int (fun _ _ => rfl)))))))))), ?_⟩
    have hS := SqT.of (K := K) ht
    cases v with
    | num n =>
      refine ⟨_, rfl, t, _, 0, .str "number", rfl, rfl, hS, rfl, ?_⟩
      refine ⟨_, rfl, rfl, _, rfl, tT rfl ?_⟩
      exact ⟨_, rfl, t, _, 1, .int n, rfl, rfl, hS, rfl, n, rfl, ok.log, k⟩
    | arg =>
      refine ⟨_, rfl, t, _, 0, .str "argument", rfl, rfl, hS, rfl, ?_⟩
      refine ⟨_, rfl, rfl, _, rfl, tF (by decide +kernel) ?_⟩
      refine ⟨_, rfl, rfl, _, rfl, tT rfl ?_⟩
      exact k
    | place x n =>
      have h1 := ok.1.1
      have h2 := nt_len ok.2
      refine ⟨_, rfl, t, _, 0, .str "place", rfl, rfl, hS, rfl, ?_⟩
      refine ⟨_, rfl, rfl, _, rfl, tF (by decide +kernel) ?_⟩
      refine ⟨_, rfl, rfl, _, rfl, tF (by decide +kernel) ?_⟩
      refine ⟨_, rfl, rfl, _, rfl, tT rfl ?_⟩
      refine ⟨_, rfl, t, _, 1, .str x, rfl, rfl, hS, rfl, .inl ⟨x, rfl, sz1 (by omega), x, rfl, (by walk_at "sz"), ?_⟩⟩
      refine ⟨".", rfl, (by walk_at "sz"), ?_⟩
      refine ⟨_, rfl, t, _, 2, .int n, rfl, rfl, hS, rfl, .inr ⟨n, rfl, ok.2.log, nt n, rfl, (by walk_at "sz"), ?_⟩⟩
      show Q (.str (Str.empty ++ x ++ "." ++ nt n)) H
      rw [emp_app, app_assoc]
      exact k
    | own x =>
      have h1 := ok.1
      refine ⟨_, rfl, t, _, 0, .str "own", rfl, rfl, hS, rfl, ?_⟩
      refine ⟨_, rfl, rfl, _, rfl, tF (by decide +kernel) ?_⟩
      refine ⟨_, rfl, rfl, _, rfl, tF (by decide +kernel) ?_⟩
      refine ⟨_, rfl, rfl, _, rfl, tF (by decide +kernel) ?_⟩
      refine ⟨_, rfl, rfl, _, rfl, tT rfl ?_⟩
      refine ⟨_, rfl, t, _, 1, .str x, rfl, rfl, hS, rfl, "$", x, rfl, rfl, (by rw [show (("$" : Str)).length = 1 by decide +kernel]; exact sz1 (by omega)), k⟩
    | named x =>
      have h1 := ok.1
      refine ⟨_, rfl, t, _, 0, .str "named", rfl, rfl, hS, rfl, ?_⟩
      refine ⟨_, rfl, rfl, _, rfl, tF (by decide +kernel) ?_⟩
      refine ⟨_, rfl, rfl, _, rfl, tF (by decide +kernel) ?_⟩
      refine ⟨_, rfl, rfl, _, rfl, tF (by decide +kernel) ?_⟩
      refine ⟨_, rfl, rfl, _, rfl, tF (by decide +kernel) ?_⟩
      refine ⟨_, rfl, t, _, 1, .str x, rfl, rfl, hS, rfl, "#", x, rfl, rfl, (by rw [show (("#" : Str)).length = 1 by decide +kernel]; exact sz1 (by omega)), k⟩
end
end K88
namespace K88
open PySem PySem.Spec PyProof.Rows Cm Um
open L2 hiding Same
local macro_rules | `(tactic| walk_at "sz") => `(tactic| (apply sz1; simp only [app_len, show Str.empty.length = 0 from rfl,
  show (("tell " : Str)).length = 5 by decide +kernel, show (("set " : Str)).length = 4 by decide +kernel, show (("same " : Str)).length = 5 by decide +kernel, show (("there " : Str)).length = 6 by decide +kernel,
  show (("call " : Str)).length = 5 by decide +kernel, show ((" else " : Str)).length = 6 by decide +kernel, show ((" at " : Str)).length = 4 by decide +kernel, show ((" " : Str)).length = 1 by decide +kernel]; omega))
/-! ### what stands at an address -/
def VA (H : Hp) (t : Addr) (v : Val) : Prop := v.ok ∧ H t = some (.tup v.vs)
def MA (K : PySem.W.Frag) (H : Hp) (o : Addr) : Rw → Prop
  | .tell v => ∃ t dx, VA H t v ∧ H o = some (.ins (He.ga K "Tell") dx (putF "value" (.ref t) []))
  | .set p v => ∃ t u dx, VA H t p ∧ VA H u v ∧ H o = some (.ins (He.ga K "Put") dx (putF "value" (.ref u) (putF "place" (.ref t) [])))
  | .same a b k => ∃ t u dx, VA H t a ∧ VA H u b ∧ SmI k ∧ H o = some (.ins (He.ga K "Same") dx (putF "skip" (.int k) (putF "right" (.ref u) (putF "left" (.ref t) []))))
  | .there x k => ∃ dx, NmOk x ∧ SmI k ∧ H o = some (.ins (He.ga K "There") dx (putF "skip" (.int k) (putF "name" (.str x) [])))
  | .call x v n => ∃ u dx, NmOk x ∧ VA H u v ∧ SmI n ∧ H o = some (.ins (He.ga K "Call") dx (putF "tag" (.int n) (putF "value" (.ref u) (putF "name" (.str x) []))))
  | .fin => ∃ dx, H o = some (.ins (He.ga K "End") dx [])
section
variable {P : Program} {w : World} {K : PySem.W.Frag} {mg : Str → Option Value} {base : Heap} {sa : Addr} {sx : List Int}
/-! ### the makers -/
def spI1 (C : Addr) (f : Str) : Sp := fun vs H Q _ => ∃ o dx t xs, vs = [.ref o, .ref t] ∧ H o = some (.ins C dx []) ∧ H t = some (.tup xs) ∧ Q .non (upd H o (.ins C dx (putF f (.ref t) [])))
theorem ok_Tell_init (T : Tx K mg sa sx) : KCal P w K mg base 1 "Tell" (He.ga K "Tell") (spI1 (He.ga K "Tell") "value") [] := by
  obtain ⟨fd, F⟩ := f_Tell_init T
  refine ⟨g_Tell T, _, fd, ["self", "value"], [], m_Tell T, fnok F sc_Tell_init (fun vs H Q E h => ?_) (fun cdv A outer s H vs Q E hr h => ?_), F.bindsN fun _ _ _ _ _ _ us hl => match us, hl with | [_, _], _ => rfl, .nil⟩
  · obtain ⟨o, dx, t, xs, rfl, _⟩ := h; rfl
  · obtain ⟨o, dx, t, xs, rfl, ho, ht, k⟩ := h
    refine ⟨_, (pss_one (ps_fld (pv 0) (pe_callTy (T := "tuple") call_tuple_of rfl (n_tuple T) (by decide +kernel) (pa_cons (pv 1) pa_nil)) rfl)), ?_⟩
    exact ⟨_, rfl, t, xs, rfl, .inr ⟨SqT.of ht, _, rfl, o, _, dx, [], rfl, ho, c_Tell T, na_Tell_value T, fn0, k⟩⟩
def spI2 (C : Addr) (f g : Str) : Sp := fun vs H Q _ => ∃ o dx t xs u ys, vs = [.ref o, .ref t, .ref u] ∧ H o = some (.ins C dx []) ∧ H t = some (.tup xs) ∧ H u = some (.tup ys) ∧ Q .non (upd H o (.ins C dx (putF g (.ref u) (putF f (.ref t) []))))
theorem ok_Put_init (T : Tx K mg sa sx) : KCal P w K mg base 1 "Put" (He.ga K "Put") (spI2 (He.ga K "Put") "place" "value") [] := by
  obtain ⟨fd, F⟩ := f_Put_init T
  refine ⟨g_Put T, _, fd, ["self", "place", "value"], [], m_Put T, fnok F sc_Put_init (fun vs H Q E h => ?_) (fun cdv A outer s H vs Q E hr h => ?_), F.bindsN fun _ _ _ _ _ _ us hl => match us, hl with | [_, _, _], _ => rfl, .nil⟩
  · obtain ⟨o, dx, t, xs, u, ys, rfl, _⟩ := h; rfl
  · obtain ⟨o, dx, t, xs, u, ys, rfl, ho, ht, hu, k⟩ := h
    refine ⟨_, (pss_cons (ps_fld (pv 0) (pe_callTy (T := "tuple") call_tuple_of rfl (n_tuple T) (by decide +kernel) (pa_cons (pv 1) pa_nil)) rfl)
    (pss_one (ps_fld (pv 0) (pe_callTy (T := "tuple") call_tuple_of rfl (n_tuple T) (by decide +kernel) (pa_cons (pv 2) pa_nil)) rfl))), ?_⟩
    have nu : u ≠ o := ne_of hu ho (by intro z; cases z)
    refine ⟨_, rfl, t, xs, rfl, .inr ⟨SqT.of ht, _, rfl, o, _, dx, [], rfl, ho, c_Put T, na_Put_place T, fn0, ?_⟩⟩
    refine ⟨_, rfl, u, ys, rfl, .inr ⟨SqT.of ((upd_ne nu).trans hu), _, rfl, o, _, dx, _, rfl, upd_same, c_Put T, na_Put_value T, fnS fs0, ?_⟩⟩
    rw [upd_upd]
    exact k
def spI3 (C : Addr) : Sp := fun vs H Q _ => ∃ o dx t xs u ys n, vs = [.ref o, .ref t, .ref u, .int n] ∧ H o = some (.ins C dx []) ∧ H t = some (.tup xs) ∧ H u = some (.tup ys) ∧
  Q .non (upd H o (.ins C dx (putF "skip" (.int n) (putF "right" (.ref u) (putF "left" (.ref t) [])))))
theorem ok_Same_init (T : Tx K mg sa sx) : KCal P w K mg base 1 "Same" (He.ga K "Same") (spI3 (He.ga K "Same")) [] := by
  obtain ⟨fd, F⟩ := f_Same_init T
  refine ⟨g_Same T, _, fd, ["self", "left", "right", "skip"], [], m_Same T, fnok F sc_Same_init (fun vs H Q E h => ?_) (fun cdv A outer s H vs Q E hr h => ?_), F.bindsN fun _ _ _ _ _ _ us hl => match us, hl with | [_, _, _, _], _ => rfl, .nil⟩
  · obtain ⟨o, dx, t, xs, u, ys, n, rfl, _⟩ := h; rfl
  · obtain ⟨o, dx, t, xs, u, ys, n, rfl, ho, ht, hu, k⟩ := h
    refine ⟨_, (pss_cons (ps_fld (pv 0) (pe_callTy (T := "tuple") call_tuple_of rfl (n_tuple T) (by decide +kernel) (pa_cons (pv 1) pa_nil)) rfl)
    (pss_cons (ps_fld (pv 0) (pe_callTy (T := "tuple") call_tuple_of rfl (n_tuple T) (by decide +kernel) (pa_cons (pv 2) pa_nil)) rfl)
    (pss_one (ps_fld (pv 0) (pv 3) rfl)))), ?_⟩
    have nu : u ≠ o := ne_of hu ho (by intro z; cases z)
    refine ⟨_, rfl, t, xs, rfl, .inr ⟨SqT.of ht, _, rfl, o, _, dx, [], rfl, ho, c_Same T, na_Same_left T, fn0, ?_⟩⟩
    refine ⟨_, rfl, u, ys, rfl, .inr ⟨SqT.of ((upd_ne nu).trans hu), _, rfl, o, _, dx, _, rfl, upd_same, c_Same T, na_Same_right T, fnS fs0, ?_⟩⟩
    rw [upd_upd]
    refine ⟨_, rfl, _, rfl, o, _, dx, _, rfl, upd_same, c_Same T, na_Same_skip T, fnS (fs1 (by decide)), ?_⟩
    rw [upd_upd]
    exact k
def spI4 (C : Addr) : Sp := fun vs H Q _ => ∃ o dx x n, vs = [.ref o, .str x, .int n] ∧ H o = some (.ins C dx []) ∧ Q .non (upd H o (.ins C dx (putF "skip" (.int n) (putF "name" (.str x) []))))
theorem ok_There_init (T : Tx K mg sa sx) : KCal P w K mg base 1 "There" (He.ga K "There") (spI4 (He.ga K "There")) [] := by
  obtain ⟨fd, F⟩ := f_There_init T
  refine ⟨g_There T, _, fd, ["self", "name", "skip"], [], m_There T, fnok F sc_There_init (fun vs H Q E h => ?_) (fun cdv A outer s H vs Q E hr h => ?_), F.bindsN fun _ _ _ _ _ _ us hl => match us, hl with | [_, _, _], _ => rfl, .nil⟩
  · obtain ⟨o, dx, x, n, rfl, _⟩ := h; rfl
  · obtain ⟨o, dx, x, n, rfl, ho, k⟩ := h
    refine ⟨_, (pss_cons (ps_fld (pv 0) (pv 1) rfl)
    (pss_one (ps_fld (pv 0) (pv 2) rfl))), ?_⟩
    refine ⟨_, rfl, _, rfl, o, _, dx, [], rfl, ho, c_There T, na_There_name T, fn0, ?_⟩
    refine ⟨_, rfl, _, rfl, o, _, dx, _, rfl, upd_same, c_There T, na_There_skip T, fnS fs0, ?_⟩
    rw [upd_upd]
    exact k
def spI5 (C : Addr) : Sp := fun vs H Q _ => ∃ o dx x u ys n, vs = [.ref o, .str x, .ref u, .int n] ∧ H o = some (.ins C dx []) ∧ H u = some (.tup ys) ∧
  Q .non (upd H o (.ins C dx (putF "tag" (.int n) (putF "value" (.ref u) (putF "name" (.str x) [])))))
theorem call_init (T : Tx K mg sa sx) {fd : FuncData} (F : FunD K "__init__" "Call.__init__" (defArgs s_Call_init) (defBody s_Call_init) (defScope s_Call_init) [V.int 0] [] (He.ma K (He.ga K "Call") "__init__") fd) :
    FnOk P w K mg base CX0 1 (He.ma K (He.ga K "Call") "__init__") fd ["self", "name", "value", "tag"] (spI5 (He.ga K "Call")) := by
  refine fnok F sc_Call_init (fun vs H Q E h => ?_) (fun cdv A outer s H vs Q E hr h => ?_)
  · obtain ⟨o, dx, x, u, ys, n, rfl, _⟩ := h; rfl
  · obtain ⟨o, dx, x, u, ys, n, rfl, ho, hu, k⟩ := h
    refine ⟨_, (pss_cons (ps_fld (pv 0) (pv 1) rfl)
    (pss_cons (ps_fld (pv 0) (pe_callTy (T := "tuple") call_tuple_of rfl (n_tuple T) (by decide +kernel) (pa_cons (pv 2) pa_nil)) rfl)
    (pss_one (ps_fld (pv 0) (pv 3) rfl)))), ?_⟩
    have nu : u ≠ o := ne_of hu ho (by intro z; cases z)
    refine ⟨_, rfl, _, rfl, o, _, dx, [], rfl, ho, c_Call T, na_Call_name T, fn0, ?_⟩
    refine ⟨_, rfl, u, ys, rfl, .inr ⟨SqT.of ((upd_ne nu).trans hu), _, rfl, o, _, dx, _, rfl, upd_same, c_Call T, na_Call_value T, fnS fs0, ?_⟩⟩
    rw [upd_upd]
    refine ⟨_, rfl, _, rfl, o, _, dx, _, rfl, upd_same, c_Call T, na_Call_tag T, fnS (fs1 (by decide)), ?_⟩
    rw [upd_upd]
    exact k
theorem ok_Call_init (T : Tx K mg sa sx) : KCal P w K mg base 1 "Call" (He.ga K "Call") (spI5 (He.ga K "Call")) [] := by
  obtain ⟨fd, F⟩ := f_Call_init T
  obtain ⟨ds, v, b⟩ := F.binds1 (ps := ["self", "name", "value", "tag"]) 4 1 (by simp) rfl fun _ _ _ _ _ _ _ us its hl h1 => match us, its, hl, h1 with | [_, _, _, _], [_], _, _ => ⟨_, rfl, rfl⟩
  exact ⟨g_Call T, _, fd, ["self", "name", "value", "tag"], ds, m_Call T, call_init T F, b, v⟩
theorem ok_Call_init3 (T : Tx K mg sa sx) : KCal P w K mg base 1 "Call" (He.ga K "Call") (spI5 (He.ga K "Call")) [.int 0] := by
  obtain ⟨fd, F⟩ := f_Call_init T
  obtain ⟨ds, v, b⟩ := F.binds1 (ps := ["self", "name", "value", "tag"]) 3 0 (by simp) rfl fun _ _ _ _ _ _ _ us its hl h1 => match us, its, hl, h1 with | [_, _, _], [_], _, _ => ⟨_, rfl, rfl⟩
  exact ⟨g_Call T, _, fd, ["self", "name", "value", "tag"], ds, m_Call T, call_init T F, b, v⟩
end
end K88
namespace K88
open PySem PySem.Spec PyProof.Rows Cm Um
open L2 hiding Same
local macro_rules | `(tactic| walk_at "sz") => `(tactic| (apply sz1; simp only [app_len, show Str.empty.length = 0 from rfl,
  show (("tell " : Str)).length = 5 by decide +kernel, show (("set " : Str)).length = 4 by decide +kernel, show (("same " : Str)).length = 5 by decide +kernel, show (("there " : Str)).length = 6 by decide +kernel,
  show (("call " : Str)).length = 5 by decide +kernel, show ((" else " : Str)).length = 6 by decide +kernel, show ((" at " : Str)).length = 4 by decide +kernel, show ((" " : Str)).length = 1 by decide +kernel]; omega))
section
variable {P : Program} {w : World} {K : PySem.W.Frag} {mg : Str → Option Value} {base : Heap} {sa : Addr} {sx : List Int}
theorem va_dp {H : Hp} {t : Addr} {v : Val} (h : VA H t v) : Dp K H (.ref t) (.tuple v.ds) := by
  refine .tup (SqT.of h.2) ?_
  cases v with
  | num n => exact .cons (.str _) (.cons (.int _) .nil)
  | arg => exact .cons (.str _) .nil
  | place x k => exact .cons (.str _) (.cons (.str _) (.cons (.int _) .nil))
  | own x => exact .cons (.str _) (.cons (.str _) .nil)
  | named x => exact .cons (.str _) (.cons (.str _) .nil)
theorem cndV {A B : Prop} {a b : Val} (hT : a = b → A) (hF : a ≠ b → B) : if PyData.eqv (.tuple a.ds) (.tuple b.ds) = true then A else B := by
  rw [eqv_val]
  by_cases h : a = b
  · exact tT h (hT h)
  · exact tF h (hF h)
theorem ma_ins {H : Hp} {o : Addr} {r : Rw} (m : MA K H o r) : ∃ dx fs, H o = some (.ins (He.ga K r.cn) dx fs) := by
  cases r with
  | tell v => obtain ⟨t, dx, hv, ho⟩ := m; exact ⟨_, _, ho⟩
  | set p v => obtain ⟨t, u, dx, hp, hv, ho⟩ := m; exact ⟨_, _, ho⟩
  | same a b n => obtain ⟨t, u, dx, ha, hb, hn, ho⟩ := m; exact ⟨_, _, ho⟩
  | there x n => obtain ⟨dx, hx, hn, ho⟩ := m; exact ⟨_, _, ho⟩
  | call x v n => obtain ⟨u, dx, hx, hv, hn, ho⟩ := m; exact ⟨_, _, ho⟩
  | fin => obtain ⟨dx, ho⟩ := m; exact ⟨_, _, ho⟩
theorem ma_ty (T : Tx K mg sa sx) {H : Hp} {o : Addr} {r : Rw} (m : MA K H o r) : TyX K H (.ref o) (.ref (He.ga K r.cn)) := by
  obtain ⟨dx, fs, e⟩ := ma_ins m
  cases r with
  | tell v => exact .base (.ins e (c_Tell T) (x_cc_Tell T) (x_cget T) (x_ctak T) (x_mro_Tell T))
  | set p v => exact .base (.ins e (c_Put T) (x_cc_Put T) (x_cget T) (x_ctak T) (x_mro_Put T))
  | same a b n => exact .base (.ins e (c_Same T) (x_cc_Same T) (x_cget T) (x_ctak T) (x_mro_Same T))
  | there x n => exact .base (.ins e (c_There T) (x_cc_There T) (x_cget T) (x_ctak T) (x_mro_There T))
  | call x v n => exact .base (.ins e (c_Call T) (x_cc_Call T) (x_cget T) (x_ctak T) (x_mro_Call T))
  | fin => exact .base (.ins e (c_End T) (x_cc_End T) (x_cget T) (x_ctak T) (x_mro_End T))
def spTx (K : PySem.W.Frag) (f : Rw → Prop) : Sp := fun vs H Q _ => ∃ o r, f r ∧ vs = [.ref o] ∧ MA K H o r ∧ Q (.str r.tx) H
def spOp (K : PySem.W.Frag) (f : Rw → Prop) : Sp := fun vs H Q _ => ∃ o r, f r ∧ vs = [.ref o] ∧ MA K H o r ∧ ∀ l xs, H l = none → xs.length ≤ 2 → DpAll K H xs r.opd → Q (.ref l) (upd H l (.lst xs))
def spEq (K : PySem.W.Frag) (f : Rw → Prop) : Sp := fun vs H Q _ => ∃ o r y, f r ∧ vs = [.ref o, y] ∧ MA K H o r ∧ ((∃ o' r', y = .ref o' ∧ MA K H o' r' ∧ Q (.bl (decide (r = r'))) H) ∨ ∃ z, y = .str z ∧ Q (.bl false) H)
theorem ok_Tell_text (T : Tx K mg sa sx) : MCal P w K mg base 2 (He.ga K "Tell") "text" (spTx K (fun r => ∃ v, r = Rw.tell v)) := by
  obtain ⟨fd, F⟩ := f_Tell_text T
  refine ⟨c_Tell T, _, fd, ["self"], fnok F sc_Tell_text (fun vs H Q E h => ?_) (fun cdv A outer s H vs Q E hr h => ?_), F.bindsN fun _ _ _ _ _ _ us hl => match us, hl with | [_], _ => rfl, me_Tell_text T⟩
  · obtain ⟨o, r, _, rfl, _⟩ := h; rfl
  · obtain ⟨o, _, ⟨v, rfl⟩, rfl, m, k⟩ := h
    obtain ⟨t, dx, hv, ho⟩ := m
    refine ⟨_, (pss_one (ps_ret (pe_joined (PJ.cons pe_str (PJ.cons (pe_fmt (pe_cal (ok_value_text T) hr (by decide) (pa_cons (pe_fld (pv 0) rfl) pa_nil))) PJ.nil))))), ?_⟩
    have h1 := Val.tx_len hv.1
    refine ⟨_, rfl, (by walk_at "sz"), ?_⟩
    refine ⟨_, rfl, o, _, dx, _, _, rfl, ho, c_Tell T, na_Tell_value T, fl1, t, v, rfl, hv.1, hv.2, .inl ⟨_, rfl, sz1 (by omega), _, rfl, (by walk_at "sz"), ?_⟩⟩
    show Q (.str (Str.empty ++ "tell " ++ v.tx)) H
    rw [emp_app]
    exact k
theorem ok_Put_text (T : Tx K mg sa sx) : MCal P w K mg base 2 (He.ga K "Put") "text" (spTx K (fun r => ∃ p v, r = Rw.set p v)) := by
  obtain ⟨fd, F⟩ := f_Put_text T
  refine ⟨c_Put T, _, fd, ["self"], fnok F sc_Put_text (fun vs H Q E h => ?_) (fun cdv A outer s H vs Q E hr h => ?_), F.bindsN fun _ _ _ _ _ _ us hl => match us, hl with | [_], _ => rfl, me_Put_text T⟩
  · obtain ⟨o, r, _, rfl, _⟩ := h; rfl
  · obtain ⟨o, _, ⟨p, v, rfl⟩, rfl, m, k⟩ := h
    obtain ⟨t, u, dx, hp, hv, ho⟩ := m
    refine ⟨_, (pss_one (ps_ret (pe_joined (PJ.cons pe_str (PJ.cons (pe_fmt (pe_cal (ok_value_text T) hr (by decide) (pa_cons (pe_fld (pv 0) rfl) pa_nil))) (PJ.cons pe_str (PJ.cons (pe_fmt (pe_cal (ok_value_text T) hr (by decide) (pa_cons (pe_fld (pv 0) rfl) pa_nil))) PJ.nil))))))), ?_⟩
    have h1 := Val.tx_len hp.1
    have h2 := Val.tx_len hv.1
    refine ⟨_, rfl, (by walk_at "sz"), ?_⟩
    refine ⟨_, rfl, o, _, dx, _, _, rfl, ho, c_Put T, na_Put_place T, (fl2 (by decide +kernel) fl1), t, p, rfl, hp.1, hp.2, .inl ⟨_, rfl, sz1 (by omega), _, rfl, (by walk_at "sz"), ?_⟩⟩
    refine ⟨_, rfl, (by walk_at "sz"), ?_⟩
    refine ⟨_, rfl, o, _, dx, _, _, rfl, ho, c_Put T, na_Put_value T, fl1, u, v, rfl, hv.1, hv.2, .inl ⟨_, rfl, sz1 (by omega), _, rfl, (by walk_at "sz"), ?_⟩⟩
    show Q (.str (Str.empty ++ "set " ++ p.tx ++ " " ++ v.tx)) H
    rw [emp_app, app_assoc, app_assoc]
    exact k
theorem ok_Same_text (T : Tx K mg sa sx) : MCal P w K mg base 2 (He.ga K "Same") "text" (spTx K (fun r => ∃ a b n, r = Rw.same a b n)) := by
  obtain ⟨fd, F⟩ := f_Same_text T
  refine ⟨c_Same T, _, fd, ["self"], fnok F sc_Same_text (fun vs H Q E h => ?_) (fun cdv A outer s H vs Q E hr h => ?_), F.bindsN fun _ _ _ _ _ _ us hl => match us, hl with | [_], _ => rfl, me_Same_text T⟩
  · obtain ⟨o, r, _, rfl, _⟩ := h; rfl
  · obtain ⟨o, _, ⟨a, b, n, rfl⟩, rfl, m, k⟩ := h
    obtain ⟨t, u, dx, ha, hb, hn, ho⟩ := m
    refine ⟨_, (pss_one (ps_ret (pe_joined (PJ.cons pe_str (PJ.cons (pe_fmt (pe_cal (ok_value_text T) hr (by decide) (pa_cons (pe_fld (pv 0) rfl) pa_nil))) (PJ.cons pe_str (PJ.cons (pe_fmt (pe_cal (ok_value_text T) hr (by decide) (pa_cons (pe_fld (pv 0) rfl) pa_nil))) (PJ.cons pe_str (PJ.cons (pe_fmt (pe_fld (pv 0) rfl)) PJ.nil))))))))), ?_⟩
    have h1 := Val.tx_len ha.1
    have h2 := Val.tx_len hb.1
    have h3 := nt_len hn
    refine ⟨_, rfl, (by walk_at "sz"), ?_⟩
    refine ⟨_, rfl, o, _, dx, _, _, rfl, ho, c_Same T, na_Same_left T, (fl2 (by decide +kernel) (fl2 (by decide +kernel) fl1)), t, a, rfl, ha.1, ha.2, .inl ⟨_, rfl, sz1 (by omega), _, rfl, (by walk_at "sz"), ?_⟩⟩
    refine ⟨_, rfl, (by walk_at "sz"), ?_⟩
    refine ⟨_, rfl, o, _, dx, _, _, rfl, ho, c_Same T, na_Same_right T, (fl2 (by decide +kernel) fl1), u, b, rfl, hb.1, hb.2, .inl ⟨_, rfl, sz1 (by omega), _, rfl, (by walk_at "sz"), ?_⟩⟩
    refine ⟨_, rfl, (by walk_at "sz"), ?_⟩
    refine ⟨_, rfl, o, _, dx, _, _, rfl, ho, c_Same T, na_Same_skip T, fl1, .inr ⟨n, rfl, hn.log, nt n, rfl, (by walk_at "sz"), ?_⟩⟩
    show Q (.str (Str.empty ++ "same " ++ a.tx ++ " " ++ b.tx ++ " else " ++ nt n)) H
    rw [emp_app, app_assoc, app_assoc, app_assoc, app_assoc]
    exact k
theorem ok_There_text (T : Tx K mg sa sx) : MCal P w K mg base 1 (He.ga K "There") "text" (spTx K (fun r => ∃ x n, r = Rw.there x n)) := by
  obtain ⟨fd, F⟩ := f_There_text T
  refine ⟨c_There T, _, fd, ["self"], fnok F sc_There_text (fun vs H Q E h => ?_) (fun cdv A outer s H vs Q E hr h => ?_), F.bindsN fun _ _ _ _ _ _ us hl => match us, hl with | [_], _ => rfl, me_There_text T⟩
  · obtain ⟨o, r, _, rfl, _⟩ := h; rfl
  · obtain ⟨o, _, ⟨x, n, rfl⟩, rfl, m, k⟩ := h
    obtain ⟨dx, hx, hn, ho⟩ := m
    refine ⟨_, (pss_one (ps_ret (pe_joined (PJ.cons pe_str (PJ.cons (pe_fmt (pe_fld (pv 0) rfl)) (PJ.cons pe_str (PJ.cons (pe_fmt (pe_fld (pv 0) rfl)) PJ.nil))))))), ?_⟩
    have h1 := hx.1
    have h3 := nt_len hn
    refine ⟨_, rfl, (by walk_at "sz"), ?_⟩
    refine ⟨_, rfl, o, _, dx, _, _, rfl, ho, c_There T, na_There_name T, (fl2 (by decide +kernel) fl1), .inl ⟨x, rfl, sz1 (by omega), x, rfl, (by walk_at "sz"), ?_⟩⟩
    refine ⟨_, rfl, (by walk_at "sz"), ?_⟩
    refine ⟨_, rfl, o, _, dx, _, _, rfl, ho, c_There T, na_There_skip T, fl1, .inr ⟨n, rfl, hn.log, nt n, rfl, (by walk_at "sz"), ?_⟩⟩
    show Q (.str (Str.empty ++ "there " ++ x ++ " else " ++ nt n)) H
    rw [emp_app, app_assoc, app_assoc]
    exact k
theorem ok_Call_text (T : Tx K mg sa sx) : MCal P w K mg base 2 (He.ga K "Call") "text" (spTx K (fun r => ∃ x v n, r = Rw.call x v n)) := by
  obtain ⟨fd, F⟩ := f_Call_text T
  refine ⟨c_Call T, _, fd, ["self"], fnok F sc_Call_text (fun vs H Q E h => ?_) (fun cdv A outer s H vs Q E hr h => ?_), F.bindsN fun _ _ _ _ _ _ us hl => match us, hl with | [_], _ => rfl, me_Call_text T⟩
  · obtain ⟨o, r, _, rfl, _⟩ := h; rfl
  · obtain ⟨o, _, ⟨x, v, n, rfl⟩, rfl, m, k⟩ := h
    obtain ⟨u, dx, hx, hv, hn, ho⟩ := m
    refine ⟨_, (pss_cons (ps_set (i := 1) sc_Call_text.nd rfl (by first | exact Or.inl rfl | exact Or.inr rfl) (pe_joined (PJ.cons pe_str (PJ.cons (pe_fmt (pe_fld (pv 0) rfl)) (PJ.cons pe_str (PJ.cons (pe_fmt (pe_cal (ok_value_text T) hr (by decide) (pa_cons (pe_fld (pv 0) rfl) pa_nil))) PJ.nil))))))
    (pss_one (ps_ret (pe_ifExp (pt_cmpR op_eq (pe_fld (pv 0) rfl) pe_int (nomark _)) (pv 1) (pe_joined (PJ.cons (pe_fmt (pv 1)) (PJ.cons pe_str (PJ.cons (pe_fmt (pe_fld (pv 0) rfl)) PJ.nil)))))))), ?_⟩
    have h1 := hx.1
    have h2 := Val.tx_len hv.1
    have h3 := nt_len hn
    refine ⟨_, rfl, (by walk_at "sz"), ?_⟩
    refine ⟨_, rfl, o, _, dx, _, _, rfl, ho, c_Call T, na_Call_name T, (fl2 (by decide +kernel) (fl2 (by decide +kernel) fl1)), .inl ⟨x, rfl, sz1 (by omega), x, rfl, (by walk_at "sz"), ?_⟩⟩
    refine ⟨_, rfl, (by walk_at "sz"), ?_⟩
    refine ⟨_, rfl, o, _, dx, _, _, rfl, ho, c_Call T, na_Call_value T, (fl2 (by decide +kernel) fl1), u, v, rfl, hv.1, hv.2, .inl ⟨_, rfl, sz1 (by omega), _, rfl, (by walk_at "sz"), ?_⟩⟩
    refine ⟨_, rfl, o, _, dx, _, _, rfl, ho, c_Call T, na_Call_tag T, fl1, rfl, _, rfl, ?_⟩
    have e1 : Str.empty ++ "call " ++ x ++ " " ++ v.tx = "call " ++ (x ++ (" " ++ v.tx)) := by rw [emp_app, app_assoc, app_assoc]
    by_cases c : n = 0
    · refine tT (by rw [c]) ⟨_, rfl, ?_⟩
      show Q (.str (Str.empty ++ "call " ++ x ++ " " ++ v.tx)) H
      rw [e1]
      have e2 : (Rw.call x v n).tx = "call " ++ (x ++ (" " ++ v.tx)) := if_pos c
      rw [e2] at k
      exact k
    · refine tF (by intro z; exact c (V.int.inj z)) ⟨_, rfl, .inl ⟨Str.empty ++ "call " ++ x ++ " " ++ v.tx, rfl, (by walk_at "sz"), _, rfl, (by walk_at "sz"), ?_⟩⟩
      refine ⟨_, rfl, (by walk_at "sz"), ?_⟩
      refine ⟨_, rfl, o, _, dx, _, _, rfl, ho, c_Call T, na_Call_tag T, fl1, .inr ⟨n, rfl, hn.log, nt n, rfl, (by walk_at "sz"), ?_⟩⟩
      show Q (.str (Str.empty ++ (Str.empty ++ "call " ++ x ++ " " ++ v.tx) ++ " at " ++ nt n)) H
      have e2 : (Rw.call x v n).tx = "call " ++ (x ++ (" " ++ (v.tx ++ (" at " ++ nt n)))) := if_neg c
      rw [e2] at k
      rw [emp_app, e1, app_assoc, app_assoc, app_assoc, app_assoc]
      exact k
theorem ok_End_text (T : Tx K mg sa sx) : MCal P w K mg base 1 (He.ga K "End") "text" (spTx K (fun r => r = Rw.fin)) := by
  obtain ⟨fd, F⟩ := f_End_text T
  refine ⟨c_End T, _, fd, ["self"], fnok F sc_End_text (fun vs H Q E h => ?_) (fun cdv A outer s H vs Q E hr h => ?_), F.bindsN fun _ _ _ _ _ _ us hl => match us, hl with | [_], _ => rfl, me_End_text T⟩
  · obtain ⟨o, r, _, rfl, _⟩ := h; rfl
  · obtain ⟨o, _, rfl, rfl, m, k⟩ := h
    obtain ⟨dx, ho⟩ := m
    refine ⟨_, (pss_one (ps_ret pe_str)), ?_⟩
    exact k
theorem ok_Tell_operands (T : Tx K mg sa sx) : MCal P w K mg base 1 (He.ga K "Tell") "operands" (spOp K (fun r => ∃ v, r = Rw.tell v)) := by
  obtain ⟨fd, F⟩ := f_Tell_operands T
  refine ⟨c_Tell T, _, fd, ["self"], fnok F sc_Tell_operands (fun vs H Q E h => ?_) (fun cdv A outer s H vs Q E hr h => ?_), F.bindsN fun _ _ _ _ _ _ us hl => match us, hl with | [_], _ => rfl, me_Tell_operands T⟩
  · obtain ⟨o, r, _, rfl, _⟩ := h; rfl
  · obtain ⟨o, _, ⟨v, rfl⟩, rfl, m, k⟩ := h
    obtain ⟨t, dx, hv, ho⟩ := m
    refine ⟨_, (pss_one (ps_ret (pe_lst (pa_cons (pe_fld (pv 0) rfl) pa_nil)))), ?_⟩
    exact ⟨_, rfl, o, _, dx, _, _, rfl, ho, c_Tell T, na_Tell_value T, fl1, sz1 (by simp), fun l hl => k l _ hl (by simp) (.cons (va_dp hv) .nil)⟩
theorem ok_Put_operands (T : Tx K mg sa sx) : MCal P w K mg base 1 (He.ga K "Put") "operands" (spOp K (fun r => ∃ p v, r = Rw.set p v)) := by
  obtain ⟨fd, F⟩ := f_Put_operands T
  refine ⟨c_Put T, _, fd, ["self"], fnok F sc_Put_operands (fun vs H Q E h => ?_) (fun cdv A outer s H vs Q E hr h => ?_), F.bindsN fun _ _ _ _ _ _ us hl => match us, hl with | [_], _ => rfl, me_Put_operands T⟩
  · obtain ⟨o, r, _, rfl, _⟩ := h; rfl
  · obtain ⟨o, _, ⟨p, v, rfl⟩, rfl, m, k⟩ := h
    obtain ⟨t, u, dx, hp, hv, ho⟩ := m
    refine ⟨_, (pss_one (ps_ret (pe_lst (pa_cons (pe_fld (pv 0) rfl) (pa_cons (pe_fld (pv 0) rfl) pa_nil))))), ?_⟩
    exact ⟨_, rfl, o, _, dx, _, _, rfl, ho, c_Put T, na_Put_place T, (fl2 (by decide +kernel) fl1), _, rfl, o, _, dx, _, _, rfl, ho, c_Put T, na_Put_value T, fl1, sz1 (by simp), fun l hl => k l _ hl (by simp) (.cons (va_dp hp) (.cons (va_dp hv) .nil))⟩
theorem ok_Same_operands (T : Tx K mg sa sx) : MCal P w K mg base 1 (He.ga K "Same") "operands" (spOp K (fun r => ∃ a b n, r = Rw.same a b n)) := by
  obtain ⟨fd, F⟩ := f_Same_operands T
  refine ⟨c_Same T, _, fd, ["self"], fnok F sc_Same_operands (fun vs H Q E h => ?_) (fun cdv A outer s H vs Q E hr h => ?_), F.bindsN fun _ _ _ _ _ _ us hl => match us, hl with | [_], _ => rfl, me_Same_operands T⟩
  · obtain ⟨o, r, _, rfl, _⟩ := h; rfl
  · obtain ⟨o, _, ⟨a, b, n, rfl⟩, rfl, m, k⟩ := h
    obtain ⟨t, u, dx, ha, hb, hn, ho⟩ := m
    refine ⟨_, (pss_one (ps_ret (pe_lst (pa_cons (pe_fld (pv 0) rfl) (pa_cons (pe_fld (pv 0) rfl) pa_nil))))), ?_⟩
    exact ⟨_, rfl, o, _, dx, _, _, rfl, ho, c_Same T, na_Same_left T, (fl2 (by decide +kernel) (fl2 (by decide +kernel) fl1)), _, rfl, o, _, dx, _, _, rfl, ho, c_Same T, na_Same_right T, (fl2 (by decide +kernel) fl1), sz1 (by simp), fun l hl => k l _ hl (by simp) (.cons (va_dp ha) (.cons (va_dp hb) .nil))⟩
theorem ok_There_operands (T : Tx K mg sa sx) : MCal P w K mg base 1 (He.ga K "There") "operands" (spOp K (fun r => ∃ x n, r = Rw.there x n)) := by
  obtain ⟨fd, F⟩ := f_There_operands T
  refine ⟨c_There T, _, fd, ["self"], fnok F sc_There_operands (fun vs H Q E h => ?_) (fun cdv A outer s H vs Q E hr h => ?_), F.bindsN fun _ _ _ _ _ _ us hl => match us, hl with | [_], _ => rfl, me_There_operands T⟩
  · obtain ⟨o, r, _, rfl, _⟩ := h; rfl
  · obtain ⟨o, _, ⟨x, n, rfl⟩, rfl, m, k⟩ := h
    obtain ⟨dx, hx, hn, ho⟩ := m
    refine ⟨_, (pss_one (ps_ret (pe_lst pa_nil))), ?_⟩
    exact ⟨sz1 (by simp), fun l hl => k l _ hl (by simp) .nil⟩
theorem ok_Call_operands (T : Tx K mg sa sx) : MCal P w K mg base 1 (He.ga K "Call") "operands" (spOp K (fun r => ∃ x v n, r = Rw.call x v n)) := by
  obtain ⟨fd, F⟩ := f_Call_operands T
  refine ⟨c_Call T, _, fd, ["self"], fnok F sc_Call_operands (fun vs H Q E h => ?_) (fun cdv A outer s H vs Q E hr h => ?_), F.bindsN fun _ _ _ _ _ _ us hl => match us, hl with | [_], _ => rfl, me_Call_operands T⟩
  · obtain ⟨o, r, _, rfl, _⟩ := h; rfl
  · obtain ⟨o, _, ⟨x, v, n, rfl⟩, rfl, m, k⟩ := h
    obtain ⟨u, dx, hx, hv, hn, ho⟩ := m
    refine ⟨_, (pss_one (ps_ret (pe_lst (pa_cons (pe_fld (pv 0) rfl) pa_nil)))), ?_⟩
    exact ⟨_, rfl, o, _, dx, _, _, rfl, ho, c_Call T, na_Call_value T, (fl2 (by decide +kernel) fl1), sz1 (by simp), fun l hl => k l _ hl (by simp) (.cons (va_dp hv) .nil)⟩
theorem ok_End_operands (T : Tx K mg sa sx) : MCal P w K mg base 1 (He.ga K "End") "operands" (spOp K (fun r => r = Rw.fin)) := by
  obtain ⟨fd, F⟩ := f_End_operands T
  refine ⟨c_End T, _, fd, ["self"], fnok F sc_End_operands (fun vs H Q E h => ?_) (fun cdv A outer s H vs Q E hr h => ?_), F.bindsN fun _ _ _ _ _ _ us hl => match us, hl with | [_], _ => rfl, me_End_operands T⟩
  · obtain ⟨o, r, _, rfl, _⟩ := h; rfl
  · obtain ⟨o, _, rfl, rfl, m, k⟩ := h
    obtain ⟨dx, ho⟩ := m
    refine ⟨_, (pss_one (ps_ret (pe_lst pa_nil))), ?_⟩
    exact ⟨sz1 (by simp), fun l hl => k l _ hl (by simp) .nil⟩
theorem ok_Tell_eq (T : Tx K mg sa sx) : MCal P w K mg base 1 (He.ga K "Tell") "__eq__" (spEq K (fun r => ∃ v, r = Rw.tell v)) := by
  obtain ⟨fd, F⟩ := f_Tell_eq T
  refine ⟨c_Tell T, _, fd, ["self", "other"], fnok F sc_Tell_eq (fun vs H Q E h => ?_) (fun cdv A outer s H vs Q E hr h => ?_), F.bindsN fun _ _ _ _ _ _ us hl => match us, hl with | [_, _], _ => rfl, me_Tell_eq T⟩
  · obtain ⟨o, r, y, _, rfl, _⟩ := h; rfl
  · obtain ⟨o, _, y, ⟨v, rfl⟩, rfl, m, k⟩ := h
    refine ⟨_, (pss_one (ps_ret (pe_and (pe_callB (id := "isinstance") (r := rIsi K) call_isi rfl (n_isinstance T) (by decide +kernel) (pa_cons (pv 1) (pa_cons (pe_glob (v := .ref _) rfl (g_Tell T) rfl) pa_nil))) (pe_one (pe_cmpR (op_eqD hr.units) (pe_fld (pv 0) rfl) (pe_fld (pv 1) rfl) (nomark _)))))), ?_⟩
    rcases k with ⟨o', r', rfl, m', k⟩ | ⟨z, rfl, k⟩
    · have ty := ma_ty T m'
      cases r' with
      | tell v' =>
        obtain ⟨t, dx, hv, ho⟩ := m
        obtain ⟨t', dx', hv', ho'⟩ := m'
        refine ⟨_, rfl, .ref o', .ref (He.ga K "Tell"), _, _, true, rfl, .own _, ty, x_kit_Tell_Tell T, true, rfl, iteT ?_⟩
        refine ⟨_, rfl, o, _, dx, _, _, rfl, ho, c_Tell T, na_Tell_value T, fl1, _, rfl, o', _, dx', _, _, rfl, ho', c_Tell T, na_Tell_value T, fl1, .tuple v.ds, .tuple v'.ds, va_dp hv, va_dp hv', Val.shp hv.1, Val.shp hv'.1, ?_⟩
        show Q (.bl (PyData.eqv (.tuple v.ds) (.tuple v'.ds))) H
        have e : (PyData.eqv (.tuple v.ds) (.tuple v'.ds)) = decide (Rw.tell v = Rw.tell v') := by
          rw [eqv_val]
          exact decide_eq_decide.mpr ⟨fun z => by cases z; rfl, fun z => by cases z; rfl⟩
        rw [e]
        exact k
      | set p v => exact ⟨_, rfl, .ref o', .ref (He.ga K "Tell"), _, _, false, rfl, .own _, ty, x_kit_Put_Tell T, false, rfl, iteF k⟩
      | same a b n => exact ⟨_, rfl, .ref o', .ref (He.ga K "Tell"), _, _, false, rfl, .own _, ty, x_kit_Same_Tell T, false, rfl, iteF k⟩
      | there x n => exact ⟨_, rfl, .ref o', .ref (He.ga K "Tell"), _, _, false, rfl, .own _, ty, x_kit_There_Tell T, false, rfl, iteF k⟩
      | call x v n => exact ⟨_, rfl, .ref o', .ref (He.ga K "Tell"), _, _, false, rfl, .own _, ty, x_kit_Call_Tell T, false, rfl, iteF k⟩
      | fin => exact ⟨_, rfl, .ref o', .ref (He.ga K "Tell"), _, _, false, rfl, .own _, ty, x_kit_End_Tell T, false, rfl, iteF k⟩
    · exact ⟨_, rfl, .str z, .ref (He.ga K "Tell"), _, _, false, rfl, .own _, .base (.str z), x_kits_Tell T, false, rfl, iteF k⟩
theorem ok_Put_eq (T : Tx K mg sa sx) : MCal P w K mg base 1 (He.ga K "Put") "__eq__" (spEq K (fun r => ∃ p v, r = Rw.set p v)) := by
  obtain ⟨fd, F⟩ := f_Put_eq T
  refine ⟨c_Put T, _, fd, ["self", "other"], fnok F sc_Put_eq (fun vs H Q E h => ?_) (fun cdv A outer s H vs Q E hr h => ?_), F.bindsN fun _ _ _ _ _ _ us hl => match us, hl with | [_, _], _ => rfl, me_Put_eq T⟩
  · obtain ⟨o, r, y, _, rfl, _⟩ := h; rfl
  · obtain ⟨o, _, y, ⟨p, v, rfl⟩, rfl, m, k⟩ := h
    refine ⟨_, (pss_one (ps_ret (pe_and (pe_callB (id := "isinstance") (r := rIsi K) call_isi rfl (n_isinstance T) (by decide +kernel) (pa_cons (pv 1) (pa_cons (pe_glob (v := .ref _) rfl (g_Put T) rfl) pa_nil))) (pe_and (pe_cmpR (op_eqD hr.units) (pe_fld (pv 0) rfl) (pe_fld (pv 1) rfl) (nomark _)) (pe_one (pe_cmpR (op_eqD hr.units) (pe_fld (pv 0) rfl) (pe_fld (pv 1) rfl) (nomark _))))))), ?_⟩
    rcases k with ⟨o', r', rfl, m', k⟩ | ⟨z, rfl, k⟩
    · have ty := ma_ty T m'
      cases r' with
      | tell v => exact ⟨_, rfl, .ref o', .ref (He.ga K "Put"), _, _, false, rfl, .own _, ty, x_kit_Tell_Put T, false, rfl, iteF k⟩
      | set p' v' =>
        obtain ⟨t, u, dx, hp, hv, ho⟩ := m
        obtain ⟨t', u', dx', hp', hv', ho'⟩ := m'
        refine ⟨_, rfl, .ref o', .ref (He.ga K "Put"), _, _, true, rfl, .own _, ty, x_kit_Put_Put T, true, rfl, iteT ?_⟩
        refine ⟨_, rfl, o, _, dx, _, _, rfl, ho, c_Put T, na_Put_place T, (fl2 (by decide +kernel) fl1), _, rfl, o', _, dx', _, _, rfl, ho', c_Put T, na_Put_place T, (fl2 (by decide +kernel) fl1), .tuple p.ds, .tuple p'.ds, va_dp hp, va_dp hp', Val.shp hp.1, Val.shp hp'.1, _, rfl, ?_⟩
        by_cases c : p = p'
        rotate_left
        · have e : decide (Rw.set p v = Rw.set p' v') = false := decide_eq_false (fun z => c (by cases z; rfl))
          rw [e] at k
          exact cndV (fun z => absurd z c) (fun _ => k)
        refine cndV (fun _ => ?_) (fun z => absurd c z)
        subst c
        refine ⟨_, rfl, o, _, dx, _, _, rfl, ho, c_Put T, na_Put_value T, fl1, _, rfl, o', _, dx', _, _, rfl, ho', c_Put T, na_Put_value T, fl1, .tuple v.ds, .tuple v'.ds, va_dp hv, va_dp hv', Val.shp hv.1, Val.shp hv'.1, ?_⟩
        show Q (.bl (PyData.eqv (.tuple v.ds) (.tuple v'.ds))) H
        have e : (PyData.eqv (.tuple v.ds) (.tuple v'.ds)) = decide (Rw.set p v = Rw.set p v') := by
          rw [eqv_val]
          exact decide_eq_decide.mpr ⟨fun z => by cases z; rfl, fun z => by cases z; rfl⟩
        rw [e]
        exact k
      | same a b n => exact ⟨_, rfl, .ref o', .ref (He.ga K "Put"), _, _, false, rfl, .own _, ty, x_kit_Same_Put T, false, rfl, iteF k⟩
      | there x n => exact ⟨_, rfl, .ref o', .ref (He.ga K "Put"), _, _, false, rfl, .own _, ty, x_kit_There_Put T, false, rfl, iteF k⟩
      | call x v n => exact ⟨_, rfl, .ref o', .ref (He.ga K "Put"), _, _, false, rfl, .own _, ty, x_kit_Call_Put T, false, rfl, iteF k⟩
      | fin => exact ⟨_, rfl, .ref o', .ref (He.ga K "Put"), _, _, false, rfl, .own _, ty, x_kit_End_Put T, false, rfl, iteF k⟩
    · exact ⟨_, rfl, .str z, .ref (He.ga K "Put"), _, _, false, rfl, .own _, .base (.str z), x_kits_Put T, false, rfl, iteF k⟩
theorem ok_Same_eq (T : Tx K mg sa sx) : MCal P w K mg base 1 (He.ga K "Same") "__eq__" (spEq K (fun r => ∃ a b n, r = Rw.same a b n)) := by
  obtain ⟨fd, F⟩ := f_Same_eq T
  refine ⟨c_Same T, _, fd, ["self", "other"], fnok F sc_Same_eq (fun vs H Q E h => ?_) (fun cdv A outer s H vs Q E hr h => ?_), F.bindsN fun _ _ _ _ _ _ us hl => match us, hl with | [_, _], _ => rfl, me_Same_eq T⟩
  · obtain ⟨o, r, y, _, rfl, _⟩ := h; rfl
  · obtain ⟨o, _, y, ⟨a, b, n, rfl⟩, rfl, m, k⟩ := h
    refine ⟨_, (pss_one (ps_ret (pe_and (pe_callB (id := "isinstance") (r := rIsi K) call_isi rfl (n_isinstance T) (by decide +kernel) (pa_cons (pv 1) (pa_cons (pe_glob (v := .ref _) rfl (g_Same T) rfl) pa_nil))) (pe_and (pe_cmpR (op_eqD hr.units) (pe_fld (pv 0) rfl) (pe_fld (pv 1) rfl) (nomark _)) (pe_and (pe_cmpR (op_eqD hr.units) (pe_fld (pv 0) rfl) (pe_fld (pv 1) rfl) (nomark _)) (pe_one (pe_cmpR op_eq (pe_fld (pv 0) rfl) (pe_fld (pv 1) rfl) (nomark _)))))))), ?_⟩
    rcases k with ⟨o', r', rfl, m', k⟩ | ⟨z, rfl, k⟩
    · have ty := ma_ty T m'
      cases r' with
      | tell v => exact ⟨_, rfl, .ref o', .ref (He.ga K "Same"), _, _, false, rfl, .own _, ty, x_kit_Tell_Same T, false, rfl, iteF k⟩
      | set p v => exact ⟨_, rfl, .ref o', .ref (He.ga K "Same"), _, _, false, rfl, .own _, ty, x_kit_Put_Same T, false, rfl, iteF k⟩
      | same a' b' n' =>
        obtain ⟨t, u, dx, ha, hb, hn, ho⟩ := m
        obtain ⟨t', u', dx', ha', hb', hn', ho'⟩ := m'
        refine ⟨_, rfl, .ref o', .ref (He.ga K "Same"), _, _, true, rfl, .own _, ty, x_kit_Same_Same T, true, rfl, iteT ?_⟩
        refine ⟨_, rfl, o, _, dx, _, _, rfl, ho, c_Same T, na_Same_left T, (fl2 (by decide +kernel) (fl2 (by decide +kernel) fl1)), _, rfl, o', _, dx', _, _, rfl, ho', c_Same T, na_Same_left T, (fl2 (by decide +kernel) (fl2 (by decide +kernel) fl1)), .tuple a.ds, .tuple a'.ds, va_dp ha, va_dp ha', Val.shp ha.1, Val.shp ha'.1, _, rfl, ?_⟩
        by_cases c : a = a'
        rotate_left
        · have e : decide (Rw.same a b n = Rw.same a' b' n') = false := decide_eq_false (fun z => c (by cases z; rfl))
          rw [e] at k
          exact cndV (fun z => absurd z c) (fun _ => k)
        refine cndV (fun _ => ?_) (fun z => absurd c z)
        subst c
        refine ⟨_, rfl, o, _, dx, _, _, rfl, ho, c_Same T, na_Same_right T, (fl2 (by decide +kernel) fl1), _, rfl, o', _, dx', _, _, rfl, ho', c_Same T, na_Same_right T, (fl2 (by decide +kernel) fl1), .tuple b.ds, .tuple b'.ds, va_dp hb, va_dp hb', Val.shp hb.1, Val.shp hb'.1, _, rfl, ?_⟩
        by_cases c : b = b'
        rotate_left
        · have e : decide (Rw.same a b n = Rw.same a b' n') = false := decide_eq_false (fun z => c (by cases z; rfl))
          rw [e] at k
          exact cndV (fun z => absurd z c) (fun _ => k)
        refine cndV (fun _ => ?_) (fun z => absurd c z)
        subst c
        refine ⟨_, rfl, o, _, dx, _, _, rfl, ho, c_Same T, na_Same_skip T, fl1, _, rfl, o', _, dx', _, _, rfl, ho', c_Same T, na_Same_skip T, fl1, rfl, ?_⟩
        show Q (.bl (decide (V.int n = V.int n'))) H
        have e : (decide (V.int n = V.int n')) = decide (Rw.same a b n = Rw.same a b n') := by
          exact decide_eq_decide.mpr ⟨fun z => by cases z; rfl, fun z => by cases z; rfl⟩
        rw [e]
        exact k
      | there x n => exact ⟨_, rfl, .ref o', .ref (He.ga K "Same"), _, _, false, rfl, .own _, ty, x_kit_There_Same T, false, rfl, iteF k⟩
      | call x v n => exact ⟨_, rfl, .ref o', .ref (He.ga K "Same"), _, _, false, rfl, .own _, ty, x_kit_Call_Same T, false, rfl, iteF k⟩
      | fin => exact ⟨_, rfl, .ref o', .ref (He.ga K "Same"), _, _, false, rfl, .own _, ty, x_kit_End_Same T, false, rfl, iteF k⟩
    · exact ⟨_, rfl, .str z, .ref (He.ga K "Same"), _, _, false, rfl, .own _, .base (.str z), x_kits_Same T, false, rfl, iteF k⟩
theorem ok_There_eq (T : Tx K mg sa sx) : MCal P w K mg base 1 (He.ga K "There") "__eq__" (spEq K (fun r => ∃ x n, r = Rw.there x n)) := by
  obtain ⟨fd, F⟩ := f_There_eq T
  refine ⟨c_There T, _, fd, ["self", "other"], fnok F sc_There_eq (fun vs H Q E h => ?_) (fun cdv A outer s H vs Q E hr h => ?_), F.bindsN fun _ _ _ _ _ _ us hl => match us, hl with | [_, _], _ => rfl, me_There_eq T⟩
  · obtain ⟨o, r, y, _, rfl, _⟩ := h; rfl
  · obtain ⟨o, _, y, ⟨x, n, rfl⟩, rfl, m, k⟩ := h
    refine ⟨_, (pss_one (ps_ret (pe_and (pe_callB (id := "isinstance") (r := rIsi K) call_isi rfl (n_isinstance T) (by decide +kernel) (pa_cons (pv 1) (pa_cons (pe_glob (v := .ref _) rfl (g_There T) rfl) pa_nil))) (pe_and (pe_cmpR op_eq (pe_fld (pv 0) rfl) (pe_fld (pv 1) rfl) (nomark _)) (pe_one (pe_cmpR op_eq (pe_fld (pv 0) rfl) (pe_fld (pv 1) rfl) (nomark _))))))), ?_⟩
    rcases k with ⟨o', r', rfl, m', k⟩ | ⟨z, rfl, k⟩
    · have ty := ma_ty T m'
      cases r' with
      | tell v => exact ⟨_, rfl, .ref o', .ref (He.ga K "There"), _, _, false, rfl, .own _, ty, x_kit_Tell_There T, false, rfl, iteF k⟩
      | set p v => exact ⟨_, rfl, .ref o', .ref (He.ga K "There"), _, _, false, rfl, .own _, ty, x_kit_Put_There T, false, rfl, iteF k⟩
      | same a b n => exact ⟨_, rfl, .ref o', .ref (He.ga K "There"), _, _, false, rfl, .own _, ty, x_kit_Same_There T, false, rfl, iteF k⟩
      | there x' n' =>
        obtain ⟨dx, hx, hn, ho⟩ := m
        obtain ⟨dx', hx', hn', ho'⟩ := m'
        refine ⟨_, rfl, .ref o', .ref (He.ga K "There"), _, _, true, rfl, .own _, ty, x_kit_There_There T, true, rfl, iteT ?_⟩
        refine ⟨_, rfl, o, _, dx, _, _, rfl, ho, c_There T, na_There_name T, (fl2 (by decide +kernel) fl1), _, rfl, o', _, dx', _, _, rfl, ho', c_There T, na_There_name T, (fl2 (by decide +kernel) fl1), rfl, _, rfl, ?_⟩
        by_cases c : x = x'
        rotate_left
        · have e : decide (Rw.there x n = Rw.there x' n') = false := decide_eq_false (fun z => c (by cases z; rfl))
          rw [e] at k
          exact tF (by intro z; exact c (by cases z; rfl)) k
        refine tT (by rw [c]) ?_
        subst c
        refine ⟨_, rfl, o, _, dx, _, _, rfl, ho, c_There T, na_There_skip T, fl1, _, rfl, o', _, dx', _, _, rfl, ho', c_There T, na_There_skip T, fl1, rfl, ?_⟩
        show Q (.bl (decide (V.int n = V.int n'))) H
        have e : (decide (V.int n = V.int n')) = decide (Rw.there x n = Rw.there x n') := by
          exact decide_eq_decide.mpr ⟨fun z => by cases z; rfl, fun z => by cases z; rfl⟩
        rw [e]
        exact k
      | call x v n => exact ⟨_, rfl, .ref o', .ref (He.ga K "There"), _, _, false, rfl, .own _, ty, x_kit_Call_There T, false, rfl, iteF k⟩
      | fin => exact ⟨_, rfl, .ref o', .ref (He.ga K "There"), _, _, false, rfl, .own _, ty, x_kit_End_There T, false, rfl, iteF k⟩
    · exact ⟨_, rfl, .str z, .ref (He.ga K "There"), _, _, false, rfl, .own _, .base (.str z), x_kits_There T, false, rfl, iteF k⟩
theorem ok_Call_eq (T : Tx K mg sa sx) : MCal P w K mg base 1 (He.ga K "Call") "__eq__" (spEq K (fun r => ∃ x v n, r = Rw.call x v n)) := by
  obtain ⟨fd, F⟩ := f_Call_eq T
  refine ⟨c_Call T, _, fd, ["self", "other"], fnok F sc_Call_eq (fun vs H Q E h => ?_) (fun cdv A outer s H vs Q E hr h => ?_), F.bindsN fun _ _ _ _ _ _ us hl => match us, hl with | [_, _], _ => rfl, me_Call_eq T⟩
  · obtain ⟨o, r, y, _, rfl, _⟩ := h; rfl
  · obtain ⟨o, _, y, ⟨x, v, n, rfl⟩, rfl, m, k⟩ := h
    refine ⟨_, (pss_one (ps_ret (pe_and (pe_callB (id := "isinstance") (r := rIsi K) call_isi rfl (n_isinstance T) (by decide +kernel) (pa_cons (pv 1) (pa_cons (pe_glob (v := .ref _) rfl (g_Call T) rfl) pa_nil))) (pe_and (pe_cmpR op_eq (pe_fld (pv 0) rfl) (pe_fld (pv 1) rfl) (nomark _)) (pe_and (pe_cmpR (op_eqD hr.units) (pe_fld (pv 0) rfl) (pe_fld (pv 1) rfl) (nomark _)) (pe_one (pe_cmpR op_eq (pe_fld (pv 0) rfl) (pe_fld (pv 1) rfl) (nomark _)))))))), ?_⟩
    rcases k with ⟨o', r', rfl, m', k⟩ | ⟨z, rfl, k⟩
    · have ty := ma_ty T m'
      cases r' with
      | tell v => exact ⟨_, rfl, .ref o', .ref (He.ga K "Call"), _, _, false, rfl, .own _, ty, x_kit_Tell_Call T, false, rfl, iteF k⟩
      | set p v => exact ⟨_, rfl, .ref o', .ref (He.ga K "Call"), _, _, false, rfl, .own _, ty, x_kit_Put_Call T, false, rfl, iteF k⟩
      | same a b n => exact ⟨_, rfl, .ref o', .ref (He.ga K "Call"), _, _, false, rfl, .own _, ty, x_kit_Same_Call T, false, rfl, iteF k⟩
      | there x n => exact ⟨_, rfl, .ref o', .ref (He.ga K "Call"), _, _, false, rfl, .own _, ty, x_kit_There_Call T, false, rfl, iteF k⟩
      | call x' v' n' =>
        obtain ⟨u, dx, hx, hv, hn, ho⟩ := m
        obtain ⟨u', dx', hx', hv', hn', ho'⟩ := m'
        refine ⟨_, rfl, .ref o', .ref (He.ga K "Call"), _, _, true, rfl, .own _, ty, x_kit_Call_Call T, true, rfl, iteT ?_⟩
        refine ⟨_, rfl, o, _, dx, _, _, rfl, ho, c_Call T, na_Call_name T, (fl2 (by decide +kernel) (fl2 (by decide +kernel) fl1)), _, rfl, o', _, dx', _, _, rfl, ho', c_Call T, na_Call_name T, (fl2 (by decide +kernel) (fl2 (by decide +kernel) fl1)), rfl, _, rfl, ?_⟩
        by_cases c : x = x'
        rotate_left
        · have e : decide (Rw.call x v n = Rw.call x' v' n') = false := decide_eq_false (fun z => c (by cases z; rfl))
          rw [e] at k
          exact tF (by intro z; exact c (by cases z; rfl)) k
        refine tT (by rw [c]) ?_
        subst c
        refine ⟨_, rfl, o, _, dx, _, _, rfl, ho, c_Call T, na_Call_value T, (fl2 (by decide +kernel) fl1), _, rfl, o', _, dx', _, _, rfl, ho', c_Call T, na_Call_value T, (fl2 (by decide +kernel) fl1), .tuple v.ds, .tuple v'.ds, va_dp hv, va_dp hv', Val.shp hv.1, Val.shp hv'.1, _, rfl, ?_⟩
        by_cases c : v = v'
        rotate_left
        · have e : decide (Rw.call x v n = Rw.call x v' n') = false := decide_eq_false (fun z => c (by cases z; rfl))
          rw [e] at k
          exact cndV (fun z => absurd z c) (fun _ => k)
        refine cndV (fun _ => ?_) (fun z => absurd c z)
        subst c
        refine ⟨_, rfl, o, _, dx, _, _, rfl, ho, c_Call T, na_Call_tag T, fl1, _, rfl, o', _, dx', _, _, rfl, ho', c_Call T, na_Call_tag T, fl1, rfl, ?_⟩
        show Q (.bl (decide (V.int n = V.int n'))) H
        have e : (decide (V.int n = V.int n')) = decide (Rw.call x v n = Rw.call x v n') := by
          exact decide_eq_decide.mpr ⟨fun z => by cases z; rfl, fun z => by cases z; rfl⟩
        rw [e]
        exact k
      | fin => exact ⟨_, rfl, .ref o', .ref (He.ga K "Call"), _, _, false, rfl, .own _, ty, x_kit_End_Call T, false, rfl, iteF k⟩
    · exact ⟨_, rfl, .str z, .ref (He.ga K "Call"), _, _, false, rfl, .own _, .base (.str z), x_kits_Call T, false, rfl, iteF k⟩
theorem ok_End_eq (T : Tx K mg sa sx) : MCal P w K mg base 1 (He.ga K "End") "__eq__" (spEq K (fun r => r = Rw.fin)) := by
  obtain ⟨fd, F⟩ := f_End_eq T
  refine ⟨c_End T, _, fd, ["self", "other"], fnok F sc_End_eq (fun vs H Q E h => ?_) (fun cdv A outer s H vs Q E hr h => ?_), F.bindsN fun _ _ _ _ _ _ us hl => match us, hl with | [_, _], _ => rfl, me_End_eq T⟩
  · obtain ⟨o, r, y, _, rfl, _⟩ := h; rfl
  · obtain ⟨o, _, y, rfl, rfl, m, k⟩ := h
    refine ⟨_, (pss_one (ps_ret (pe_callB (id := "isinstance") (r := rIsi K) call_isi rfl (n_isinstance T) (by decide +kernel) (pa_cons (pv 1) (pa_cons (pe_glob (v := .ref _) rfl (g_End T) rfl) pa_nil))))), ?_⟩
    rcases k with ⟨o', r', rfl, m', k⟩ | ⟨z, rfl, k⟩
    · have ty := ma_ty T m'
      cases r' with
      | tell v => exact ⟨_, rfl, .ref o', .ref (He.ga K "End"), _, _, false, rfl, .own _, ty, x_kit_Tell_End T, k⟩
      | set p v => exact ⟨_, rfl, .ref o', .ref (He.ga K "End"), _, _, false, rfl, .own _, ty, x_kit_Put_End T, k⟩
      | same a b n => exact ⟨_, rfl, .ref o', .ref (He.ga K "End"), _, _, false, rfl, .own _, ty, x_kit_Same_End T, k⟩
      | there x n => exact ⟨_, rfl, .ref o', .ref (He.ga K "End"), _, _, false, rfl, .own _, ty, x_kit_There_End T, k⟩
      | call x v n => exact ⟨_, rfl, .ref o', .ref (He.ga K "End"), _, _, false, rfl, .own _, ty, x_kit_Call_End T, k⟩
      | fin =>
        exact ⟨_, rfl, .ref o', .ref (He.ga K "End"), _, _, true, rfl, .own _, ty, x_kit_End_End T, k⟩
    · exact ⟨_, rfl, .str z, .ref (He.ga K "End"), _, _, false, rfl, .own _, .base (.str z), x_kits_End T, k⟩
end
end K88
namespace Um
open PySem PySem.Spec PyProof.Rows Cm TL
open L2 hiding Same
/-! ### rows told by their parts -/
inductive RowP : List Pt → Rw → Prop
  | tell (x : Val) : RowP [.w "tell", .v x] (.tell x)
  | set (p x : Val) : RowP [.w "set", .v p, .v x] (.set p x)
  | same (a b : Val) (k : Int) : RowP [.w "same", .v a, .v b, .w "else", .n k] (.same a b k)
  | there (x : Str) (k : Int) (h : isName x = true) : RowP [.w "there", .w x, .w "else", .n k] (.there x k)
  | call (x : Str) (v : Val) (h : isName x = true) : RowP [.w "call", .w x, .v v] (.call x v 0)
  | callt (x : Str) (v : Val) (t : Int) (h : isName x = true) : RowP [.w "call", .w x, .v v, .w "at", .n t] (.call x v t)
  | fin : RowP [.w "end"] .fin
def headP : List Pt → Str
  | .w s :: _ => s
  | _ => ""
/-! ### a text's sections -/
structure Sec where
  ahead : List (Nat × List Pt)
  blocks : List (Nat × List Pt × List Rw)
def addRow (bs : List (Nat × List Pt × List Rw)) (r : Rw) : List (Nat × List Pt × List Rw) := match bs.getLast? with
  | none => bs
  | some b => bs.dropLast ++ [(b.1, b.2.1, b.2.2 ++ [r])]
/-- from line i on: what is told so far, the lines left, the end -/
inductive SecR (heads : List Str) : Nat → Sec → List (List Pt) → Sec → Prop
  | nil {i s} : SecR heads i s [] s
  | block {i s ps ls e} : headP ps ∈ heads → SecR heads (i + 1) ⟨s.ahead, s.blocks ++ [(i, ps, [])]⟩ ls e → SecR heads i s (ps :: ls) e
  | row {i s ps r ls e} : headP ps ∉ heads → s.blocks ≠ [] → RowP ps r → SecR heads (i + 1) ⟨s.ahead, addRow s.blocks r⟩ ls e → SecR heads i s (ps :: ls) e
  | ahead {i s ps ls e} : headP ps ∉ heads → s.blocks = [] → SecR heads (i + 1) ⟨s.ahead ++ [(i, ps)], s.blocks⟩ ls e → SecR heads i s (ps :: ls) e
def LineP (ps : List Pt) : Prop := ∃ s r, ps = .w s :: r
theorem addRow_snoc (bs : List (Nat × List Pt × List Rw)) (b : Nat × List Pt × List Rw) (r : Rw) : addRow (bs ++ [b]) r = bs ++ [(b.1, b.2.1, b.2.2 ++ [r])] := by
  unfold addRow
  rw [List.getLast?_append, List.dropLast_concat]
  rfl
end Um
namespace K88
open PySem PySem.Spec PyProof.Rows Cm Um TL
open L2 hiding Same
/-! ### rows made of parts -/
theorem mk_same {H : Hp} {x dx : Addr} {o1 o2 : HO} (nx : H x = none) (nd : H dx = none) : Same H (upd (upd H dx o1) x o2) := (Same.new nd).mut nx
theorem VA.same {H H' : Hp} {t : Addr} {v : Val} (s : Same H H') (h : VA H t v) : VA H' t v := ⟨h.1, s _ _ h.2⟩
theorem MA.same {K : PySem.W.Frag} {H H' : Hp} {o : Addr} {r : Rw} (s : Same H H') (h : MA K H o r) : MA K H' o r := by
  cases r with
  | tell v => obtain ⟨t, dx, hv, ho⟩ := h; exact ⟨t, dx, hv.same s, s _ _ ho⟩
  | set p v => obtain ⟨t, u, dx, hp, hv, ho⟩ := h; exact ⟨t, u, dx, hp.same s, hv.same s, s _ _ ho⟩
  | same a b n => obtain ⟨t, u, dx, ha, hb, hn, ho⟩ := h; exact ⟨t, u, dx, ha.same s, hb.same s, hn, s _ _ ho⟩
  | there x n => obtain ⟨dx, hx, hn, ho⟩ := h; exact ⟨dx, hx, hn, s _ _ ho⟩
  | call x v n => obtain ⟨u, dx, hx, hv, hn, ho⟩ := h; exact ⟨u, dx, hx, hv.same s, hn, s _ _ ho⟩
  | fin => obtain ⟨dx, ho⟩ := h; exact ⟨dx, s _ _ ho⟩
theorem PtsAt.pr {H : Hp} {a : Addr} {ps : List Pt} (h : PtsAt H a ps) : ∃ vs, H a = some (.lst vs) ∧ Paired (PtAt H) vs ps := by
  obtain ⟨l, h1, rfl, h3⟩ := h
  refine ⟨_, h1, ?_⟩
  clear h1
  induction l with
  | nil => exact .nil
  | cons q l ih => exact .cons (h3 q List.mem_cons_self) (ih fun q hq => h3 q (List.mem_cons_of_mem _ hq))
theorem pr1 {α β : Type} {R : α → β → Prop} {vs : List α} {a : β} (h : Paired R vs [a]) : ∃ v, vs = [v] ∧ R v a := by
  cases h with | cons h0 h => cases h; exact ⟨_, rfl, h0⟩
theorem pr2 {α β : Type} {R : α → β → Prop} {vs : List α} {a b : β} (h : Paired R vs [a, b]) : ∃ v u, vs = [v, u] ∧ R v a ∧ R u b := by
  cases h with | cons h0 h => obtain ⟨u, rfl, h1⟩ := pr1 h; exact ⟨_, _, rfl, h0, h1⟩
theorem pr3 {α β : Type} {R : α → β → Prop} {vs : List α} {a b c : β} (h : Paired R vs [a, b, c]) : ∃ v u x, vs = [v, u, x] ∧ R v a ∧ R u b ∧ R x c := by
  cases h with | cons h0 h => obtain ⟨u, x, rfl, h1, h2⟩ := pr2 h; exact ⟨_, _, _, rfl, h0, h1, h2⟩
theorem pr4 {α β : Type} {R : α → β → Prop} {vs : List α} {a b c d : β} (h : Paired R vs [a, b, c, d]) : ∃ v u x y, vs = [v, u, x, y] ∧ R v a ∧ R u b ∧ R x c ∧ R y d := by
  cases h with | cons h0 h => obtain ⟨u, x, y, rfl, h1, h2, h3⟩ := pr3 h; exact ⟨_, _, _, _, rfl, h0, h1, h2, h3⟩
theorem pr5 {α β : Type} {R : α → β → Prop} {vs : List α} {a b c d e : β} (h : Paired R vs [a, b, c, d, e]) : ∃ v u x y z, vs = [v, u, x, y, z] ∧ R v a ∧ R u b ∧ R x c ∧ R y d ∧ R z e := by
  cases h with | cons h0 h => obtain ⟨u, x, y, z, rfl, h1, h2, h3, h4⟩ := pr4 h; exact ⟨_, _, _, _, _, rfl, h0, h1, h2, h3, h4⟩
def spRowOf (K : PySem.W.Frag) : Sp := fun vs H Q _ => ∃ a ps r, vs = [.ref a] ∧ PtsAt H a ps ∧ RowP ps r ∧ ∀ o H', Same H H' → MA K H' o r → Q (.ref o) H'
theorem sm_of {i : Int} (h : i.natAbs ≤ 999999999) : SmI i := by unfold SmI; omega
section
variable {P : Program} {w : World} {K : PySem.W.Frag} {mg : Str → Option Value} {base : Heap} {sa : Addr} {sx : List Int}
theorem ok_row_of (T : Tx K mg sa sx) : Cal P w K mg base 3 "row_of" (spRowOf K) := by
  obtain ⟨fd, F⟩ := f_row_of T
  refine ⟨_, fd, ["parts"], fnok F sc_row_of (fun vs H Q E h => ?_) (fun cdv A outer s H vs Q E hr h => ?_), F.bindsN fun _ _ _ _ _ _ us hl => match us, hl with | [_], _ => rfl, g_row_of T, F.kp⟩
  · obtain ⟨a, ps, r, rfl, _⟩ := h; rfl
  · obtain ⟨a, ps, r, rfl, hp, hR, k⟩ := h
    refine ⟨_, (pss_cons (ps_set (i := 1) sc_row_of.nd rfl (by first | exact Or.inl rfl | exact Or.inr rfl) (pe_ix ix_list (pv 0) pe_int (fun _ _ => rfl)))
    (pss_cons (ps_if (pt_cmpR op_eq (pv 1) pe_str (nomark _)) (pss_one (ps_ret (pe_kal (ok_Tell_init T) hr (by decide) (pa_cons (pe_ix ix_list (pv 0) pe_int (fun _ _ => rfl)) pa_nil)))) pss_nil)
    (pss_cons (ps_if (pt_cmpR op_eq (pv 1) pe_str (nomark _)) (pss_one (ps_ret (pe_kal (ok_Put_init T) hr (by decide) (pa_cons (pe_ix ix_list (pv 0) pe_int (fun _ _ => rfl)) (pa_cons (pe_ix ix_list (pv 0) pe_int (fun _ _ => rfl)) pa_nil))))) pss_nil)
    (pss_cons (ps_if (pt_cmpR op_eq (pv 1) pe_str (nomark _)) (pss_one (ps_ret (pe_kal (ok_Same_init T) hr (by decide) (pa_cons (pe_ix ix_list (pv 0) pe_int (fun _ _ => rfl)) (pa_cons (pe_ix ix_list (pv 0) pe_int (fun _ _ => rfl)) (pa_cons (pe_ix ix_list (pv 0) pe_int (fun _ _ => rfl)) pa_nil)))))) pss_nil)
    (pss_cons (ps_if (pt_cmpR op_eq (pv 1) pe_str (nomark _)) (pss_one (ps_ret (pe_kal (ok_There_init T) hr (by decide) (pa_cons (pe_ix ix_list (pv 0) pe_int (fun _ _ => rfl)) (pa_cons (pe_ix ix_list (pv 0) pe_int (fun _ _ => rfl)) pa_nil))))) pss_nil)
    (pss_cons (ps_if (pt_cmpR op_eq (pv 1) pe_str (nomark _)) (pss_one (ps_ret (pe_kal (ok_Call_init T) hr (by decide) (pa_cons (pe_ix ix_list (pv 0) pe_int (fun _ _ => rfl)) (pa_cons (pe_ix ix_list (pv 0) pe_int (fun _ _ => rfl)) (pa_cons (pe_ifExp (pt_cmpR op_gt (pe_callB (id := "len") call_len_seq rfl (n_len T) (by decide +kernel) (pa_cons (pv 0) pa_nil)) pe_int (nomark _)) (pe_ix ix_list (pv 0) pe_int (fun _ _ => rfl)) pe_int) pa_nil)))))) pss_nil)
    (pss_one (ps_ret (pe_mk0 (x_emk T) (x_ein T) (x_ekp T) (g_End T)))))))))), ?_⟩
    obtain ⟨vs, ha, pr⟩ := hp.pr
    have hL := SqL.of (K := K) ha
    cases hR with
    | tell v =>
      obtain ⟨w0, w1, rfl, h0, h1⟩ := pr2 pr
      obtain rfl := (show _ = V.str "tell" from h0)
      obtain ⟨t, rfl, hv⟩ := h1
      refine ⟨_, rfl, a, _, 0, .str "tell", rfl, rfl, hL, rfl, ?_⟩
      refine ⟨_, rfl, rfl, _, rfl, tT rfl ?_⟩
      refine ⟨_, rfl, a, _, 1, .ref t, rfl, rfl, hL, rfl, fun x dx nx nd ne => ?_⟩
      have sm : Same H (upd (upd H dx (.own x)) x (.ins (He.ga K "Tell") dx [])) := mk_same nx nd
      exact ⟨x, dx, t, _, rfl, upd_same, sm _ _ hv.2, rfl, k x _ (sm.mut nx) ⟨t, dx, VA.same (sm.mut nx) hv, upd_same⟩⟩
    | set p v =>
      obtain ⟨w0, w1, w2, rfl, h0, h1, h2⟩ := pr3 pr
      obtain rfl := (show _ = V.str "set" from h0)
      obtain ⟨t, rfl, hp⟩ := h1
      obtain ⟨u, rfl, hv⟩ := h2
      refine ⟨_, rfl, a, _, 0, .str "set", rfl, rfl, hL, rfl, ?_⟩
      refine ⟨_, rfl, rfl, _, rfl, tF (by decide +kernel) ?_⟩
      refine ⟨_, rfl, rfl, _, rfl, tT rfl ?_⟩
      refine ⟨_, rfl, a, _, 1, .ref t, rfl, rfl, hL, rfl, _, rfl, a, _, 2, .ref u, rfl, rfl, hL, rfl, fun x dx nx nd ne => ?_⟩
      have sm : Same H (upd (upd H dx (.own x)) x (.ins (He.ga K "Put") dx [])) := mk_same nx nd
      exact ⟨x, dx, t, _, u, _, rfl, upd_same, sm _ _ hp.2, sm _ _ hv.2, rfl, k x _ (sm.mut nx) ⟨t, u, dx, VA.same (sm.mut nx) hp, VA.same (sm.mut nx) hv, upd_same⟩⟩
    | same p v n =>
      obtain ⟨w0, w1, w2, w3, w4, rfl, h0, h1, h2, h3, h4⟩ := pr5 pr
      obtain rfl := (show _ = V.str "same" from h0)
      obtain ⟨t, rfl, hp⟩ := h1
      obtain ⟨u, rfl, hv⟩ := h2
      obtain ⟨rfl, hn⟩ := h4
      refine ⟨_, rfl, a, _, 0, .str "same", rfl, rfl, hL, rfl, ?_⟩
      refine ⟨_, rfl, rfl, _, rfl, tF (by decide +kernel) ?_⟩
      refine ⟨_, rfl, rfl, _, rfl, tF (by decide +kernel) ?_⟩
      refine ⟨_, rfl, rfl, _, rfl, tT rfl ?_⟩
      refine ⟨_, rfl, a, _, 1, .ref t, rfl, rfl, hL, rfl, _, rfl, a, _, 2, .ref u, rfl, rfl, hL, rfl, _, rfl, a, _, 4, .int n, rfl, rfl, hL, rfl, fun x dx nx nd ne => ?_⟩
      have sm : Same H (upd (upd H dx (.own x)) x (.ins (He.ga K "Same") dx [])) := mk_same nx nd
      exact ⟨x, dx, t, _, u, _, n, rfl, upd_same, sm _ _ hp.2, sm _ _ hv.2, rfl, k x _ (sm.mut nx) ⟨t, u, dx, VA.same (sm.mut nx) hp, VA.same (sm.mut nx) hv, sm_of hn, upd_same⟩⟩
    | there z n hz =>
      obtain ⟨w0, w1, w2, w3, rfl, h0, h1, h2, h3⟩ := pr4 pr
      obtain rfl := (show _ = V.str "there" from h0)
      obtain rfl := (show _ = V.str z from h1)
      obtain ⟨rfl, hn⟩ := h3
      refine ⟨_, rfl, a, _, 0, .str "there", rfl, rfl, hL, rfl, ?_⟩
      refine ⟨_, rfl, rfl, _, rfl, tF (by decide +kernel) ?_⟩
      refine ⟨_, rfl, rfl, _, rfl, tF (by decide +kernel) ?_⟩
      refine ⟨_, rfl, rfl, _, rfl, tF (by decide +kernel) ?_⟩
      refine ⟨_, rfl, rfl, _, rfl, tT rfl ?_⟩
      refine ⟨_, rfl, a, _, 1, .str z, rfl, rfl, hL, rfl, _, rfl, a, _, 3, .int n, rfl, rfl, hL, rfl, fun x dx nx nd ne => ?_⟩
      have sm : Same H (upd (upd H dx (.own x)) x (.ins (He.ga K "There") dx [])) := mk_same nx nd
      exact ⟨x, dx, z, n, rfl, upd_same, rfl, k x _ (sm.mut nx) ⟨dx, isName_ok hz, sm_of hn, upd_same⟩⟩
    | call z v hz =>
      obtain ⟨w0, w1, w2, rfl, h0, h1, h2⟩ := pr3 pr
      obtain rfl := (show _ = V.str "call" from h0)
      obtain rfl := (show _ = V.str z from h1)
      obtain ⟨u, rfl, hv⟩ := h2
      refine ⟨_, rfl, a, _, 0, .str "call", rfl, rfl, hL, rfl, ?_⟩
      refine ⟨_, rfl, rfl, _, rfl, tF (by decide +kernel) ?_⟩
      refine ⟨_, rfl, rfl, _, rfl, tF (by decide +kernel) ?_⟩
      refine ⟨_, rfl, rfl, _, rfl, tF (by decide +kernel) ?_⟩
      refine ⟨_, rfl, rfl, _, rfl, tF (by decide +kernel) ?_⟩
      refine ⟨_, rfl, rfl, _, rfl, tT rfl ?_⟩
      refine ⟨_, rfl, a, _, 1, .str z, rfl, rfl, hL, rfl, _, rfl, a, _, 2, .ref u, rfl, rfl, hL, rfl, _, rfl, a, _, rfl, .inl hL, _, _, rfl, rfl, _, rfl, tF (by simp) fun x dx nx nd ne => ?_⟩
      have sm : Same H (upd (upd H dx (.own x)) x (.ins (He.ga K "Call") dx [])) := mk_same nx nd
      exact ⟨x, dx, z, u, _, 0, rfl, upd_same, sm _ _ hv.2, rfl, k x _ (sm.mut nx) ⟨u, dx, isName_ok hz, VA.same (sm.mut nx) hv, sm_of (by omega), upd_same⟩⟩
    | callt z v n hz =>
      obtain ⟨w0, w1, w2, w3, w4, rfl, h0, h1, h2, h3, h4⟩ := pr5 pr
      obtain rfl := (show _ = V.str "call" from h0)
      obtain rfl := (show _ = V.str z from h1)
      obtain ⟨u, rfl, hv⟩ := h2
      obtain ⟨rfl, hn⟩ := h4
      refine ⟨_, rfl, a, _, 0, .str "call", rfl, rfl, hL, rfl, ?_⟩
      refine ⟨_, rfl, rfl, _, rfl, tF (by decide +kernel) ?_⟩
      refine ⟨_, rfl, rfl, _, rfl, tF (by decide +kernel) ?_⟩
      refine ⟨_, rfl, rfl, _, rfl, tF (by decide +kernel) ?_⟩
      refine ⟨_, rfl, rfl, _, rfl, tF (by decide +kernel) ?_⟩
      refine ⟨_, rfl, rfl, _, rfl, tT rfl ?_⟩
      refine ⟨_, rfl, a, _, 1, .str z, rfl, rfl, hL, rfl, _, rfl, a, _, 2, .ref u, rfl, rfl, hL, rfl, _, rfl, a, _, rfl, .inl hL, _, _, rfl, rfl, _, rfl, tT (by simp) ⟨_, rfl, a, _, 4, .int n, rfl, rfl, hL, rfl, fun x dx nx nd ne => ?_⟩⟩
      have sm : Same H (upd (upd H dx (.own x)) x (.ins (He.ga K "Call") dx [])) := mk_same nx nd
      exact ⟨x, dx, z, u, _, n, rfl, upd_same, sm _ _ hv.2, rfl, k x _ (sm.mut nx) ⟨u, dx, isName_ok hz, VA.same (sm.mut nx) hv, sm_of hn, upd_same⟩⟩
    | fin =>
      obtain ⟨w0, rfl, h0⟩ := pr1 pr
      obtain rfl := (show _ = V.str "end" from h0)
      refine ⟨_, rfl, a, _, 0, .str "end", rfl, rfl, hL, rfl, ?_⟩
      refine ⟨_, rfl, rfl, _, rfl, tF (by decide +kernel) ?_⟩
      refine ⟨_, rfl, rfl, _, rfl, tF (by decide +kernel) ?_⟩
      refine ⟨_, rfl, rfl, _, rfl, tF (by decide +kernel) ?_⟩
      refine ⟨_, rfl, rfl, _, rfl, tF (by decide +kernel) ?_⟩
      refine ⟨_, rfl, rfl, _, rfl, tF (by decide +kernel) ?_⟩
      exact fun x dx nx nd ne => k x _ (mk_same nx nd) ⟨dx, upd_same⟩
end
end K88
namespace K88
open PySem PySem.Spec PyProof.Rows Cm Um TL
open L2 hiding Same
/-! ### sections -/
theorem VA.mut {H : Hp} {t D : Addr} {v : Val} {xs : List V} {o : HO} (hD : H D = some (.lst xs)) (h : VA H t v) : VA (upd H D o) t v :=
  ⟨h.1, by rw [upd_ne (fun z => by have := h.2; rw [z, hD] at this; cases this)]; exact h.2⟩
theorem ins_mut {H : Hp} {o D C dx : Addr} {fs : List (Str × V)} {xs : List V} {u : HO} (hD : H D = some (.lst xs)) (h : H o = some (.ins C dx fs)) : (upd H D u) o = some (.ins C dx fs) := by
  rw [upd_ne (fun z => by rw [z, hD] at h; cases h)]; exact h
theorem MA.mut {K : PySem.W.Frag} {H : Hp} {o D : Addr} {r : Rw} {xs : List V} {u : HO} (hD : H D = some (.lst xs)) (h : MA K H o r) : MA K (upd H D u) o r := by
  cases r with
  | tell v => obtain ⟨t, dx, hv, ho⟩ := h; exact ⟨t, dx, hv.mut hD, ins_mut hD ho⟩
  | set p v => obtain ⟨t, u, dx, hp, hv, ho⟩ := h; exact ⟨t, u, dx, hp.mut hD, hv.mut hD, ins_mut hD ho⟩
  | same a b n => obtain ⟨t, u, dx, ha, hb, hn, ho⟩ := h; exact ⟨t, u, dx, ha.mut hD, hb.mut hD, hn, ins_mut hD ho⟩
  | there x n => obtain ⟨dx, hx, hn, ho⟩ := h; exact ⟨dx, hx, hn, ins_mut hD ho⟩
  | call x v n => obtain ⟨u, dx, hx, hv, hn, ho⟩ := h; exact ⟨u, dx, hx, hv.mut hD, hn, ins_mut hD ho⟩
  | fin => obtain ⟨dx, ho⟩ := h; exact ⟨dx, ins_mut hD ho⟩
structure AE where
  t : Addr
  pa : Addr
  i : Nat
  ps : List Pt
structure BE where
  t : Addr
  pa : Addr
  ra : Addr
  i : Nat
  ps : List Pt
  os : List (Addr × Rw)
abbrev AE.d (e : AE) : Nat × List Pt := (e.i, e.ps)
abbrev BE.d (e : BE) : Nat × List Pt × List Rw := (e.i, e.ps, e.os.map (·.2))
def AheadAt (H : Hp) (A : Addr) (l : List (Nat × List Pt)) : Prop := ∃ m : List AE, H A = some (.lst (m.map fun e => V.ref e.t)) ∧ m.map AE.d = l ∧ ∀ e ∈ m, H e.t = some (.tup [.int e.i, .ref e.pa]) ∧ PtsAt H e.pa e.ps
def BlocksAt (K : PySem.W.Frag) (H : Hp) (B : Addr) (l : List (Nat × List Pt × List Rw)) : Prop := ∃ m : List BE, H B = some (.lst (m.map fun e => V.ref e.t)) ∧ m.map BE.d = l ∧
  ∀ e ∈ m, H e.t = some (.tup [.int e.i, .ref e.pa, .ref e.ra]) ∧ PtsAt H e.pa e.ps ∧ H e.ra = some (.lst (e.os.map fun q => V.ref q.1)) ∧ ∀ q ∈ e.os, MA K H q.1 q.2
def SecAt (K : PySem.W.Frag) (H : Hp) (p : Addr) (s : Sec) : Prop := ∃ A B, H p = some (.tup [.ref A, .ref B]) ∧ AheadAt H A s.ahead ∧ BlocksAt K H B s.blocks
theorem AheadAt.same {H H' : Hp} {A : Addr} {l} (s : Same H H') (h : AheadAt H A l) : AheadAt H' A l := let ⟨m, h1, h2, h3⟩ := h; ⟨m, s _ _ h1, h2, fun e he => ⟨s _ _ (h3 e he).1, (h3 e he).2.same s⟩⟩
theorem BlocksAt.same {K : PySem.W.Frag} {H H' : Hp} {B : Addr} {l} (s : Same H H') (h : BlocksAt K H B l) : BlocksAt K H' B l :=
  let ⟨m, h1, h2, h3⟩ := h; ⟨m, s _ _ h1, h2, fun e he => ⟨s _ _ (h3 e he).1, (h3 e he).2.1.same s, s _ _ (h3 e he).2.2.1, fun q hq => ((h3 e he).2.2.2 q hq).same s⟩⟩
/-- the sections under way; H is the heap ahead of them -/
structure SW (K : PySem.W.Frag) (H H' : Hp) (A B : Addr) (n : Nat) (ma : List AE) (mb : List BE) : Prop where
  sm : Same H H'
  a0 : H A = none
  b0 : H B = none
  ab : A ≠ B
  ha : H' A = some (.lst (ma.map fun e => V.ref e.t))
  hb : H' B = some (.lst (mb.map fun e => V.ref e.t))
  ia : ∀ e ∈ ma, H' e.t = some (.tup [.int e.i, .ref e.pa]) ∧ PtsAt H e.pa e.ps
  ib : ∀ e ∈ mb, H' e.t = some (.tup [.int e.i, .ref e.pa, .ref e.ra]) ∧ PtsAt H e.pa e.ps ∧ H' e.ra = some (.lst (e.os.map fun q => V.ref q.1)) ∧ (∀ q ∈ e.os, MA K H' q.1 q.2) ∧ H e.ra = none ∧ e.ra ≠ A ∧ e.ra ≠ B ∧ e.os.length ≤ n
  nd : (mb.map (·.ra)).Nodup
  la : ma.length ≤ n
  lb : mb.length ≤ n
theorem SW.step {K : PySem.W.Frag} {H H' H2 : Hp} {A B : Addr} {n : Nat} {ma : List AE} {mb : List BE} (w : SW K H H' A B n ma mb) (s : Same H' H2) : SW K H H2 A B n ma mb where
  sm := w.sm.trans s
  a0 := w.a0
  b0 := w.b0
  ab := w.ab
  ha := s _ _ w.ha
  hb := s _ _ w.hb
  ia := fun e he => ⟨s _ _ (w.ia e he).1, (w.ia e he).2⟩
  ib := fun e he => let ⟨h1, h2, h3, h4, h5⟩ := w.ib e he; ⟨s _ _ h1, h2, s _ _ h3, fun q hq => (h4 q hq).same s, h5⟩
  nd := w.nd
  la := w.la
  lb := w.lb
theorem tup_mut {H : Hp} {t D : Addr} {xs ys : List V} {o : HO} (hD : H D = some (.lst xs)) (h : H t = some (.tup ys)) : (upd H D o) t = some (.tup ys) := by
  rw [upd_ne (fun z => by rw [z, hD] at h; cases h)]; exact h
/-- one more ahead -/
theorem SW.addA {K : PySem.W.Frag} {H H' : Hp} {A B : Addr} {n : Nat} {ma : List AE} {mb : List BE} (w : SW K H H' A B n ma mb) {t pa : Addr} {i : Nat} {ps : List Pt} (ht : H' t = some (.tup [.int i, .ref pa])) (hp : PtsAt H pa ps) :
    SW K H (upd H' A (.lst (ma.map (fun e => V.ref e.t) ++ [.ref t]))) A B (n + 1) (ma ++ [⟨t, pa, i, ps⟩]) mb where
  sm := w.sm.mut w.a0
  a0 := w.a0
  b0 := w.b0
  ab := w.ab
  ha := by rw [upd_same, List.map_append]; rfl
  hb := by rw [upd_ne w.ab.symm]; exact w.hb
  ia := fun e he => by
    rcases List.mem_append.mp he with he | he
    · exact ⟨tup_mut w.ha (w.ia e he).1, (w.ia e he).2⟩
    · rw [List.mem_singleton.mp he]; exact ⟨tup_mut w.ha ht, hp⟩
  ib := fun e he => let ⟨h1, h2, h3, h4, h5, h6, h7, h8⟩ := w.ib e he; ⟨tup_mut w.ha h1, h2, by rw [upd_ne h6]; exact h3, fun q hq => (h4 q hq).mut w.ha, h5, h6, h7, Nat.le_succ_of_le h8⟩
  nd := w.nd
  la := by rw [List.length_append]; have := w.la; simp; omega
  lb := Nat.le_succ_of_le w.lb
/-- one more block -/
theorem SW.addB {K : PySem.W.Frag} {H H' : Hp} {A B : Addr} {n : Nat} {ma : List AE} {mb : List BE} (w : SW K H H' A B n ma mb) {t pa ra : Addr} {i : Nat} {ps : List Pt} (ht : H' t = some (.tup [.int i, .ref pa, .ref ra])) (hp : PtsAt H pa ps) (hr : H' ra = some (.lst [])) (r0 : H ra = none) (rA : ra ≠ A) (rB : ra ≠ B) (rn : ∀ e ∈ mb, ra ≠ e.ra) :
    SW K H (upd H' B (.lst (mb.map (fun e => V.ref e.t) ++ [.ref t]))) A B (n + 1) ma (mb ++ [⟨t, pa, ra, i, ps, []⟩]) where
  sm := w.sm.mut w.b0
  a0 := w.a0
  b0 := w.b0
  ab := w.ab
  ha := by rw [upd_ne w.ab]; exact w.ha
  hb := by rw [upd_same, List.map_append]; rfl
  ia := fun e he => ⟨tup_mut w.hb (w.ia e he).1, (w.ia e he).2⟩
  ib := fun e he => by
    rcases List.mem_append.mp he with he | he
    · obtain ⟨h1, h2, h3, h4, h5, h6, h7, h8⟩ := w.ib e he
      exact ⟨tup_mut w.hb h1, h2, by rw [upd_ne h7]; exact h3, fun q hq => (h4 q hq).mut w.hb, h5, h6, h7, Nat.le_succ_of_le h8⟩
    · rw [List.mem_singleton.mp he]
      exact ⟨tup_mut w.hb ht, hp, by rw [upd_ne rB]; exact hr, fun q hq => (by cases hq), r0, rA, rB, Nat.zero_le _⟩
  nd := by
    rw [List.map_append]
    refine List.nodup_append.mpr ⟨w.nd, by simp, fun a ha b hb z => ?_⟩
    obtain ⟨e, he, rfl⟩ := List.mem_map.mp ha
    rw [List.mem_singleton.mp hb] at z
    exact rn e he z.symm
  la := Nat.le_succ_of_le w.la
  lb := by rw [List.length_append]; have := w.lb; simp; omega
/-- one more row in the last block -/
theorem SW.addR {K : PySem.W.Frag} {H H' : Hp} {A B : Addr} {n : Nat} {ma : List AE} {mb : List BE} {b : BE} (w : SW K H H' A B n ma (mb ++ [b])) {o : Addr} {r : Rw} (ho : MA K H' o r) :
    SW K H (upd H' b.ra (.lst (b.os.map (fun q => V.ref q.1) ++ [.ref o]))) A B (n + 1) ma (mb ++ [⟨b.t, b.pa, b.ra, b.i, b.ps, b.os ++ [(o, r)]⟩]) := by
  have hb := w.ib b (List.mem_append_right _ (List.mem_singleton.mpr rfl))
  obtain ⟨b1, b2, b3, b4, b5, b6, b7, b8⟩ := hb
  have nd := w.nd
  rw [List.map_append] at nd
  have nb : ∀ e ∈ mb, e.ra ≠ b.ra := fun e he z => (List.nodup_append.mp nd).2.2 _ (List.mem_map_of_mem he) _ (List.mem_singleton.mpr rfl) z
  exact {
    sm := w.sm.mut b5
    a0 := w.a0
    b0 := w.b0
    ab := w.ab
    ha := by rw [upd_ne b6.symm]; exact w.ha
    hb := by rw [upd_ne b7.symm, w.hb, List.map_append, List.map_append]; rfl
    ia := fun e he => ⟨tup_mut b3 (w.ia e he).1, (w.ia e he).2⟩
    ib := fun e he => by
      rcases List.mem_append.mp he with he | he
      · obtain ⟨h1, h2, h3, h4, h5, h6, h7, h8⟩ := w.ib e (List.mem_append_left _ he)
        exact ⟨tup_mut b3 h1, h2, by rw [upd_ne (nb e he)]; exact h3, fun q hq => (h4 q hq).mut b3, h5, h6, h7, Nat.le_succ_of_le h8⟩
      · rw [List.mem_singleton.mp he]
        refine ⟨tup_mut b3 b1, b2, by rw [upd_same, List.map_append]; rfl, fun q hq => ?_, b5, b6, b7, by show (b.os ++ [(o, r)]).length ≤ _; rw [List.length_append]; simp; omega⟩
        rcases List.mem_append.mp hq with hq | hq
        · exact (b4 q hq).mut b3
        · rw [List.mem_singleton.mp hq]; exact ho.mut b3
    nd := by rw [List.map_append]; exact nd
    la := Nat.le_succ_of_le w.la
    lb := by have := w.lb; rw [List.length_append] at this ⊢; simp at this ⊢; omega }
theorem atI_last {α : Type} (xs : List α) (x : α) : atI (xs ++ [x]) (-1) = some x := by
  unfold atI ixN
  rw [List.length_append, List.length_singleton, if_neg (by decide), if_pos (by omega)]
  show (xs ++ [x])[(-1 + ((xs.length + 1 : Nat) : Int)).toNat]? = _
  rw [show (-1 + ((xs.length + 1 : Nat) : Int)).toNat = xs.length by omega]
  simp
def spSections (K : PySem.W.Frag) : Sp := fun vs H Q _ => ∃ (L hs : Addr) (ls : List (List Pt)) (heads : List Str) (s : Sec), vs = [.ref L, .ref hs] ∧ LinesAt H L ls ∧ SqT K H hs (heads.map V.str) ∧ (∀ ps ∈ ls, LineP ps) ∧ ls.length ≤ 100000 ∧ SecR heads 0 ⟨[], []⟩ ls s ∧
  ∀ p H', Same H H' → SecAt K H' p s → Q (.ref p) H'
section
variable {P : Program} {w : World} {K : PySem.W.Frag} {mg : Str → Option Value} {base : Heap} {sa : Addr} {sx : List Int}
theorem ok_sections (T : Tx K mg sa sx) : Cal P w K mg base 4 "sections" (spSections K) := by
  obtain ⟨fd, F⟩ := f_sections T
  refine ⟨_, fd, ["lines", "heads"], fnok F sc_sections (fun vs H Q E h => ?_) (fun cdv A outer s H vs Q E hr h => ?_), F.bindsN fun _ _ _ _ _ _ us hl => match us, hl with | [_, _], _ => rfl, g_sections T, F.kp⟩
  · obtain ⟨L, hs, ls, heads, s, rfl, _⟩ := h; rfl
  · obtain ⟨L, hs, ls, heads, se, rfl, ⟨m, hL, rfl, hm⟩, hhs, hlp, hll, hsec, q⟩ := h
    refine ⟨_, (pss_cons (ps_set (i := 2) sc_sections.nd rfl (by first | exact Or.inl rfl | exact Or.inr rfl) (pe_lst pa_nil))
    (pss_cons (ps_set (i := 3) sc_sections.nd rfl (by first | exact Or.inl rfl | exact Or.inr rfl) (pe_lst pa_nil))
    (pss_cons (ps_for PassesOwn.never rfl (pi_enum rfl (n_enumerate T) (pa_cons (pv 0) pa_nil)) (pg_tup (by rfl) (pgs_cons (pg_name (i := 4) sc_sections.nd rfl (by first | exact Or.inl rfl | exact Or.inr rfl)) (pgs_cons (pg_name (i := 5) sc_sections.nd rfl (by first | exact Or.inl rfl | exact Or.inr rfl)) pgs_nil)))
      (pss_one (ps_if (pt_cmpR op_in_seq (pe_ix ix_list (pv 5) pe_int (fun _ _ => rfl)) (pv 1) (by rfl)) (pss_one (ps_expr (pe_bm PySem.F.plainAttrs_list PySem.F.slot_list_append PySem.F.type_list_append mt_append (pv 3) (pa_cons (pe_tup (pa_cons (pv 4) (pa_cons (pv 5) (pa_cons (pe_lst pa_nil) pa_nil)))) pa_nil)))) (pss_one (ps_if (pt_cmpR op_gt (pe_callB (id := "len") call_len_seq rfl (n_len T) (by decide +kernel) (pa_cons (pv 3) pa_nil)) pe_int (nomark _)) (pss_one (ps_expr (pe_bm PySem.F.plainAttrs_list PySem.F.slot_list_append PySem.F.type_list_append mt_append (pe_ix ix_tup (pe_ix ix_list (pv 3) (pe_un un_neg pe_int) (fun _ _ => rfl)) pe_int (fun _ _ => rfl)) (pa_cons (pe_cal (ok_row_of T) hr (by decide) (pa_cons (pv 5) pa_nil)) pa_nil)))) (pss_one (ps_expr (pe_bm PySem.F.plainAttrs_list PySem.F.slot_list_append PySem.F.type_list_append mt_append (pv 2) (pa_cons (pe_tup (pa_cons (pv 4) (pa_cons (pv 5) pa_nil))) pa_nil)))))))))
    (pss_one (ps_ret (pe_tup (pa_cons (pv 2) (pa_cons (pv 3) pa_nil)))))))), ?_⟩
    rw [List.length_map] at hll
    refine ⟨sz1 (by simp), fun A hA => ⟨sz1 (by simp), fun B hB => ?_⟩⟩
    have nAB : A ≠ B := ne_of_none upd_same hB
    have hB0 : H B = none := (Same.new hA).free hB
    have sAB := (Same.new hA (o := .lst [])).trans (Same.new hB (o := .lst []))
    have w0 : SW K H (upd (upd H A (.lst [])) B (.lst [])) A B 0 [] [] := ⟨sAB, hA, hB0, nAB, by rw [upd_ne nAB, upd_same]; rfl, by rw [upd_same]; rfl, fun e he => (by cases he), fun e he => (by cases he), List.nodup_nil, Nat.zero_le _, Nat.zero_le _⟩
    generalize upd (upd H A (.lst [])) B (.lst []) = H1 at w0 ⊢
    refine ⟨_, rfl, L, _, rfl, SqL.of (w0.sm _ _ hL), ?_⟩
    refine for_it (walk_enum (K := K) (a := L) (xs := m.map fun q => V.ref q.1)) (fun i σ H' => ∃ (v4 v5 : Option V) (ma : List AE) (mb : List BE), σ = [some (.ref L), some (.ref hs), some (.ref A), some (.ref B), v4, v5] ∧ SW K H H' A B i ma mb ∧
      SecR heads i ⟨ma.map AE.d, mb.map BE.d⟩ ((m.map Prod.snd).drop i) se) ⟨none, none, [], [], rfl, w0, hsec⟩ (fun i σ H' _ h => ?_) ?_ ?_
    · obtain ⟨v4, v5, ma, mb, _, wi, _⟩ := h; exact SqL.of (wi.sm _ _ hL)
    · rintro i x σ H0 H2 hi ⟨v4, v5, ma, mb, rfl, wi, hR⟩ ⟨Tp, a, b, rfl, hT, rfl, ha, hb⟩
      cases ha
      have hi2 : i < m.length := by simpa using hi
      replace hb : (m.map fun q => V.ref q.1)[i]? = some b := hb
      obtain rfl : b = V.ref m[i].1 := by rw [List.getElem?_map, List.getElem?_eq_getElem hi2] at hb; exact (Option.some.inj hb).symm
      have hdr : (m.map Prod.snd).drop i = m[i].2 :: (m.map Prod.snd).drop (i + 1) := by
        rw [List.drop_eq_getElem_cons (by rw [List.length_map]; exact hi2), List.getElem_map]
      rw [hdr] at hR
      have hp := (hm _ (List.getElem_mem hi2)).1
      obtain ⟨hw, rr, elp⟩ := hlp _ (List.mem_map_of_mem (List.getElem_mem hi2))
      generalize m[i].1 = pa at hp ⊢
      generalize m[i].2 = ps at hp elp hR ⊢
      subst elp
      refine ⟨Tp, _, rfl, SqT.of upd_same, rfl, _, _, rfl, _, _, rfl, rfl, ?_⟩
      have wT := wi.step (Same.new hT (o := .tup [V.int (i : Nat), V.ref pa]))
      generalize upd H0 Tp (.tup [V.int (i : Nat), V.ref pa]) = H3 at wT ⊢
      clear wi hT
      obtain ⟨vs, hpa, pr⟩ := hp.pr
      cases pr with
      | cons h0 pr =>
      obtain rfl := (show _ = V.str hw from h0)
      have hL0 := SqL.of (K := K) (wT.sm _ _ hpa)
      refine ⟨_, rfl, pa, _, 0, .str hw, rfl, rfl, hL0, atI_nat rfl, _, rfl, hs, _, rfl, .inr (wT.sm.st hhs), rfl, Cm.flat_strs _, _, rfl, ?_⟩
      show if (inV (.str hw) (heads.map V.str)) = true then _ else _
      rw [Cm.inV_strs]
      cases hR with
      | block h1 hR =>
        refine tT (show hw ∈ heads from h1) ⟨_, rfl, .inl ⟨rfl, _, SqL.of wT.hb⟩, _, rfl, _, rfl, sz1 (by simp), fun ra hra => ⟨sz1 (by simp), fun t ht => ?_⟩⟩
        have w2 := wT.step ((Same.new hra (o := .lst [])).trans (Same.new ht (o := .tup [V.int (i : Nat), V.ref pa, V.ref ra])))
        have hr2 : (upd (upd H3 ra (.lst [])) t (.tup [V.int (i : Nat), V.ref pa, V.ref ra])) ra = some (.lst []) := (Same.new ht) _ _ upd_same
        have lb := wT.lb
        refine ⟨B, _, .ref t, rfl, rfl, w2.hb, sz2 (by rw [List.length_map]; omega), _, _, ma, mb ++ [⟨t, pa, ra, i, .w hw :: rr, []⟩], rfl, w2.addB upd_same hp hr2 (wT.sm.free hra) (ne_of_none wT.ha hra).symm (ne_of_none wT.hb hra).symm (fun e he => (ne_of_none (wT.ib e he).2.2.1 hra).symm), ?_⟩
        rw [List.map_append]
        exact hR
      | @row _ _ _ r _ _ h1 h2 h3 hR =>
        have hmb : mb ≠ [] := fun z => h2 (by rw [z]; rfl)
        obtain ⟨mb0, b, rfl⟩ : ∃ l b, mb = l ++ [b] := ⟨mb.dropLast, mb.getLast hmb, (List.dropLast_concat_getLast hmb).symm⟩
        obtain ⟨b1, b2, b3, b4, b5, b6, b7, b8⟩ := wT.ib b (List.mem_append_right _ (List.mem_singleton.mpr rfl))
        have hb3 := wT.hb
        rw [List.map_append] at hb3
        refine tF (show ¬ hw ∈ heads from h1) ⟨_, rfl, B, _, rfl, .inl (SqL.of hb3), _, _, rfl, rfl, _, rfl, tT (by simp) ?_⟩
        refine ⟨_, rfl, _, rfl, B, _, -1, _, rfl, rfl, SqL.of hb3, atI_last _ _, b.t, _, 2, .ref b.ra, rfl, rfl, SqT.of b1, atI_nat rfl, .inl ⟨rfl, _, SqL.of b3⟩, _, rfl, pa, _, r, rfl, hp.same wT.sm, h3, fun o H4 s4 ho => ?_⟩
        have w4 := wT.step s4
        refine ⟨b.ra, _, .ref o, rfl, rfl, s4 _ _ b3, sz2 (by rw [List.length_map]; omega), _, _, ma, mb0 ++ [⟨b.t, b.pa, b.ra, b.i, b.ps, b.os ++ [(o, r)]⟩], rfl, w4.addR ho, ?_⟩
        rw [List.map_append] at hR ⊢
        rw [show [b].map BE.d = [b.d] from rfl, addRow_snoc] at hR
        rw [show ([⟨b.t, b.pa, b.ra, b.i, b.ps, b.os ++ [(o, r)]⟩] : List BE).map BE.d = [(b.d.1, b.d.2.1, b.d.2.2 ++ [r])] by simp [BE.d]]
        exact hR
      | ahead h1 h2 hR =>
        have hmb : mb = [] := List.map_eq_nil_iff.mp h2
        subst hmb
        have hb3 : H3 B = some (.lst []) := wT.hb
        refine tF (show ¬ hw ∈ heads from h1) ⟨_, rfl, B, _, rfl, .inl (SqL.of hb3), _, _, rfl, rfl, _, rfl, tF (by simp) ?_⟩
        refine ⟨_, rfl, .inl ⟨rfl, _, SqL.of wT.ha⟩, _, rfl, _, rfl, sz1 (by simp), fun t ht => ?_⟩
        have w2 := wT.step (Same.new ht (o := .tup [V.int (i : Nat), V.ref pa]))
        have la := wT.la
        refine ⟨A, _, .ref t, rfl, rfl, w2.ha, sz2 (by rw [List.length_map]; omega), _, _, ma ++ [⟨t, pa, i, .w hw :: rr⟩], [], rfl, w2.addA upd_same hp, ?_⟩
        rw [List.map_append]
        exact hR
    · rintro σ H' ⟨v4, v5, ma, mb, rfl, wi, hR⟩
      rw [List.length_map, show m.length = (m.map (·.2)).length from (List.length_map ..).symm, List.drop_length] at hR
      cases hR with
      | nil =>
      refine ⟨_, rfl, _, rfl, sz1 (by simp), fun p hp => q p _ (wi.sm.trans (Same.new hp)) ⟨A, B, upd_same, ?_, ?_⟩⟩
      · have s := Same.new hp (o := .tup [V.ref A, V.ref B])
        exact ⟨ma, s _ _ wi.ha, rfl, fun e he => ⟨s _ _ (wi.ia e he).1, (wi.ia e he).2.same (wi.sm.trans s)⟩⟩
      · have s := Same.new hp (o := .tup [V.ref A, V.ref B])
        exact ⟨mb, s _ _ wi.hb, rfl, fun e he => let ⟨h1, h2, h3, h4, _⟩ := wi.ib e he; ⟨s _ _ h1, h2.same (wi.sm.trans s), s _ _ h3, fun q hq => (h4 q hq).same s⟩⟩
end
end K88
namespace Um
open PySem PySem.Spec PyProof.Rows Cm TL
open L2 hiding Same
/-! ### what is checked of a unit's text -/
structure De where
  i : Nat
  name : Str
  n : Int
def declF (most : Int) : Int → List Str → List De → Option (Nat × Str)
  | _, _, [] => none
  | t, seen, d :: r => if most < t + d.n then some (d.i, "many") else if d.name ∈ seen then some (d.i, "twice") else declF most (t + d.n) (seen ++ [d.name]) r
def wrongSkip (r : Rw) (b : Int) : Bool := match r with
  | .same _ _ k => decide (k < 1) || decide (b < k)
  | .there _ k => decide (k < 1) || decide (b < k)
  | _ => false
def opFault (cells : List Str) (arg : Bool) : List Val → Str
  | [] => ""
  | .own x :: r => if x ∉ cells then "unknown" else opFault cells arg r
  | .arg :: r => if arg = false then "argument" else opFault cells arg r
  | _ :: r => opFault cells arg r
def rowFault (cells : List Str) (arg : Bool) (rows : List Rw) (i : Nat) (r : Rw) : Str :=
  if 600 ≤ i then "many" else if opFault cells arg r.ops ≠ "" then opFault cells arg r.ops
  else if wrongSkip r ((rows.length : Int) - 1 - i) = true then "skip" else ""
def keyOf (ps : List Pt) : Str := match ps with
  | .w h :: .w x :: _ => if h ≠ "start" then x else ""
  | _ => ""
def rowsFault (cells : List Str) (arg : Bool) (rows : List Rw) : Nat → List Rw → Option (Nat × Str)
  | _, [] => none
  | i, r :: rest => if rowFault cells arg rows i r ≠ "" then some (i, rowFault cells arg rows i r) else rowsFault cells arg rows (i + 1) rest
def blocksFault (cells : List Str) : Nat → List Str → List (Nat × List Pt × List Rw) → Option (Nat × Str)
  | _, _, [] => none
  | c, seen, b :: rest => if 20 ≤ c then some (b.1, "many") else if keyOf b.2.1 ∈ seen then some (b.1, "twice") else if b.2.2 = [] then some (b.1, "empty")
    else match rowsFault cells (decide (headP b.2.1 ≠ "start")) b.2.2 0 b.2.2 with
      | some (i, f) => some (b.1 + 1 + i, f)
      | none => blocksFault cells (c + 1) (seen ++ [keyOf b.2.1]) rest
theorem opFault_small (cells : List Str) (arg : Bool) : ∀ l, (opFault cells arg l).length ≤ 1000
  | [] => Nat.zero_le _
  | .own x :: r => by
    unfold opFault; split
    · decide +kernel
    · exact opFault_small cells arg r
  | .arg :: r => by
    unfold opFault; split
    · decide +kernel
    · exact opFault_small cells arg r
  | .num _ :: r => opFault_small cells arg r
  | .place _ _ :: r => opFault_small cells arg r
  | .named _ :: r => opFault_small cells arg r
theorem rowFault_small (cells : List Str) (arg : Bool) (rows : List Rw) (i : Nat) (r : Rw) : (rowFault cells arg rows i r).length ≤ 1000 := by
  unfold rowFault
  split
  · decide +kernel
  · split
    · exact opFault_small cells arg _
    · split <;> decide +kernel
end Um
namespace K88
open PySem PySem.Spec PyProof.Rows Cm Um TL
open L2 hiding Same
/-! ### the lines of a kind, declarations, rows -/
def spOfKind (K : PySem.W.Frag) : Sp := fun vs H Q _ => ∃ (A : Addr) (l : List (Nat × List Pt)) (h : Str), vs = [.ref A, .str h] ∧ AheadAt H A l ∧ (∀ e ∈ l, LineP e.2) ∧ l.length ≤ 100000 ∧ ∀ p H', Same H H' → AheadAt H' p (l.filter fun e => decide (headP e.2 = h)) → Q (.ref p) H'
def DeclAt (H : Hp) (D : Addr) (l : List De) : Prop := ∃ m : List (Addr × De), H D = some (.lst (m.map fun q => V.ref q.1)) ∧ m.map (·.2) = l ∧ ∀ q ∈ m, H q.1 = some (.tup [.int q.2.i, .str q.2.name, .int q.2.n])
def spDecl (K : PySem.W.Frag) : Sp := fun vs H Q E => ∃ (D : Addr) (l : List De) (most : Int), vs = [.ref D, .int most] ∧ DeclAt H D l ∧ l.length ≤ 90000 ∧ (∀ d ∈ l, d.i ≤ 100000) ∧ (declF most 0 [] l = none → ∀ H', Same H H' → Q .non H') ∧
  (∀ i c, declF most 0 [] l = some (i, c) → ∀ H' d, Same H H' → H' d = some (.xd [("cause", .str c), ("row", .int (i : Nat))]) → E (.ref (BT K)) (some d) H')
def spSkip (K : PySem.W.Frag) : Sp := fun vs H Q _ => ∃ (o : Addr) (r : Rw) (b : Int), vs = [.ref o, .int b] ∧ MA K H o r ∧ ∀ H', Same H H' → Q (.bl (wrongSkip r b)) H'
theorem tk_filter {α : Type} {l : List α} {p : α → Bool} {i : Nat} (hi : i < l.length) : (l.take (i + 1)).filter p = (l.take i).filter p ++ (if p l[i] = true then [l[i]] else []) := by
  rw [take_snocN hi, List.filter_append]
  congr 1
  cases h : p l[i] <;> simp [h]
section
variable {P : Program} {w : World} {K : PySem.W.Frag} {mg : Str → Option Value} {base : Heap} {sa : Addr} {sx : List Int}
theorem ok_of_kind (T : Tx K mg sa sx) : Cal P w K mg base 1 "of_kind" (spOfKind K) := by
  obtain ⟨fd, F⟩ := f_of_kind T
  refine ⟨_, fd, ["ahead", "head"], fnok F sc_of_kind (fun vs H Q E h => ?_) (fun cdv A outer s H vs Q E hr h => ?_), F.bindsN fun _ _ _ _ _ _ us hl => match us, hl with | [_, _], _ => rfl, g_of_kind T, F.kp⟩
  · obtain ⟨A, l, hh, rfl, _⟩ := h; rfl
  · obtain ⟨A, l, hh, rfl, ⟨m, hA, rfl, hm⟩, hl, ll, q⟩ := h
    refine ⟨_, (pss_one (ps_ret (pe_lc (own := [("at", 2), ("parts", 3)]) (g := gTup K 2 (gCons (gName 2) (gCons (gName 3) gNil))) rfl sc_of_kind.nd (pi_list (pv 0)) (blkOk_by (own := [("at", 2), ("parts", 3)]) (N := ["ahead", "head", "at", "parts"]) (sc := defScope s_of_kind) (by decide +kernel)) (fun _ _ _ _ _ => pg_tup (by rfl) (pgs_cons (pg_name (i := 2) sc_of_kind.nd rfl (Or.inl rfl)) (pgs_cons (pg_name (i := 3) sc_of_kind.nd rfl (Or.inl rfl)) pgs_nil))) (fun _ _ _ _ _ => (pts_one (pt_cmpR op_eq (pe_ix (show IxR _ (rIxL K) from ix_list) (pv 3) pe_int (fun _ _ => rfl)) (pv 1) (nomark _)))) (fun _ _ _ _ _ => (pe_tup (pa_cons (pv 2) (pa_cons (pv 3) pa_nil))))))), ?_⟩
    rw [List.length_map] at ll
    refine ⟨_, rfl, A, rfl, ⟨_, SqL.of hA⟩, fun D hD => ?_⟩
    refine lc_list (K := K) (xs := m.map fun e => V.ref e.t) (fun i H' => ∃ m2 : List AE, Same H H' ∧ H' D = some (.lst (m2.map fun e => V.ref e.t)) ∧ m2.map AE.d = ((m.take i).map AE.d).filter (fun e => decide (headP e.2 = hh)) ∧ m2.length ≤ i ∧ ∀ e ∈ m2, H' e.t = some (.tup [.int e.i, .ref e.pa]) ∧ PtsAt H e.pa e.ps) ⟨[], Same.new hD, upd_same, rfl, Nat.zero_le _, fun e he => (by cases he)⟩ (fun i H' _ h => ?_) ?_ ?_
    · obtain ⟨m2, sm, _⟩ := h; exact SqL.of (sm _ _ hA)
    · rintro i x H' hx ⟨m2, sm, hS, em, lm, hm2⟩
      have hi : i < m.length := by have := (List.getElem?_eq_some_iff.mp hx).1; simpa using this
      obtain rfl : x = V.ref m[i].t := by rw [List.getElem?_map, List.getElem?_eq_getElem hi] at hx; exact (Option.some.inj hx).symm
      obtain ⟨ht, hp⟩ := hm _ (List.getElem_mem hi)
      obtain ⟨hw, rr, elp⟩ := hl _ (List.mem_map_of_mem (List.getElem_mem hi))
      have et : (m.take (i + 1)).map AE.d = (m.take i).map AE.d ++ [m[i].d] := by rw [take_snocN hi, List.map_append]; rfl
      have elp : m[i].ps = .w hw :: rr := elp
      obtain ⟨vs, hpa, pr⟩ := hp.pr
      rw [elp] at pr
      cases pr with
      | cons h0 pr =>
      obtain rfl := (show _ = V.str hw from h0)
      refine ⟨m[i].t, _, rfl, SqT.of (sm _ _ ht), rfl, _, _, rfl, _, _, rfl, rfl, rfl, ?_⟩
      refine ⟨_, rfl, m[i].pa, _, 0, .str hw, rfl, rfl, SqL.of (sm _ _ hpa), atI_nat rfl, _, rfl, rfl, _, rfl, ?_⟩
      have hd : headP m[i].d.2 = hw := by show headP m[i].ps = hw; rw [elp]; rfl
      refine dC (fun c => ?_) (fun c => ?_)
      · refine ⟨_, rfl, _, rfl, sz1 (by simp), fun t ht2 => ⟨_, Same.new ht2 _ _ hS, sz2 (by rw [List.length_map]; omega), m2 ++ [⟨t, m[i].pa, m[i].i, m[i].ps⟩], (sm.trans (Same.new ht2)).mut hD, by rw [upd_same, List.map_append]; rfl, ?_, by rw [List.length_append, List.length_singleton]; omega, fun e he => ?_⟩⟩
        · rw [et, List.filter_append, ← em, List.map_append, List.filter_cons, if_pos (decide_eq_true (by rw [hd]; injection c))]; rfl
        · have hS2 := Same.new ht2 (o := .tup [V.int m[i].i, V.ref m[i].pa]) _ _ hS
          rcases List.mem_append.mp he with he | he
          · exact ⟨tup_mut hS2 (Same.new ht2 _ _ (hm2 e he).1), (hm2 e he).2⟩
          · rw [List.mem_singleton.mp he]; exact ⟨tup_mut hS2 upd_same, hp⟩
      · refine ⟨m2, sm, hS, ?_, by omega, hm2⟩
        rw [et, List.filter_append, ← em, List.filter_cons, if_neg (by rw [hd]; intro z; exact c (by rw [of_decide_eq_true z]))]
        simp
    · rintro H' ⟨m2, sm, hS, em, lm, hm2⟩
      rw [List.length_map, List.take_length] at em
      exact q D H' sm ⟨m2, hS, em, fun e he => ⟨(hm2 e he).1, (hm2 e he).2.same sm⟩⟩
theorem kit2 (T : Tx K mg sa sx) (r : Rw) : PySem.W.kitAny K (.ref (He.ga K r.cn)) [.ref (He.ga K "Same"), .ref (He.ga K "There")] = some (match r with | .same _ _ _ => true | .there _ _ => true | _ => false) := by
  cases r with
  | tell v => exact kitAny_cons (b := false) (x_kit_Tell_Same T) (fun _ => kitAny_cons (b := false) (x_kit_Tell_There T) (fun _ => kitAny_nil) (fun z => by cases z)) (fun z => by cases z)
  | set p v => exact kitAny_cons (b := false) (x_kit_Put_Same T) (fun _ => kitAny_cons (b := false) (x_kit_Put_There T) (fun _ => kitAny_nil) (fun z => by cases z)) (fun z => by cases z)
  | same a b k => exact kitAny_cons (b := true) (x_kit_Same_Same T) (fun z => by cases z) (fun _ => rfl)
  | there x k => exact kitAny_cons (b := false) (x_kit_There_Same T) (fun _ => kitAny_cons (b := true) (x_kit_There_There T) (fun z => by cases z) (fun _ => rfl)) (fun z => by cases z)
  | call x v k => exact kitAny_cons (b := false) (x_kit_Call_Same T) (fun _ => kitAny_cons (b := false) (x_kit_Call_There T) (fun _ => kitAny_nil) (fun z => by cases z)) (fun z => by cases z)
  | fin => exact kitAny_cons (b := false) (x_kit_End_Same T) (fun _ => kitAny_cons (b := false) (x_kit_End_There T) (fun _ => kitAny_nil) (fun z => by cases z)) (fun z => by cases z)
theorem ok_is_wrong_skip (T : Tx K mg sa sx) : Cal P w K mg base 1 "is_wrong_skip" (spSkip K) := by
  obtain ⟨fd, F⟩ := f_is_wrong_skip T
  refine ⟨_, fd, ["row", "behind"], fnok F sc_is_wrong_skip (fun vs H Q E h => ?_) (fun cdv A outer s H vs Q E hr h => ?_), F.bindsN fun _ _ _ _ _ _ us hl => match us, hl with | [_, _], _ => rfl, g_is_wrong_skip T, F.kp⟩
  · obtain ⟨o, r, b, rfl, _⟩ := h; rfl
  · obtain ⟨o, r, b, rfl, m, q⟩ := h
    refine ⟨_, (pss_one (ps_ret (pe_and (pe_callB (id := "isinstance") (r := rIsiT K) call_isiT rfl (n_isinstance T) (by decide +kernel) (pa_cons (pv 0) (pa_cons (pe_tup (pa_cons (pe_glob (v := .ref _) rfl (g_Same T) rfl) (pa_cons (pe_glob (v := .ref _) rfl (g_There T) rfl) pa_nil))) pa_nil))) (pe_one (pe_or (pe_cmpR op_lt (pe_fld (pv 0) rfl) pe_int (nomark _)) (pe_one (pe_cmpR op_gt (pe_fld (pv 0) rfl) (pv 1) (nomark _)))))))), ?_⟩
    refine ⟨_, rfl, sz1 (by simp), fun tp htp => ?_⟩
    have s1 := Same.new htp (o := .tup [V.ref (He.ga K "Same"), V.ref (He.ga K "There")])
    have m1 := m.same s1
    have htt : (upd H tp (.tup [V.ref (He.ga K "Same"), V.ref (He.ga K "There")])) tp = some (.tup [V.ref (He.ga K "Same"), V.ref (He.ga K "There")]) := upd_same
    generalize upd H tp (.tup [V.ref (He.ga K "Same"), V.ref (He.ga K "There")]) = H1 at s1 m1 htt ⊢
    refine ⟨_, tp, _, _, _, _, rfl, htt, .cons (.own _) (.cons (.own _) .nil), ma_ty T m1, kit2 T r, _, rfl, ?_⟩
    have sk : ∀ (k : Int), wrongSkip r b = (decide (k < 1) || decide (b < k)) → ∀ X, X = (decide (k < 1)) → True := fun _ _ _ _ => trivial
    cases r with
    | same x y k =>
      obtain ⟨t, u, dx, ha, hb, hk, ho⟩ := m1
      refine iteT ⟨_, rfl, o, _, dx, _, _, rfl, ho, c_Same T, na_Same_skip T, fl1, _, _, rfl, rfl, _, rfl, ?_⟩
      have e : wrongSkip (.same x y k) b = (decide (k < 1) || decide (b < k)) := rfl
      rw [e] at q
      refine dC (fun c => ?_) (fun c => ?_)
      · rw [decide_eq_true c] at q; exact q _ s1
      · rw [decide_eq_false c, Bool.false_or] at q
        exact ⟨_, rfl, o, _, dx, _, _, rfl, ho, c_Same T, na_Same_skip T, fl1, _, rfl, _, _, rfl, rfl, q _ s1⟩
    | there x k =>
      obtain ⟨dx, hx, hk, ho⟩ := m1
      refine iteT ⟨_, rfl, o, _, dx, _, _, rfl, ho, c_There T, na_There_skip T, fl1, _, _, rfl, rfl, _, rfl, ?_⟩
      have e : wrongSkip (.there x k) b = (decide (k < 1) || decide (b < k)) := rfl
      rw [e] at q
      refine dC (fun c => ?_) (fun c => ?_)
      · rw [decide_eq_true c] at q; exact q _ s1
      · rw [decide_eq_false c, Bool.false_or] at q
        exact ⟨_, rfl, o, _, dx, _, _, rfl, ho, c_There T, na_There_skip T, fl1, _, rfl, _, _, rfl, rfl, q _ s1⟩
    | tell v => exact iteF (q _ s1)
    | set p v => exact iteF (q _ s1)
    | call x v k => exact iteF (q _ s1)
    | fin => exact iteF (q _ s1)
end
end K88
namespace K88
open PySem PySem.Spec PyProof.Rows Cm Um TL
open L2 hiding Same
/-! ### declarations, rows, blocks checked -/
def seenV (l : List Str) : List (Str × V) := l.map fun n => (n, V.bl true)
theorem val_seen (l : List Str) (n : Str) : (valV (skv (seenV l)) (Sum.inr n)).isSome = decide (n ∈ l) := by
  rw [val_skv]
  unfold seenV
  induction l with
  | nil => rfl
  | cons a l ih =>
    rw [List.map_cons, List.lookup_cons]
    by_cases h : n = a
    · subst h; simp
    · have : (n == a) = false := beq_eq_false_iff_ne.mpr h
      rw [this]
      show (List.lookup n (l.map fun n => (n, V.bl true))).isSome = _
      rw [ih]
      exact decide_eq_decide.mpr ⟨fun z => List.mem_cons_of_mem _ z, fun z => (List.mem_cons.mp z).resolve_left h⟩
theorem put_seen {l : List Str} {n : Str} (h : n ∉ l) : putK (skv (seenV l)) (Sum.inr n) (V.bl true) = skv (seenV (l ++ [n])) := by
  rw [putK_new]
  · unfold skv seenV; rw [List.map_append, List.map_append]; rfl
  · have := val_seen l n
    rw [decide_eq_false h] at this
    exact Option.isNone_iff_eq_none.mp (by cases e : valV (skv (seenV l)) (Sum.inr n) with | none => rfl | some _ => rw [e] at this; cases this)
theorem dps_vals {K : PySem.W.Frag} {H : Hp} : ∀ {vs : List Val} {xs : List V}, DpAll K H xs (vs.map fun v => .tuple v.ds) → Paired (fun x v => ∃ t, x = .ref t ∧ SqT K H t (Val.vs v)) xs vs
  | [], _, h => by cases h; exact .nil
  | v :: vs, _, h => by
    cases h with
    | cons h1 h2 =>
    refine .cons ?_ (dps_vals h2)
    cases h1 with
    | tup hs hd =>
    refine ⟨_, rfl, ?_⟩
    cases v with
    | num n => cases hd with | cons a b => cases a; cases b with | cons a b => cases a; cases b; exact hs
    | arg => cases hd with | cons a b => cases a; cases b; exact hs
    | place x k => cases hd with | cons a b => cases a; cases b with | cons a b => cases a; cases b with | cons a b => cases a; cases b; exact hs
    | own x => cases hd with | cons a b => cases a; cases b with | cons a b => cases a; cases b; exact hs
    | named x => cases hd with | cons a b => cases a; cases b with | cons a b => cases a; cases b; exact hs
theorem paired_at {α β : Type} {R : α → β → Prop} : ∀ {xs : List α} {ys : List β}, Paired R xs ys → ∀ {i : Nat} {x : α}, xs[i]? = some x → ∃ y, ys[i]? = some y ∧ R x y
  | _, _, .nil, i, x, h => by cases i <;> cases h
  | _, _, .cons h0 h, 0, x, e => by cases e; exact ⟨_, rfl, h0⟩
  | _, _, .cons h0 h, i + 1, x, e => paired_at h (show _[i]? = some x from e)
def HeadOk (ps : List Pt) : Prop := (∃ h x r, ps = .w h :: .w x :: r ∧ h ≠ "start") ∨ ∃ r, ps = .w "start" :: r
def spRowFault (K : PySem.W.Frag) : Sp := fun vs H Q _ => ∃ (ra ca : Addr) (os : List (Addr × Rw)) (cells : List Str) (arg : Bool) (i : Nat) (q : Addr × Rw), vs = [.ref ra, .int i, .ref ca, .bl arg] ∧ H ra = some (.lst (os.map fun q => V.ref q.1)) ∧ os[i]? = some q ∧ MA K H q.1 q.2 ∧ H ca = some (.lst (cells.map V.str)) ∧
  ∀ H', Same H H' → Q (.str (rowFault cells arg (os.map (·.2)) i q.2)) H'
def spKey : Sp := fun vs H Q _ => ∃ (a : Addr) (ps : List Pt), vs = [.ref a] ∧ PtsAt H a ps ∧ HeadOk ps ∧ Q (.str (keyOf ps)) H
section
variable {P : Program} {w : World} {K : PySem.W.Frag} {mg : Str → Option Value} {base : Heap} {sa : Addr} {sx : List Int}
theorem mg_ops (T : Tx K mg sa sx) {H : Hp} {o : Addr} {r : Rw} {Q : VK} (m : MA K H o r) (k : ∀ l xs, H l = none → xs.length ≤ 2 → DpAll K H xs r.opd → Q (.ref l) (upd H l (.lst xs))) :
    ∃ a C dx fs sp, V.ref o = .ref a ∧ H a = some (.ins C dx fs) ∧ fs.lookup ("operands" : Str) = none ∧ MCal P w K mg base 1 C "operands" sp ∧ sp [.ref a] H Q E0 := by
  cases r with
  | tell v => obtain ⟨t, dx, hv, ho⟩ := m; exact ⟨o, _, _, _, _, rfl, ho, fl2 (by decide +kernel) rfl, ok_Tell_operands T, o, _, ⟨v, rfl⟩, rfl, ⟨t, dx, hv, ho⟩, k⟩
  | set p v => obtain ⟨t, u, dx, hp, hv, ho⟩ := m; exact ⟨o, _, _, _, _, rfl, ho, fl2 (by decide +kernel) (fl2 (by decide +kernel) rfl), ok_Put_operands T, o, _, ⟨p, v, rfl⟩, rfl, ⟨t, u, dx, hp, hv, ho⟩, k⟩
  | same x y n => obtain ⟨t, u, dx, hp, hv, hn, ho⟩ := m; exact ⟨o, _, _, _, _, rfl, ho, fl2 (by decide +kernel) (fl2 (by decide +kernel) (fl2 (by decide +kernel) rfl)), ok_Same_operands T, o, _, ⟨x, y, n, rfl⟩, rfl, ⟨t, u, dx, hp, hv, hn, ho⟩, k⟩
  | there x n => obtain ⟨dx, hx, hn, ho⟩ := m; exact ⟨o, _, _, _, _, rfl, ho, fl2 (by decide +kernel) (fl2 (by decide +kernel) rfl), ok_There_operands T, o, _, ⟨x, n, rfl⟩, rfl, ⟨dx, hx, hn, ho⟩, k⟩
  | call x v n => obtain ⟨u, dx, hx, hv, hn, ho⟩ := m; exact ⟨o, _, _, _, _, rfl, ho, fl2 (by decide +kernel) (fl2 (by decide +kernel) (fl2 (by decide +kernel) rfl)), ok_Call_operands T, o, _, ⟨x, v, n, rfl⟩, rfl, ⟨u, dx, hx, hv, hn, ho⟩, k⟩
  | fin => obtain ⟨dx, ho⟩ := m; exact ⟨o, _, _, _, _, rfl, ho, rfl, ok_End_operands T, o, _, rfl, rfl, ⟨dx, ho⟩, k⟩
theorem ok_check_declared (T : Tx K mg sa sx) (hP : PF P) : CalX P w K mg base 4 "check_declared" (spDecl K) := by
  obtain ⟨fd, F⟩ := f_check_declared T
  obtain ⟨fb, FB, bB⟩ := ok_BadText (P := P) (w := w) (base := base) T hP
  refine ⟨_, fd, ["declared", "most"], F.ok sc_check_declared (fun vs H Q E h => ?_) (fun cdv A outer s H vs Q E hr h => ?_), F.bindsN (fun _ _ _ _ _ _ us hl => match us, hl with | [_, _], _ => rfl), g_check_declared T, F.kp⟩
  · obtain ⟨D, l, most, rfl, _⟩ := h; rfl
  · obtain ⟨D, l, most, rfl, ⟨m, hD, rfl, hm⟩, ll, li, q, qe⟩ := h
    refine ⟨_, (pss_cons (ps_set (i := 2) sc_check_declared.nd rfl (by first | exact Or.inl rfl | exact Or.inr rfl) pe_int)
    (pss_cons (ps_set (i := 3) sc_check_declared.nd rfl (by first | exact Or.inl rfl | exact Or.inr rfl) pe_dnewK)
    (pss_one (ps_for (passes_of rfl) rfl (pi_list (pv 0)) (pg_tup (by rfl) (pgs_cons (pg_name (i := 4) sc_check_declared.nd rfl (by first | exact Or.inl rfl | exact Or.inr rfl)) (pgs_cons (pg_name (i := 5) sc_check_declared.nd rfl (by first | exact Or.inl rfl | exact Or.inr rfl)) (pgs_cons (pg_name (i := 6) sc_check_declared.nd rfl (by first | exact Or.inl rfl | exact Or.inr rfl)) pgs_nil))))
      (pss_cons (ps_aug (i := 2) sc_check_declared.nd rfl (Or.inl rfl) (pv 6) ip_add)
      (pss_cons (ps_if (pt_cmpR op_gt (pv 2) (pv 1) (nomark _)) (pss_one (ps_raise rfl (takes_of rfl rfl rfl rfl) (pmk_oex (exT T).oex (exT T).iC (exT T).tI FB (hr.mono (by decide)) bB .nil pass0 rfl (g_BadText T) (pa_cons (pv 4) (pa_cons pe_str pa_nil))))) pss_nil)
      (pss_cons (ps_if (pt_cmp (pc_din (hu_of hr) (pv 5) (pv 3))) (pss_one (ps_raise rfl (takes_of rfl rfl rfl rfl) (pmk_oex (exT T).oex (exT T).iC (exT T).tI FB (hr.mono (by decide)) bB .nil pass0 rfl (g_BadText T) (pa_cons (pv 4) (pa_cons pe_str pa_nil))))) pss_nil)
      (pss_one (ps_dput (hu_of hr) (pv 3) (pv 5) pe_bl rfl))))))))), ?_⟩
    rw [List.length_map] at ll
    refine fun S hS => ?_
    have sS := Same.new hS (o := .dK [])
    refine ⟨_, rfl, D, rfl, ⟨_, SqL.of (sS _ _ hD)⟩, ?_⟩
    refine for_list (xs := m.map fun q => V.ref q.1) (fun i σ H' => ∃ (t : Int) (seen : List Str) (v4 v5 v6 : Option V), σ = [some (.ref D), some (.int most), some (.int t), some (.ref S), v4, v5, v6] ∧ Same H H' ∧ H' S = some (.dK (skv (seenV seen))) ∧ seen.length ≤ i ∧ declF most 0 [] (m.map Prod.snd) = declF most t seen ((m.map Prod.snd).drop i)) ⟨0, [], none, none, none, rfl, sS, upd_same, Nat.zero_le _, rfl⟩ (fun i σ H' _ h => ?_) ?_ ?_
    · obtain ⟨t, seen, v4, v5, v6, _, sm, _⟩ := h; exact SqL.of (sm _ _ hD)
    · rintro i x σ H' hx ⟨t, seen, v4, v5, v6, rfl, sm, hSS, lse, he⟩
      have hi : i < m.length := by have := (List.getElem?_eq_some_iff.mp hx).1; simpa using this
      obtain rfl : x = V.ref m[i].1 := by rw [List.getElem?_map, List.getElem?_eq_getElem hi] at hx; exact (Option.some.inj hx).symm
      have hdr : (m.map Prod.snd).drop i = m[i].2 :: (m.map Prod.snd).drop (i + 1) := by
        rw [List.drop_eq_getElem_cons (by rw [List.length_map]; exact hi), List.getElem_map]
      rw [hdr] at he
      have ht := sm _ _ (hm _ (List.getElem_mem hi))
      have hli := li _ (List.mem_map_of_mem (List.getElem_mem hi))
      generalize m[i].1 = ta at ht ⊢
      generalize m[i].2 = d at ht he hli ⊢
      have hiN : ((d.i : Nat) : Int).natAbs ≤ 4000000 := by have : d.i ≤ 100000 := hli; omega
      refine ⟨ta, _, rfl, SqT.of ht, rfl, _, _, rfl, _, _, rfl, _, _, rfl, rfl, ?_⟩
      refine ⟨_, rfl, _, rfl, _, _, rfl, rfl, ?_⟩
      refine ⟨_, rfl, _, rfl, _, _, rfl, rfl, _, rfl, ?_⟩
      refine dC (fun c => ?_) (fun c => ?_)
      · refine ⟨_, rfl, raise2 hiN (by decide +kernel) fun H2 d2 s2 h2 => qe _ _ ?_ _ _ (sm.trans s2) h2⟩
        rw [he]; unfold declF; rw [if_pos c]
      refine ⟨_, rfl, _, rfl, S, _, rfl, DGet.k (k := .inr d.name) hSS, _, rfl, ?_⟩
      rw [val_seen]
      refine dC (fun c2 => ?_) (fun c2 => ?_)
      · refine ⟨_, rfl, raise2 hiN (by decide +kernel) fun H2 d2 s2 h2 => qe _ _ ?_ _ _ (sm.trans s2) h2⟩
        rw [he]; unfold declF; rw [if_neg c, if_pos c2]
      refine ⟨_, rfl, _, rfl, S, _, rfl, DPut.k (k := .inr d.name) hSS (sz2 (by unfold skv seenV; rw [List.length_map, List.length_map]; omega)), ?_⟩
      rw [put_seen c2]
      refine ⟨t + d.n, seen ++ [d.name], _, _, _, rfl, sm.mut hS, upd_same, by rw [List.length_append, List.length_singleton]; omega, ?_⟩
      rw [he]
      conv => lhs; unfold declF
      rw [if_neg c, if_neg c2]
    · rintro σ H' ⟨t, seen, v4, v5, v6, rfl, sm, hSS, lse, he⟩
      rw [List.length_map, show m.length = (m.map Prod.snd).length from (List.length_map ..).symm, List.drop_length] at he
      exact q he _ sm
theorem ok_key_of (T : Tx K mg sa sx) : Cal P w K mg base 1 "key_of" spKey := by
  obtain ⟨fd, F⟩ := f_key_of T
  refine ⟨_, fd, ["parts"], fnok F sc_key_of (fun vs H Q E h => ?_) (fun cdv A outer s H vs Q E hr h => ?_), F.bindsN fun _ _ _ _ _ _ us hl => match us, hl with | [_], _ => rfl, g_key_of T, F.kp⟩
  · obtain ⟨a, ps, rfl, _⟩ := h; rfl
  · obtain ⟨a, ps, rfl, hp, ho, q⟩ := h
    refine ⟨_, (pss_one (ps_ret (pe_ifExp (pt_cmpR op_ne (pe_ix ix_list (pv 0) pe_int (fun _ _ => rfl)) pe_str (nomark _)) (pe_ix ix_list (pv 0) pe_int (fun _ _ => rfl)) pe_str))), ?_⟩
    obtain ⟨vs, ha, pr⟩ := hp.pr
    have hL := SqL.of (K := K) ha
    rcases ho with ⟨hh, x, r, rfl, hn⟩ | ⟨r, rfl⟩
    · cases pr with
      | cons h0 pr =>
      cases pr with
      | cons h1 pr =>
      obtain rfl := (show _ = V.str hh from h0)
      obtain rfl := (show _ = V.str x from h1)
      refine ⟨_, rfl, a, _, 0, .str hh, rfl, rfl, hL, atI_nat rfl, rfl, _, rfl, uT (fun z => hn (by injection z)) ⟨_, rfl, a, _, 1, .str x, rfl, rfl, hL, atI_nat rfl, ?_⟩⟩
      have e : keyOf (.w hh :: .w x :: r) = x := by show (if hh ≠ "start" then x else "") = x; rw [if_pos hn]
      rw [e] at q; exact q
    · cases pr with
      | cons h0 pr =>
      obtain rfl := (show _ = V.str "start" from h0)
      refine ⟨_, rfl, a, _, 0, .str "start", rfl, rfl, hL, atI_nat rfl, rfl, _, rfl, uF rfl ?_⟩
      have e : keyOf (.w "start" :: r) = "" := by
        cases r with
        | nil => rfl
        | cons p r => cases p with
          | w x => show (if ("start" : Str) ≠ "start" then x else "") = ""; rw [if_neg (by simp)]
          | _ => rfl
      rw [e] at q; exact q
end
end K88
namespace K88
open PySem PySem.Spec PyProof.Rows Cm Um TL
open L2 hiding Same
/-! ### a row's fault, the blocks' -/
theorem ops_ok {K : PySem.W.Frag} {H : Hp} {o : Addr} {r : Rw} (m : MA K H o r) : r.ops.length ≤ 2 := by cases r <;> simp [Rw.ops]
def spChkB (K : PySem.W.Frag) : Sp := fun vs H Q E => ∃ (B ca : Addr) (bs : List (Nat × List Pt × List Rw)) (cells : List Str), vs = [.ref B, .ref ca] ∧ BlocksAt K H B bs ∧ H ca = some (.lst (cells.map V.str)) ∧ (∀ b ∈ bs, HeadOk b.2.1) ∧ (∀ b ∈ bs, b.1 ≤ 100000 ∧ b.2.2.length ≤ 100000) ∧ bs.length ≤ 90000 ∧
  (blocksFault cells 0 [] bs = none → ∀ H', Same H H' → Q .non H') ∧ (∀ i c, blocksFault cells 0 [] bs = some (i, c) → ∀ H' d, Same H H' → H' d = some (.xd [("cause", .str c), ("row", .int (i : Nat))]) → E (.ref (BT K)) (some d) H')
section
variable {P : Program} {w : World} {K : PySem.W.Frag} {mg : Str → Option Value} {base : Heap} {sa : Addr} {sx : List Int}
theorem ok_row_fault (T : Tx K mg sa sx) : Cal P w K mg base 2 "row_fault" (spRowFault K) := by
  obtain ⟨fd, F⟩ := f_row_fault T
  refine ⟨_, fd, ["rows", "index", "cells", "has_argument"], fnok F sc_row_fault (fun vs H Q E h => ?_) (fun cdv A outer s H vs Q E hr h => ?_), F.bindsN fun _ _ _ _ _ _ us hl => match us, hl with | [_, _, _, _], _ => rfl, g_row_fault T, F.kp⟩
  · obtain ⟨ra, ca, os, cells, arg, i, p, rfl, _⟩ := h; rfl
  · obtain ⟨ra, ca, os, cells, arg, i, ⟨o, r⟩, rfl, hra, hi, m, hca, q⟩ := h
    refine ⟨_, (pss_cons (ps_set (i := 4) sc_row_fault.nd rfl (by first | exact Or.inl rfl | exact Or.inr rfl) (pe_ix ix_list (pv 0) (pv 1) (fun _ _ => rfl)))
    (pss_cons (ps_if (pt_cmpR op_ge (pv 1) (show PE _ _ (tC (V.int 600)) from (i_MOST_ROWS T).elim fun _ q => pe_glob rfl q ⟨_, rfl⟩) (nomark _)) (pss_one (ps_ret pe_str)) pss_nil)
    (pss_cons (ps_for PassesOwn.never rfl (pi_list (pe_mG (k := 1) hr (by decide) (pv 4))) (pg_name (i := 5) sc_row_fault.nd rfl (by first | exact Or.inl rfl | exact Or.inr rfl))
      (pss_cons (ps_if (PW.pt (pw_and (pt_cmpR op_eq (pe_ix ix_tup (pv 5) pe_int (fun _ _ => rfl)) pe_str (nomark _)) (pw_and1 (pt_cmpR op_notIn_seq (pe_ix ix_tup (pv 5) pe_int (fun _ _ => rfl)) (pv 2) (by rfl))))) (pss_one (ps_ret pe_str)) pss_nil)
      (pss_one (ps_if (PW.pt (pw_and (pt_cmpR op_eq (pe_ix ix_tup (pv 5) pe_int (fun _ _ => rfl)) pe_str (nomark _)) (pw_and1 (pt_not (pt_val (pv 3)))))) (pss_one (ps_ret pe_str)) pss_nil))))
    (pss_one (ps_ret (pe_ifExp (pt_val (pe_cal (ok_is_wrong_skip T) hr (by decide) (pa_cons (pv 4) (pa_cons (pe_op op_sub (pe_op op_sub (pe_callB (id := "len") call_len_seq rfl (n_len T) (by decide +kernel) (pa_cons (pv 0) pa_nil)) pe_int) (pv 1)) pa_nil)))) pe_str pe_str)))))), ?_⟩
    have hi2 : i < os.length := (List.getElem?_eq_some_iff.mp hi).1
    have hat : atI (os.map fun q => V.ref q.1) ((i : Nat) : Int) = some (.ref o) := atI_nat (by rw [List.getElem?_map, hi]; rfl)
    have m : MA K H o r := m
    refine ⟨_, rfl, _, rfl, ra, _, i, .ref o, rfl, rfl, SqL.of hra, hat, ?_⟩
    refine ⟨_, rfl, _, _, rfl, rfl, _, rfl, ?_⟩
    have ef : ∀ z, rowFault cells arg (os.map (·.2)) i r = z → Q (.str z) H := fun z e => by rw [← e]; exact q _ (Cm.Same.refl _)
    refine dC (fun c => ?_) (fun c => ?_)
    · exact ef _ (by unfold rowFault; rw [if_pos (by omega)])
    have e1 : rowFault cells arg (os.map (·.2)) i r = if opFault cells arg r.ops ≠ "" then opFault cells arg r.ops else if wrongSkip r (((os.map (·.2)).length : Int) - 1 - i) = true then "skip" else "" := by
      conv => lhs; unfold rowFault
      rw [if_neg (by omega)]
    refine ⟨_, rfl, mg_ops T m fun l xs hl lx dp => ?_⟩
    have pv := dps_vals (vs := r.ops) dp
    have sl := Same.new hl (o := .lst xs)
    refine ⟨l, rfl, ⟨_, SqL.of upd_same⟩, ?_⟩
    refine for_list (xs := xs) (fun j σ H' => ∃ v5, σ = [some (.ref ra), some (.int i), some (.ref ca), some (.bl arg), some (.ref o), v5] ∧ Same H H' ∧ H' l = some (.lst xs) ∧ opFault cells arg r.ops = opFault cells arg (r.ops.drop j)) ⟨none, rfl, sl, upd_same, rfl⟩ (fun j σ H' _ h => ?_) ?_ ?_
    · obtain ⟨v5, _, _, h, _⟩ := h; exact SqL.of h
    · rintro j x σ H' hx ⟨v5, rfl, sm, hll, he⟩
      obtain ⟨v, ev, t, rfl, ht⟩ := paired_at pv hx
      have hj : j < r.ops.length := (List.getElem?_eq_some_iff.mp ev).1
      have hdr : r.ops.drop j = v :: r.ops.drop (j + 1) := by rw [List.drop_eq_getElem_cons hj, (List.getElem?_eq_some_iff.mp ev).2]
      rw [hdr] at he
      have ht : SqT K H' t v.vs := sm.st ht
      obtain ⟨rr, er⟩ := vs_head v
      have ret : ∀ z, opFault cells arg r.ops = z → z ≠ "" → Q (.str z) H' := fun z e ne => by
        have : rowFault cells arg (os.map (·.2)) i r = z := by rw [e1, if_pos (by rw [e]; exact ne), e]
        rw [← this]; exact q _ sm
      have h0 : atI v.vs 0 = some (.str v.kd) := by rw [er]; exact atI_nat rfl
      have snd : ∀ D : Ends, (opFault cells arg r.ops = opFault cells arg (r.ops.drop (j + 1)) → D.nx [some (.ref ra), some (.int i), some (.ref ca), some (.bl arg), some (.ref o), some (.ref t)] H') → D.rt = Q → (v.kd ≠ "argument" → opFault cells arg (v :: r.ops.drop (j + 1)) = opFault cells arg (r.ops.drop (j + 1))) → (v.kd = "argument" → v = .arg) →
          tIfS (tAnd (tTest (tOp rEq (tOp (rIxT K) (tVar 5) (tC (.int 0))) (tC (.str "argument")))) (tNot (tB (tVar 3)))) (tRet (tC (.str "argument"))) tNext D [some (.ref ra), some (.int i), some (.ref ca), some (.bl arg), some (.ref o), some (.ref t)] H' := fun D dn dr n1 n2 => by
        refine ⟨_, rfl, t, _, 0, _, rfl, rfl, ht, h0, rfl, _, rfl, ?_⟩
        refine dC (fun c => ?_) (fun c => iteF (dn (by rw [he]; exact n1 fun z => c (by rw [z]))))
        have ea := n2 (by injection c)
        subst ea
        refine ⟨_, rfl, arg, rfl, ?_⟩
        cases arg with
        | true => exact iteF (dn (by rw [he]; rfl))
        | false =>
          refine iteT ?_
          show D.rt (.str "argument") H'
          rw [dr]
          exact ret _ (by rw [he]; rfl) (by decide +kernel)
      refine ⟨_, rfl, t, _, 0, _, rfl, rfl, ht, h0, rfl, _, rfl, ?_⟩
      cases v with
      | own x =>
        refine tT rfl ⟨_, rfl, t, _, 1, .str x, rfl, rfl, ht, atI_nat rfl, _, rfl, ca, _, rfl, .inl (SqL.of (sm _ _ hca)), rfl, Cm.flat_strs _, _, rfl, ?_⟩
        show if (!inV (.str x) (cells.map V.str)) = true then _ else _
        rw [Cm.inV_strs]
        refine uC (fun c => ?_) (fun c => ?_)
        · exact ret _ (by rw [he]; unfold opFault; rw [if_pos c]) (by decide +kernel)
        · exact snd _ (fun h => ⟨_, rfl, sm, hll, h⟩) rfl (fun _ => by conv => lhs; unfold opFault; rw [if_neg (fun z => z c)]) (fun z => absurd z (show ¬ (("own" : Str)) = "argument" by decide +kernel))
      | num n => exact tF (show ¬ V.str "number" = V.str "own" by decide +kernel) (iteF (snd _ (fun h => ⟨_, rfl, sm, hll, h⟩) rfl (fun _ => rfl) (fun z => absurd z (show ¬ (("number" : Str)) = "argument" by decide +kernel))))
      | arg => exact tF (by decide +kernel) (iteF (snd _ (fun h => ⟨_, rfl, sm, hll, h⟩) rfl (fun z => absurd rfl z) (fun _ => rfl)))
      | place x n => exact tF (show ¬ V.str "place" = V.str "own" by decide +kernel) (iteF (snd _ (fun h => ⟨_, rfl, sm, hll, h⟩) rfl (fun _ => rfl) (fun z => absurd z (show ¬ (("place" : Str)) = "argument" by decide +kernel))))
      | named x => exact tF (show ¬ V.str "named" = V.str "own" by decide +kernel) (iteF (snd _ (fun h => ⟨_, rfl, sm, hll, h⟩) rfl (fun _ => rfl) (fun z => absurd z (show ¬ (("named" : Str)) = "argument" by decide +kernel))))
    · rintro σ H' ⟨v5, rfl, sm, hll, he⟩
      have lv : xs.length = r.ops.length := Paired.length pv
      rw [lv, List.drop_length] at he
      have he : opFault cells arg r.ops = "" := he
      rw [if_neg (by rw [he]; simp)] at e1
      refine ⟨_, rfl, _, rfl, ra, _, rfl, .inl (SqL.of (sm _ _ hra)), _, _, rfl, rfl, _, rfl, _, _, rfl, rfl, o, r, _, rfl, m.same sm, fun H2 s2 => ⟨_, rfl, ?_⟩⟩
      rw [List.length_map] at e1 ⊢
      refine bC (fun c => ?_) (fun c => ?_)
      · rw [if_pos c] at e1
        have := q _ (sm.trans s2)
        rw [e1] at this; exact this
      · rw [if_neg (by rw [c]; decide)] at e1
        have := q _ (sm.trans s2)
        rw [e1] at this; exact this
theorem ok_check_blocks (T : Tx K mg sa sx) (hP : PF P) : CalX P w K mg base 4 "check_blocks" (spChkB K) := by
  obtain ⟨fd, F⟩ := f_check_blocks T
  obtain ⟨fb, FB, bB⟩ := ok_BadText (P := P) (w := w) (base := base) T hP
  refine ⟨_, fd, ["blocks", "cells"], F.ok sc_check_blocks (fun vs H Q E h => ?_) (fun cdv A outer s H vs Q E hr h => ?_), F.bindsN (fun _ _ _ _ _ _ us hl => match us, hl with | [_, _], _ => rfl), g_check_blocks T, F.kp⟩
  · obtain ⟨B, ca, bs, cells, rfl, _⟩ := h; rfl
  · obtain ⟨B, ca, bs, cells, rfl, ⟨m, hB, rfl, hm⟩, hca, hh, hsz, lb, q, qe⟩ := h
    refine ⟨_, (pss_cons (ps_set (i := 2) sc_check_blocks.nd rfl (by first | exact Or.inl rfl | exact Or.inr rfl) pe_dnewK)
    (pss_one (ps_for (passes_of rfl) rfl (pi_enum rfl (n_enumerate T) (pa_cons (pv 0) pa_nil)) (pg_tup (by rfl) (pgs_cons (pg_name (i := 3) sc_check_blocks.nd rfl (by first | exact Or.inl rfl | exact Or.inr rfl)) (pgs_cons (pg_tup (by rfl) (pgs_cons (pg_name (i := 4) sc_check_blocks.nd rfl (by first | exact Or.inl rfl | exact Or.inr rfl)) (pgs_cons (pg_name (i := 5) sc_check_blocks.nd rfl (by first | exact Or.inl rfl | exact Or.inr rfl)) (pgs_cons (pg_name (i := 6) sc_check_blocks.nd rfl (by first | exact Or.inl rfl | exact Or.inr rfl)) pgs_nil)))) pgs_nil)))
      (pss_cons (ps_if (pt_cmpR op_ge (pv 3) (show PE _ _ (tC (V.int 20)) from (i_MOST_BLOCKS T).elim fun _ q => pe_glob rfl q ⟨_, rfl⟩) (nomark _)) (pss_one (ps_raise rfl (takes_of rfl rfl rfl rfl) (pmk_oex (exT T).oex (exT T).iC (exT T).tI FB (hr.mono (by decide)) bB .nil pass0 rfl (g_BadText T) (pa_cons (pv 4) (pa_cons pe_str pa_nil))))) pss_nil)
      (pss_cons (ps_if (pt_cmp (pc_din (hu_of hr) (pe_cal (ok_key_of T) hr (by decide) (pa_cons (pv 5) pa_nil)) (pv 2))) (pss_one (ps_raise rfl (takes_of rfl rfl rfl rfl) (pmk_oex (exT T).oex (exT T).iC (exT T).tI FB (hr.mono (by decide)) bB .nil pass0 rfl (g_BadText T) (pa_cons (pv 4) (pa_cons pe_str pa_nil))))) pss_nil)
      (pss_cons (ps_if (pt_cmpR op_eq (pe_callB (id := "len") call_len_seq rfl (n_len T) (by decide +kernel) (pa_cons (pv 6) pa_nil)) pe_int (nomark _)) (pss_one (ps_raise rfl (takes_of rfl rfl rfl rfl) (pmk_oex (exT T).oex (exT T).iC (exT T).tI FB (hr.mono (by decide)) bB .nil pass0 rfl (g_BadText T) (pa_cons (pv 4) (pa_cons pe_str pa_nil))))) pss_nil)
      (pss_cons (ps_dput (hu_of hr) (pv 2) (pe_cal (ok_key_of T) hr (by decide) (pa_cons (pv 5) pa_nil)) pe_bl rfl)
      (pss_one (ps_for (passes_of rfl) rfl (pi_range1 rfl (n_range T) (pa_cons (pe_callB (id := "len") call_len_seq rfl (n_len T) (by decide +kernel) (pa_cons (pv 6) pa_nil)) pa_nil)) (pg_name (i := 7) sc_check_blocks.nd rfl (by first | exact Or.inl rfl | exact Or.inr rfl))
        (pss_cons (ps_set (i := 8) sc_check_blocks.nd rfl (by first | exact Or.inl rfl | exact Or.inr rfl) (pe_cal (ok_row_fault T) hr (by decide) (pa_cons (pv 6) (pa_cons (pv 7) (pa_cons (pv 1) (pa_cons (pe_cmpR op_ne (pe_ix ix_list (pv 5) pe_int (fun _ _ => rfl)) pe_str (nomark _)) pa_nil))))))
        (pss_one (ps_if (pt_cmpR op_ne (pv 8) pe_str (nomark _)) (pss_one (ps_raise rfl (takes_of rfl rfl rfl rfl) (pmk_oex (exT T).oex (exT T).iC (exT T).tI FB (hr.mono (by decide)) bB .nil pass0 rfl (g_BadText T) (pa_cons (pe_op op_add (pe_op op_add (pv 4) pe_int) (pv 7)) (pa_cons (pv 8) pa_nil))))) pss_nil)))))))))))), ?_⟩
    rw [List.length_map] at lb
    refine fun S hS => ?_
    have sS := Same.new hS (o := .dK [])
    refine ⟨_, rfl, B, _, rfl, SqL.of (sS _ _ hB), ?_⟩
    refine for_it (walk_enum (K := K) (a := B) (xs := m.map fun e => V.ref e.t)) (fun c σ H' => ∃ (seen : List Str) (v3 v4 v5 v6 v7 v8 : Option V), σ = [some (.ref B), some (.ref ca), some (.ref S), v3, v4, v5, v6, v7, v8] ∧ Same H H' ∧ H' S = some (.dK (skv (seenV seen))) ∧ seen.length ≤ c ∧
      blocksFault cells 0 [] (m.map BE.d) = blocksFault cells c seen ((m.map BE.d).drop c)) ⟨[], none, none, none, none, none, none, rfl, sS, upd_same, Nat.zero_le _, rfl⟩ (fun c σ H' _ h => ?_) ?_ ?_
    · obtain ⟨seen, _, _, _, _, _, _, _, sm, _⟩ := h; exact SqL.of (sm _ _ hB)
    · rintro c x σ H0 H2 hi ⟨seen, v3, v4, v5, v6, v7, v8, rfl, sm, hSS, lse, he⟩ ⟨Tp, a, b, rfl, hT, rfl, ha, hb⟩
      cases ha
      have hi2 : c < m.length := by simpa using hi
      replace hb : (m.map fun e => V.ref e.t)[c]? = some b := hb
      obtain rfl : b = V.ref m[c].t := by rw [List.getElem?_map, List.getElem?_eq_getElem hi2] at hb; exact (Option.some.inj hb).symm
      have hdr : (m.map BE.d).drop c = m[c].d :: (m.map BE.d).drop (c + 1) := by
        rw [List.drop_eq_getElem_cons (by rw [List.length_map]; exact hi2), List.getElem_map]
      rw [hdr] at he
      have hme := hm _ (List.getElem_mem hi2)
      have hho := hh _ (List.mem_map_of_mem (List.getElem_mem hi2))
      have hss := hsz _ (List.mem_map_of_mem (List.getElem_mem hi2))
      generalize m[c] = e at hme hho hss he ⊢
      have s1 := sm.trans (Same.new hT (o := .tup [V.int (c : Nat), V.ref e.t]))
      have hSS := (Same.new hT (o := .tup [V.int (c : Nat), V.ref e.t])) _ _ hSS
      have hTT : (upd H0 Tp (.tup [V.int (c : Nat), V.ref e.t])) Tp = some (.tup [V.int (c : Nat), V.ref e.t]) := upd_same
      generalize upd H0 Tp (.tup [V.int (c : Nat), V.ref e.t]) = H3 at s1 hSS hTT ⊢
      obtain ⟨e1, e2, e3, e4⟩ := hme
      have hiN : ((e.i : Nat) : Int).natAbs ≤ 4000000 := by have : e.i ≤ 100000 := hss.1; omega
      have err : ∀ (H4 : Hp) (f : Str), Same H H4 → blocksFault cells c seen (e.d :: (m.map BE.d).drop (c + 1)) = some (e.i, f) → ∀ H' d, Same H4 H' → H' d = some (.xd [("cause", .str f), ("row", .int (e.i : Nat))]) → E (.ref (BT K)) (some d) H' := fun H4 f s4 ef H' d s2 h2 => qe _ _ (by rw [he]; exact ef) _ _ (s4.trans s2) h2
      refine ⟨Tp, _, rfl, SqT.of hTT, rfl, _, _, rfl, _, _, rfl, ⟨e.t, _, rfl, SqT.of (s1 _ _ e1), rfl, _, _, rfl, _, _, rfl, _, _, rfl, rfl, rfl, ?_⟩⟩
      refine ⟨_, rfl, _, _, rfl, rfl, _, rfl, ?_⟩
      refine dC (fun cc => ?_) (fun cc => ?_)
      · exact ⟨_, rfl, raise2 hiN (by decide +kernel) (err H3 _ s1 (by unfold blocksFault; rw [if_pos (by omega)]))⟩
      refine ⟨_, rfl, e.pa, e.ps, rfl, e2.same s1, hho, _, rfl, S, _, rfl, DGet.k (k := .inr (keyOf e.ps)) hSS, _, rfl, ?_⟩
      rw [val_seen]
      refine dC (fun c2 => ?_) (fun c2 => ?_)
      · exact ⟨_, rfl, raise2 hiN (by decide +kernel) (err H3 _ s1 (by unfold blocksFault; rw [if_neg (by omega), if_pos c2]))⟩
      have hra := s1 _ _ e3
      refine ⟨_, rfl, e.ra, _, rfl, .inl (SqL.of hra), rfl, _, rfl, ?_⟩
      refine dC (fun c3 => ?_) (fun c3 => ?_)
      · have z : e.os = [] := by
          have : (((e.os.map fun q => V.ref q.1).length : Nat) : Int) = 0 := by injection c3
          rw [List.length_map] at this
          exact List.length_eq_zero_iff.mp (by omega)
        exact ⟨_, rfl, raise2 hiN (by decide +kernel) (err H3 _ s1 (by unfold blocksFault; rw [if_neg (by omega), if_neg c2, if_pos (by show e.os.map (·.2) = []; rw [z]; rfl)]))⟩
      have z : ¬ e.os.map (·.2) = [] := fun z => c3 (by rw [List.map_eq_nil_iff.mp z]; rfl)
      have lrows : e.os.length ≤ 100000 := by have := hss.2; rw [show e.d.2.2 = e.os.map (·.2) from rfl, List.length_map] at this; exact this
      have eb : blocksFault cells c seen (e.d :: (m.map BE.d).drop (c + 1)) = match rowsFault cells (decide (headP e.ps ≠ "start")) (e.os.map (·.2)) 0 (e.os.map (·.2)) with
          | some (i, f) => some (e.i + 1 + i, f)
          | none => blocksFault cells (c + 1) (seen ++ [keyOf e.ps]) ((m.map BE.d).drop (c + 1)) := by
        conv => lhs; unfold blocksFault
        rw [if_neg (by omega), if_neg c2, if_neg z]
        all_goals rfl
      refine ⟨_, rfl, _, rfl, e.pa, e.ps, rfl, e2.same s1, hho, S, _, rfl, DPut.k (k := .inr (keyOf e.ps)) hSS (sz2 (by unfold skv seenV; rw [List.length_map, List.length_map]; omega)), ?_⟩
      rw [put_seen c2]
      have s4 : Same H (upd H3 S (.dK (skv (seenV (seen ++ [keyOf e.ps]))))) := s1.mut hS
      have hS4 : (upd H3 S (.dK (skv (seenV (seen ++ [keyOf e.ps]))))) S = some (.dK (skv (seenV (seen ++ [keyOf e.ps])))) := upd_same
      generalize upd H3 S (.dK (skv (seenV (seen ++ [keyOf e.ps])))) = H4 at s4 hS4 ⊢
      refine ⟨_, rfl, e.ra, _, rfl, .inl (SqL.of (s4 _ _ e3)), _, rfl, by omega, by rw [List.length_map]; omega, ?_⟩
      refine for_range (lo := 0) (n := (((e.os.map fun q => V.ref q.1).length : Nat) : Int).toNat) (fun j σ H' => ∃ (v7 v8 : Option V), σ = [some (.ref B), some (.ref ca), some (.ref S), some (.int (c : Nat)), some (.int (e.i : Nat)), some (.ref e.pa), some (.ref e.ra), v7, v8] ∧ Same H H' ∧ H' S = some (.dK (skv (seenV (seen ++ [keyOf e.ps])))) ∧
        rowsFault cells (decide (headP e.ps ≠ "start")) (e.os.map Prod.snd) 0 (e.os.map Prod.snd) = rowsFault cells (decide (headP e.ps ≠ "start")) (e.os.map Prod.snd) j ((e.os.map Prod.snd).drop j)) ⟨_, _, rfl, s4, hS4, rfl⟩ ?_ ?_
      · rintro j σ H5 hj ⟨v7, v8, rfl, s5, hS5, hf⟩
        have hj2 : j < e.os.length := by rw [List.length_map] at hj; omega
        have hdj : (e.os.map Prod.snd).drop j = e.os[j].2 :: (e.os.map Prod.snd).drop (j + 1) := by
          rw [List.drop_eq_getElem_cons (by rw [List.length_map]; exact hj2), List.getElem_map]
        rw [hdj] at hf
        obtain ⟨vs, hpa, pr⟩ := e2.pr
        have hd : ∃ hw rr, e.ps = .w hw :: rr := by
          rcases hho with ⟨hw, x, r, z, _⟩ | ⟨r, z⟩
          · exact ⟨hw, _, z⟩
          · exact ⟨_, _, z⟩
        obtain ⟨hw, rr, ew⟩ := hd
        rw [ew] at pr
        cases pr with
        | cons h0 pr =>
        obtain rfl := (show _ = V.str hw from h0)
        have ehd : headP e.ps = hw := by rw [ew]; rfl
        rw [ehd] at hf eb
        have edc : (!decide (V.str hw = V.str "start")) = decide (hw ≠ "start") := by
          rw [← decide_not]
          exact decide_eq_decide.mpr ⟨fun z z2 => z (by rw [z2]), fun z z2 => z (by injection z2)⟩
        refine ⟨_, rfl, _, rfl, _, rfl, _, rfl, e.pa, _, 0, .str hw, rfl, rfl, SqL.of (s5 _ _ hpa), atI_nat rfl, rfl, e.ra, ca, e.os, cells, _, j, e.os[j], by rw [Int.zero_add]; rfl, s5 _ _ e3, List.getElem?_eq_getElem hj2, (e4 _ (List.getElem_mem hj2)).same s5, s5 _ _ hca, fun H6 s6 => ?_⟩
        rw [edc]
        refine ⟨_, rfl, rfl, _, rfl, ?_⟩
        refine uC (fun c4 => ?_) (fun c4 => ?_)
        · have c4 : rowFault cells (decide (hw ≠ "start")) (e.os.map (·.2)) j e.os[j].2 ≠ "" := fun z => c4 (by rw [z])
          have ij : ((e.i : Nat) : Int) + 1 + (0 + (j : Nat)) = ((e.i + 1 + j : Nat) : Int) := by omega
          have he1 : e.i ≤ 100000 := hss.1
          refine ⟨_, rfl, _, _, rfl, rfl, _, rfl, _, _, rfl, rfl, _, rfl, raise2 (by omega) (rowFault_small _ _ _ _ _) fun H7 d7 s7 h7 => qe _ _ ?_ _ _ ((s5.trans s6).trans s7) (by rw [← ij]; exact h7)⟩
          rw [he, eb, hf]
          conv => lhs; unfold rowsFault
          rw [if_pos c4]
        · have c4 : ¬ rowFault cells (decide (hw ≠ "start")) (e.os.map (·.2)) j e.os[j].2 ≠ "" := fun z => z (by injection c4)
          refine ⟨_, _, rfl, s5.trans s6, s6 _ _ hS5, ?_⟩
          rw [ehd, hf]
          conv => lhs; unfold rowsFault
          rw [if_neg c4]
      · rintro σ H5 ⟨v7, v8, rfl, s5, hS5, hf⟩
        have el : (((e.os.map fun q => V.ref q.1).length : Nat) : Int).toNat = (e.os.map Prod.snd).length := by rw [List.length_map, List.length_map]; omega
        rw [el, List.drop_length] at hf
        refine ⟨seen ++ [keyOf e.ps], _, _, _, _, _, _, rfl, s5, hS5, by rw [List.length_append, List.length_singleton]; omega, ?_⟩
        rw [he, eb, show rowsFault cells (decide (headP e.ps ≠ "start")) (e.os.map (·.2)) 0 (e.os.map (·.2)) = none from hf]
    · rintro σ H' ⟨seen, v3, v4, v5, v6, v7, v8, rfl, sm, hSS, lse, he⟩
      rw [List.length_map, show m.length = (m.map BE.d).length from (List.length_map ..).symm, List.drop_length] at he
      exact q he _ sm
end
end K88
namespace Um
open PySem PySem.Spec PyProof.Rows Cm TL
open L2 hiding Same
/-! ### a unit's sections -/
def unitH : List Str := ["routine", "inner", "start"]
def nameP : List Pt → Str
  | _ :: .w x :: _ => x
  | _ => ""
def numP : List Pt → Int
  | _ :: _ :: .n k :: _ => k
  | _ => 0
def Sec.cells (s : Sec) : List (Nat × List Pt) := s.ahead.filter fun e => decide (headP e.2 = "cell")
def Sec.names (s : Sec) : List Str := s.cells.map fun e => nameP e.2
def Sec.decl (s : Sec) : List De := s.cells.map fun e => ⟨e.1, nameP e.2, 1⟩
def unitFault (s : Sec) : Option (Nat × Str) := match declF 9 0 [] s.decl with
  | some e => some e
  | none => blocksFault s.names 0 [] s.blocks
structure SecOk (s : Sec) : Prop where
  cells : ∀ e ∈ s.cells, ∃ x k, e.2 = [.w "cell", .w x, .n k]
  lines : ∀ e ∈ s.ahead, LineP e.2
  la : s.ahead.length ≤ 90000
  ia : ∀ e ∈ s.ahead, e.1 ≤ 100000
  lb : s.blocks.length ≤ 90000
  ib : ∀ b ∈ s.blocks, b.1 ≤ 100000 ∧ b.2.2.length ≤ 100000
end Um
namespace K88
open PySem PySem.Spec PyProof.Rows Cm Um TL
open L2 hiding Same
/-! ### the sections of a unit's text -/
theorem same_kp {H H1 : Hp} {y dx : Addr} {o1 o2 : HO} (hy : H y = none) (hd : H dx = none) (k : Kp y (upd (upd H dx o1) y o2) H1) : Same H H1 := fun b o h => by
  have n1 := ne_of_none h hy
  have n2 := ne_of_none h hd
  exact k b o n1 (by rw [upd_ne n1, upd_ne n2]; exact h)
abbrev AE.de (e : AE) : De := ⟨e.i, nameP e.ps, 1⟩
def spUnitSec (K : PySem.W.Frag) : Sp := fun vs H Q E => ∃ (t : Str), vs = [.str t] ∧ t.length ≤ 99000 ∧
  (∀ i c, parseT unitG t = .inl (i, c) → ∀ H' d, Same H H' → H' d = some (.xd [("cause", .str c), ("row", .int i)]) → E (.ref (BT K)) (some d) H') ∧
  (∀ ls, parseT unitG t = .inr ls → ∃ s, SecR unitH 0 ⟨[], []⟩ ls s ∧ (∀ ps ∈ ls, LineP ps) ∧ ls.length ≤ 100000 ∧ SecOk s ∧ (∀ b ∈ s.blocks, HeadOk b.2.1) ∧
    (∀ i c, unitFault s = some (i, c) → ∀ H' d, Same H H' → H' d = some (.xd [("cause", .str c), ("row", .int (i : Nat))]) → E (.ref (BT K)) (some d) H') ∧
    (unitFault s = none → ∀ p H', Same H H' → SecAt K H' p s → Q (.ref p) H'))
section
variable {P : Program} {w : World} {K : PySem.W.Frag} {mg : Str → Option Value} {base : Heap} {sa : Addr} {sx : List Int}
theorem ok_unit_sections (T : Tx K mg sa sx) (W : Wx K w) (hP : PF P) : CalX P w K mg base 8 "unit_sections" (spUnitSec K) := by
  obtain ⟨fd, F⟩ := f_unit_sections T
  refine ⟨_, fd, ["text"], F.ok sc_unit_sections (fun vs H Q E h => ?_) (fun cdv A outer s H vs Q E hr h => ?_), F.bindsN (fun _ _ _ _ _ _ us hl => match us, hl with | [_], _ => rfl), g_unit_sections T, F.kp⟩
  · obtain ⟨t, rfl, _⟩ := h; rfl
  · obtain ⟨t, rfl, ht, qe, q⟩ := h
    refine ⟨_, (pss_cons (ps_set (i := 1) sc_unit_sections.nd rfl (by first | exact Or.inl rfl | exact Or.inr rfl) (pe_mcalX (ok_Grammar_parse T W hP) hr (by decide) (passes_call (takes_of rfl rfl rfl rfl) (fun _ _ _ _ h => h)) (pe_kal (ok_Grammar_init T) hr (by decide) (pa_cons (pe_glob (v := .ref _) rfl (g_ORDER T) rfl) (pa_cons (pe_glob (v := .ref _) rfl (g_FORMS T) rfl) (pa_cons (pe_glob (v := .ref _) rfl (g_VALUE_KINDS T) rfl) (pa_cons (pe_glob (v := .ref _) rfl (g_PLACE_KINDS T) rfl) pa_nil))))) (pa_cons (pv 0) pa_nil)))
    (pss_cons (ps_asg (pe_cal (ok_sections T) hr (by decide) (pa_cons (pv 1) (pa_cons (pe_tup (pa_cons pe_str (pa_cons pe_str (pa_cons pe_str pa_nil)))) pa_nil))) (pg_tup (by rfl) (pgs_cons (pg_name (i := 2) sc_unit_sections.nd rfl (by first | exact Or.inl rfl | exact Or.inr rfl)) (pgs_cons (pg_name (i := 3) sc_unit_sections.nd rfl (by first | exact Or.inl rfl | exact Or.inr rfl)) pgs_nil))))
    (pss_cons (ps_set (i := 4) sc_unit_sections.nd rfl (by first | exact Or.inl rfl | exact Or.inr rfl) (pe_cal (ok_of_kind T) hr (by decide) (pa_cons (pv 2) (pa_cons pe_str pa_nil))))
    (pss_cons (ps_expr (pe_calX (ok_check_declared T hP) hr (by decide) (passes_call (takes_of rfl rfl rfl rfl) (fun _ _ _ _ h => h)) (pa_cons (pe_lc (own := [("at", 5), ("parts", 6)]) (g := gTup K 2 (gCons (gName 5) (gCons (gName 6) gNil))) rfl sc_unit_sections.nd (pi_list (pv 4)) (blkOk_by (own := [("at", 5), ("parts", 6)]) (N := ["text", "lines", "ahead", "blocks", "cells", "at", "parts", "_"]) (sc := defScope s_unit_sections) (by decide +kernel)) (fun _ _ _ _ _ => pg_tup (by rfl) (pgs_cons (pg_name (i := 5) sc_unit_sections.nd rfl (Or.inl rfl)) (pgs_cons (pg_name (i := 6) sc_unit_sections.nd rfl (Or.inl rfl)) pgs_nil))) (fun _ _ _ _ _ => pts_nil) (fun _ _ _ _ _ => (pe_tup (pa_cons (pv 5) (pa_cons (pe_ix (show IxR _ (rIxL K) from ix_list) (pv 6) pe_int (fun _ _ => rfl)) (pa_cons pe_int pa_nil)))))) (pa_cons (show PE _ _ (tC (V.int 9)) from (i_MOST_CELLS T).elim fun _ q => pe_glob rfl q ⟨_, rfl⟩) pa_nil))))
    (pss_cons (ps_expr (pe_calX (ok_check_blocks T hP) hr (by decide) (passes_call (takes_of rfl rfl rfl rfl) (fun _ _ _ _ h => h)) (pa_cons (pv 3) (pa_cons (pe_lc (own := [("_", 7), ("parts", 6)]) (g := gTup K 2 (gCons (gName 7) (gCons (gName 6) gNil))) rfl sc_unit_sections.nd (pi_list (pv 4)) (blkOk_by (own := [("_", 7), ("parts", 6)]) (N := ["text", "lines", "ahead", "blocks", "cells", "at", "parts", "_"]) (sc := defScope s_unit_sections) (by decide +kernel)) (fun _ _ _ _ _ => pg_tup (by rfl) (pgs_cons (pg_name (i := 7) sc_unit_sections.nd rfl (Or.inl rfl)) (pgs_cons (pg_name (i := 6) sc_unit_sections.nd rfl (Or.inl rfl)) pgs_nil))) (fun _ _ _ _ _ => pts_nil) (fun _ _ _ _ _ => (pe_ix (show IxR _ (rIxL K) from ix_list) (pv 6) pe_int (fun _ _ => rfl)))) pa_nil))))
    (pss_one (ps_ret (pe_tup (pa_cons (pv 2) (pa_cons (pv 3) pa_nil)))))))))), ?_⟩
    refine fun y dx hy hdx ne => ⟨y, dx, _, _, _, _, unitG, unitO, unitF, unitV, unitP, rfl, upd_same, fun H => tsB_ok (x_tsORDER T) H, fun H => tsB_ok (x_tsFORMS T) H, fun H => tsB_ok (x_tsVALUE_KINDS T) H, fun H => tsB_ok (x_tsPLACE_KINDS T) H, unitG_ok, fun H1 k1 hG => ⟨rfl, ?_⟩⟩
    have s1 := same_kp hy hdx k1
    obtain ⟨dg, rk, fm, kd, tv, tp, hg, _⟩ := id hG
    refine ⟨y, dg, _, rfl, hg, rfl, _, rfl, y, unitG, t, rfl, hG, unitG_Ok, ht, fun ls els L H2 s2 hL hl => ?_, fun i c e H' d s h => qe i c e _ _ (s1.trans s) h⟩
    obtain ⟨se, hsec, hlp, hll, sok, hho, fe, q⟩ := q ls els
    have s02 := s1.trans s2
    clear hG hg k1 s1 s2 hL
    refine ⟨_, rfl, sz1 (by simp), fun hs hhs => ?_⟩
    have s03 := s02.trans (Same.new hhs (o := .tup [V.str "routine", V.str "inner", V.str "start"]))
    refine ⟨L, hs, ls, unitH, se, rfl, hl.same (Same.new hhs), SqT.of upd_same, hlp, hll, hsec, fun p H3 s3 hp => ?_⟩
    have s04 := s03.trans s3
    obtain ⟨A, B, hp, hA, hB⟩ := hp
    refine ⟨p, _, rfl, SqT.of hp, rfl, _, _, rfl, _, _, rfl, rfl, ?_⟩
    refine ⟨_, rfl, A, se.ahead, "cell", rfl, hA, sok.lines, by have := sok.la; omega, fun C H4 s4 hC => ?_⟩
    have hA := hA.same s4
    have hB := hB.same s4
    have s05 := s04.trans s4
    obtain ⟨m, hCm, em, hm⟩ := hC
    have lm : m.length ≤ 90000 := by
      have h1 := congrArg List.length em
      rw [List.length_map] at h1
      have h2 := List.length_filter_le (fun e : Nat × List Pt => decide (headP e.2 = "cell")) se.ahead
      have := sok.la
      omega
    have ec : se.cells = m.map AE.d := em.symm
    have mc : ∀ e ∈ m, ∃ x k, e.ps = [.w "cell", .w x, .n k] := fun e he => sok.cells _ (by rw [ec]; exact List.mem_map_of_mem he)
    have item : ∀ e ∈ m, ∀ H', Same H4 H' → ∃ vs x, SqL K H' e.pa vs ∧ atI vs 1 = some (.str x) ∧ nameP e.ps = x := fun e he H' s' => by
      obtain ⟨x, k, ep⟩ := mc e he
      obtain ⟨vs, hpa, pr⟩ := ((hm e he).2.same s').pr
      rw [ep] at pr
      obtain ⟨v0, v1, v2, rfl, h0, h1, h2⟩ := pr3 pr
      refine ⟨_, x, SqL.of hpa, ?_, by rw [ep]; rfl⟩
      rw [show v1 = V.str x from h1]; exact atI_nat rfl
    -- declarations
    refine ⟨_, rfl, C, rfl, ⟨_, SqL.of hCm⟩, fun D hD => ?_⟩
    refine lc_list (K := K) (xs := m.map fun e => V.ref e.t) (fun j H' => ∃ m2 : List (Addr × De), Same H4 H' ∧ H' D = some (.lst (m2.map fun q => V.ref q.1)) ∧ m2.map Prod.snd = (m.take j).map AE.de ∧ m2.length ≤ j ∧ ∀ q ∈ m2, H' q.1 = some (.tup [.int q.2.i, .str q.2.name, .int q.2.n])) ⟨[], Same.new hD, upd_same, rfl, Nat.zero_le _, fun q hq => (by cases hq)⟩ (fun j H' _ h => let ⟨_, sm, _⟩ := h; SqL.of (sm _ _ hCm)) ?_ ?_
    · rintro j x H' hx ⟨m2, sm, hS, e2, l2, h2⟩
      have hj : j < m.length := by have := (List.getElem?_eq_some_iff.mp hx).1; simpa using this
      obtain rfl : x = V.ref m[j].t := by rw [List.getElem?_map, List.getElem?_eq_getElem hj] at hx; exact (Option.some.inj hx).symm
      obtain ⟨vs, nm, hv, hat, en⟩ := item _ (List.getElem_mem hj) H' sm
      refine ⟨m[j].t, _, rfl, SqT.of (sm _ _ (hm _ (List.getElem_mem hj)).1), rfl, _, _, rfl, _, _, rfl, rfl, rfl, ?_⟩
      refine ⟨_, rfl, _, rfl, m[j].pa, _, 1, _, rfl, rfl, hv, hat, sz1 (by simp), fun t ht => ⟨_, Same.new ht _ _ hS, sz2 (by rw [List.length_map]; omega), m2 ++ [(t, m[j].de)], (sm.trans (Same.new ht)).mut hD, by rw [upd_same, List.map_append]; rfl, by rw [List.map_append, e2, take_snocN hj, List.map_append]; rfl, by rw [List.length_append, List.length_singleton]; omega, fun q hq => ?_⟩⟩
      have hS2 := Same.new ht (o := .tup [V.int m[j].i, V.str nm, V.int 1]) _ _ hS
      rcases List.mem_append.mp hq with hq | hq
      · exact tup_mut hS2 (Same.new ht _ _ (h2 q hq))
      · rw [List.mem_singleton.mp hq]
        show _ = some (HO.tup [V.int m[j].i, V.str (nameP m[j].ps), V.int 1])
        rw [en]; exact tup_mut hS2 upd_same
    rintro H5 ⟨m2, s5, hD5, e2, l2, h2⟩
    rw [List.length_map, List.take_length] at e2
    have ed : se.decl = m.map AE.de := by unfold Sec.decl; rw [ec, List.map_map]; rfl
    have s06 := s05.trans s5
    refine ⟨D, se.decl, 9, rfl, ⟨m2, hD5, by rw [e2, ed], h2⟩, by rw [ed, List.length_map]; exact lm, fun d hd => ?_, fun hn H6 s6 => ?_, fun i c hs H' d s6 h6 => fe i c (by unfold unitFault; rw [hs]) _ _ (s06.trans s6) h6⟩
    · rw [ed] at hd
      obtain ⟨e, he, rfl⟩ := List.mem_map.mp hd
      have : e.d ∈ se.cells := by rw [ec]; exact List.mem_map_of_mem he
      exact sok.ia _ (List.mem_filter.mp this).1
    have s07 := s06.trans s6
    have s47 := s5.trans s6
    -- blocks
    refine ⟨_, rfl, _, rfl, C, rfl, ⟨_, SqL.of (s47 _ _ hCm)⟩, fun D2 hD2 => ?_⟩
    refine lc_list (K := K) (xs := m.map fun e => V.ref e.t) (fun j H' => Same H6 H' ∧ H' D2 = some (.lst (((m.take j).map fun e => nameP e.ps).map V.str))) ⟨Same.new hD2, upd_same⟩ (fun j H' _ h => SqL.of (h.1 _ _ (s47 _ _ hCm))) ?_ ?_
    · rintro j x H' hx ⟨sm, hS⟩
      have hj : j < m.length := by have := (List.getElem?_eq_some_iff.mp hx).1; simpa using this
      obtain rfl : x = V.ref m[j].t := by rw [List.getElem?_map, List.getElem?_eq_getElem hj] at hx; exact (Option.some.inj hx).symm
      obtain ⟨vs, nm, hv, hat, en⟩ := item _ (List.getElem_mem hj) H' (s47.trans sm)
      refine ⟨m[j].t, _, rfl, SqT.of ((s47.trans sm) _ _ (hm _ (List.getElem_mem hj)).1), rfl, _, _, rfl, _, _, rfl, rfl, rfl, ?_⟩
      refine ⟨_, rfl, m[j].pa, _, 1, _, rfl, rfl, hv, hat, _, hS, sz2 (by rw [List.length_map, List.length_map, List.length_take]; omega), sm.mut hD2, ?_⟩
      rw [upd_same, take_snocN hj, List.map_append, List.map_append, ← en]; rfl
    rintro H7 ⟨s7, hD7⟩
    rw [List.length_map, List.take_length] at hD7
    have en : se.names = m.map fun e => nameP e.ps := by unfold Sec.names; rw [ec, List.map_map]; rfl
    have s08 := s07.trans s7
    have uf : unitFault se = blocksFault se.names 0 [] se.blocks := by unfold unitFault; rw [hn]
    refine ⟨B, D2, se.blocks, se.names, rfl, hB.same (s47.trans s7), by rw [hD7, en], hho, sok.ib, sok.lb, fun hb H8 s8 => ?_, fun i c hs H' d s8 h8 => fe i c (by rw [uf, hs]) _ _ (s08.trans s8) h8⟩
    refine ⟨_, rfl, _, rfl, sz1 (by simp), fun p hp => q (by rw [uf, hb]) p _ ((s08.trans s8).trans (Same.new hp)) ⟨A, B, upd_same, ?_, ?_⟩⟩
    · exact hA.same ((s47.trans s7).trans (s8.trans (Same.new hp)))
    · exact hB.same ((s47.trans s7).trans (s8.trans (Same.new hp)))
end
end K88
namespace K88
open PySem PySem.Spec PyProof.Rows Cm Um TL
open L2 hiding Same
/-! ### blocks and units -/
structure Bk where
  kind : Str
  name : Str
  rows : List Rw
structure Un where
  name : Str
  late : Bool
  cells : List (Str × Int)
  blocks : List Bk
abbrev BC (K : PySem.W.Frag) : Addr := He.ga K "Block"
abbrev UC (K : PySem.W.Frag) : Addr := He.ga K "Unit"
def bkOf (ps : List Pt) (rows : List Rw) : Bk := ⟨if headP ps = "routine" then "shared" else headP ps, keyOf ps, rows⟩
def RowsT (K : PySem.W.Frag) (H : Hp) (tr : Addr) (rs : List Rw) : Prop := ∃ os : List (Addr × Rw), H tr = some (.tup (os.map fun q => V.ref q.1)) ∧ os.map (·.2) = rs ∧ ∀ q ∈ os, MA K H q.1 q.2
def BkAt (K : PySem.W.Frag) (H : Hp) (b : Addr) (B : Bk) : Prop := ∃ dx tr, H b = some (.ins (BC K) dx [("kind", .str B.kind), ("name", .str B.name), ("rows", .ref tr)]) ∧ RowsT K H tr B.rows
def UnAt (K : PySem.W.Frag) (H : Hp) (u : Addr) (U : Un) : Prop := ∃ dx cd bt, H u = some (.ins (UC K) dx [("name", .str U.name), ("is_late", .bl U.late), ("cells", .ref cd), ("blocks", .ref bt)]) ∧ H cd = some (.dK (skv (U.cells.map fun p => (p.1, V.int p.2)))) ∧
  ∃ bs : List (Addr × Bk), H bt = some (.tup (bs.map fun q => V.ref q.1)) ∧ bs.map (·.2) = U.blocks ∧ ∀ q ∈ bs, BkAt K H q.1 q.2
theorem RowsT.same {K : PySem.W.Frag} {H H' : Hp} {tr : Addr} {rs} (s : Same H H') (h : RowsT K H tr rs) : RowsT K H' tr rs := let ⟨os, h1, h2, h3⟩ := h; ⟨os, s _ _ h1, h2, fun q hq => (h3 q hq).same s⟩
theorem BkAt.same {K : PySem.W.Frag} {H H' : Hp} {b : Addr} {B} (s : Same H H') (h : BkAt K H b B) : BkAt K H' b B := let ⟨dx, tr, h1, h2⟩ := h; ⟨dx, tr, s _ _ h1, h2.same s⟩
theorem UnAt.same {K : PySem.W.Frag} {H H' : Hp} {u : Addr} {U} (s : Same H H') (h : UnAt K H u U) : UnAt K H' u U :=
  let ⟨dx, cd, bt, h1, h2, bs, h3, h4, h5⟩ := h; ⟨dx, cd, bt, s _ _ h1, s _ _ h2, bs, s _ _ h3, h4, fun q hq => (h5 q hq).same s⟩
/-- Block(kind, name, rows): rows a list or a tuple -/
def spBlk (K : PySem.W.Frag) : Sp := fun vs H Q _ => ∃ (y dx a : Addr) (k n : Str) (xs : List V), vs = [.ref y, .str k, .str n, .ref a] ∧ H y = some (.ins (BC K) dx []) ∧
  ((H a = some (.lst xs) ∧ ∀ tr H', Kp y H H' → H' tr = some (.tup xs) → H' y = some (.ins (BC K) dx [("kind", .str k), ("name", .str n), ("rows", .ref tr)]) → Q .non H') ∨
   (H a = some (.tup xs) ∧ ∀ H', Kp y H H' → H' y = some (.ins (BC K) dx [("kind", .str k), ("name", .str n), ("rows", .ref a)]) → Q .non H'))
def spBlkOf (K : PySem.W.Frag) : Sp := fun vs H Q _ => ∃ (pa ra : Addr) (ps : List Pt) (os : List (Addr × Rw)), vs = [.ref pa, .ref ra] ∧ PtsAt H pa ps ∧ HeadOk ps ∧ H ra = some (.lst (os.map fun q => V.ref q.1)) ∧ (∀ q ∈ os, MA K H q.1 q.2) ∧
  ∀ b H', Same H H' → BkAt K H' b (bkOf ps (os.map (·.2))) → Q (.ref b) H'
/-- Unit(name, late, cells, blocks): cells a dict, blocks a list or a tuple -/
def spUni (K : PySem.W.Frag) : Sp := fun vs H Q _ => ∃ (y dx c a : Addr) (n : Str) (lt : Bool) (kvs : List (L2.Key × V)) (xs : List V), vs = [.ref y, .str n, .bl lt, .ref c, .ref a] ∧ H y = some (.ins (UC K) dx []) ∧ H c = some (.dK kvs) ∧ H a = some (.lst xs) ∧
  ∀ cd bt H', Kp y H H' → H' cd = some (.dK kvs) → H' bt = some (.tup xs) → H' y = some (.ins (UC K) dx [("name", .str n), ("is_late", .bl lt), ("cells", .ref cd), ("blocks", .ref bt)]) → Q .non H'
section
variable {P : Program} {w : World} {K : PySem.W.Frag} {mg : Str → Option Value} {base : Heap} {sa : Addr} {sx : List Int}
theorem ok_Block_init (T : Tx K mg sa sx) : KCal P w K mg base 1 "Block" (BC K) (spBlk K) [] := by
  obtain ⟨fd, F⟩ := f_Block_init T
  refine ⟨g_Block T, _, fd, ["self", "kind", "name", "rows"], [], m_Block T, fnok F sc_Block_init (fun vs H Q E h => ?_) (fun cdv A outer s H vs Q E hr h => ?_), F.bindsN fun _ _ _ _ _ _ us hl => match us, hl with | [_, _, _, _], _ => rfl, .nil⟩
  · obtain ⟨y, dx, a, k, n, xs, rfl, _⟩ := h; rfl
  · obtain ⟨y, dx, a, k, n, xs, rfl, hy, h⟩ := h
    refine ⟨_, (pss_cons (ps_fld (pv 0) (pv 1) rfl)
    (pss_cons (ps_fld (pv 0) (pv 2) rfl)
    (pss_one (ps_fld (pv 0) (pe_callTy (T := "tuple") call_tuple_of rfl (n_tuple T) (by decide +kernel) (pa_cons (pv 3) pa_nil)) rfl)))), ?_⟩
    refine ⟨_, rfl, _, rfl, y, _, dx, [], rfl, hy, c_Block T, na_Block_kind T, fn0, ?_⟩
    refine ⟨_, rfl, _, rfl, y, _, dx, _, rfl, upd_same, c_Block T, na_Block_name T, fnS fs0, ?_⟩
    rw [upd_upd]
    have e2 : putF "name" (V.str n) (putF "kind" (V.str k) []) = ([("kind", V.str k), ("name", V.str n)] : List (Str × V)) := rfl
    rw [e2]
    have k2 : Kp y H (upd H y (.ins (BC K) dx [("kind", V.str k), ("name", V.str n)])) := Kp.refl.at
    have hy2 : (upd H y (.ins (BC K) dx [("kind", V.str k), ("name", V.str n)])) y = some (.ins (BC K) dx [("kind", V.str k), ("name", V.str n)]) := upd_same
    have e3 : ∀ t, putF "rows" (V.ref t) [("kind", V.str k), ("name", V.str n)] = ([("kind", V.str k), ("name", V.str n), ("rows", V.ref t)] : List (Str × V)) := fun _ => rfl
    rcases h with ⟨ha, q⟩ | ⟨ha, q⟩
    · have na : a ≠ y := fun z => by rw [z, hy] at ha; cases ha
      have ha2 := k2 _ _ na ha
      generalize upd H y (.ins (BC K) dx [("kind", V.str k), ("name", V.str n)]) = H2 at k2 hy2 ha2 ⊢
      refine ⟨_, rfl, a, xs, rfl, .inl ⟨SqL.of ha2, fun tr htr => ?_⟩⟩
      have nt : tr ≠ y := (ne_of_none hy2 htr).symm
      refine ⟨_, rfl, y, _, dx, _, rfl, (Same.new htr) _ _ hy2, c_Block T, na_Block_rows T, by simp, ?_⟩
      rw [e3]
      exact q tr _ (k2.trans ((Same.new htr).kp)).at (by rw [upd_ne nt, upd_same]) upd_same
    · have na : a ≠ y := fun z => by rw [z, hy] at ha; cases ha
      have ha2 := k2 _ _ na ha
      generalize upd H y (.ins (BC K) dx [("kind", V.str k), ("name", V.str n)]) = H2 at k2 hy2 ha2 ⊢
      refine ⟨_, rfl, a, xs, rfl, .inr ⟨SqT.of ha2, ?_⟩⟩
      refine ⟨_, rfl, y, _, dx, _, rfl, hy2, c_Block T, na_Block_rows T, by simp, ?_⟩
      rw [e3]
      exact q _ k2.at upd_same
theorem ok_block_of (T : Tx K mg sa sx) : Cal P w K mg base 3 "block_of" (spBlkOf K) := by
  obtain ⟨fd, F⟩ := f_block_of T
  refine ⟨_, fd, ["parts", "rows"], fnok F sc_block_of (fun vs H Q E h => ?_) (fun cdv A outer s H vs Q E hr h => ?_), F.bindsN fun _ _ _ _ _ _ us hl => match us, hl with | [_, _], _ => rfl, g_block_of T, F.kp⟩
  · obtain ⟨pa, ra, ps, os, rfl, _⟩ := h; rfl
  · obtain ⟨pa, ra, ps, os, rfl, hp, hh, hra, hm, q⟩ := h
    refine ⟨_, (pss_cons (ps_set (i := 2) sc_block_of.nd rfl (by first | exact Or.inl rfl | exact Or.inr rfl) (pe_ifExp (pt_cmpR op_eq (pe_ix ix_list (pv 0) pe_int (fun _ _ => rfl)) pe_str (nomark _)) pe_str (pe_ix ix_list (pv 0) pe_int (fun _ _ => rfl))))
    (pss_one (ps_ret (pe_kal (ok_Block_init T) hr (by decide) (pa_cons (pv 2) (pa_cons (pe_cal (ok_key_of T) hr (by decide) (pa_cons (pv 0) pa_nil)) (pa_cons (pv 1) pa_nil))))))), ?_⟩
    obtain ⟨vs, hpa, pr⟩ := hp.pr
    obtain ⟨hw, rr, rfl⟩ : ∃ hw rr, ps = .w hw :: rr := by
      rcases hh with ⟨hw, x, r, z, _⟩ | ⟨r, z⟩
      · exact ⟨hw, _, z⟩
      · exact ⟨_, _, z⟩
    cases pr with
    | cons h0 pr =>
    obtain rfl := (show _ = V.str hw from h0)
    have hL := SqL.of (K := K) hpa
    have ek : ∀ kd, kd = (if hw = "routine" then ("shared" : Str) else hw) → ∀ y dx H1, H y = none → H dx = none → Kp y (upd (upd H dx (.own y)) y (.ins (BC K) dx [])) H1 → ∀ tr, H1 tr = some (.tup (os.map fun q => V.ref q.1)) → H1 y = some (.ins (BC K) dx [("kind", .str kd), ("name", .str (keyOf (.w hw :: rr))), ("rows", .ref tr)]) → Q (.ref y) H1 := fun kd ek y dx H1 hy hd k1 tr ht h1 =>
      q y H1 (same_kp hy hd k1) ⟨dx, tr, by rw [h1, ek]; rfl, os, ht, rfl, fun q hq => (hm q hq).same (same_kp hy hd k1)⟩
    have fin : ∀ kd, kd = (if hw = "routine" then ("shared" : Str) else hw) → tRet (tMake (BC K) (spBlk K) [] E0 (tCons (tVar 2) (tCons (tCall spKey [] E0 (tCons (tVar 0) tNil)) (tCons (tVar 1) tNil)))) { nx := fun x H' => Q V.non H', rt := Q } [some (.ref pa), some (.ref ra), some (.str kd)] H := fun kd e => by
      refine ⟨_, rfl, _, rfl, pa, _, rfl, hp, hh, _, rfl, fun y dx hy hd ne => ?_⟩
      have s0 : Same H (upd (upd H dx (.own y)) y (.ins (BC K) dx [])) := mk_same hy hd
      exact ⟨y, dx, ra, kd, keyOf (.w hw :: rr), _, rfl, upd_same, .inl ⟨s0 _ _ hra, fun tr H1 k1 ht h1 => ⟨rfl, ek kd e y dx H1 hy hd k1 tr ht h1⟩⟩⟩
    refine ⟨_, rfl, pa, _, 0, .str hw, rfl, rfl, hL, atI_nat rfl, rfl, _, rfl, ?_⟩
    refine dC (fun c => ?_) (fun c => ?_)
    · exact fin "shared" (by rw [if_pos (by injection c)])
    · exact ⟨_, rfl, pa, _, 0, .str hw, rfl, rfl, hL, atI_nat rfl, fin hw (by rw [if_neg (fun z => c (by rw [z]))])⟩
theorem ok_Unit_init (T : Tx K mg sa sx) : KCal P w K mg base 1 "Unit" (UC K) (spUni K) [] := by
  obtain ⟨fd, F⟩ := f_Unit_init T
  refine ⟨g_Unit T, _, fd, ["self", "name", "is_late", "cells", "blocks"], [], m_Unit T, fnok F sc_Unit_init (fun vs H Q E h => ?_) (fun cdv A outer s H vs Q E hr h => ?_), F.bindsN fun _ _ _ _ _ _ us hl => match us, hl with | [_, _, _, _, _], _ => rfl, .nil⟩
  · obtain ⟨y, dx, c, a, n, lt, kvs, xs, rfl, _⟩ := h; rfl
  · obtain ⟨y, dx, c, a, n, lt, kvs, xs, rfl, hy, hc, ha, q⟩ := h
    refine ⟨_, (pss_cons (ps_fld (pv 0) (pv 1) rfl)
    (pss_cons (ps_fld (pv 0) (pv 2) rfl)
    (pss_cons (ps_fld (pv 0) (pe_callTy (T := "dict") call_dictD rfl (n_dict T) (by decide +kernel) (pa_cons (pv 3) pa_nil)) rfl)
    (pss_one (ps_fld (pv 0) (pe_callTy (T := "tuple") call_tuple_of rfl (n_tuple T) (by decide +kernel) (pa_cons (pv 4) pa_nil)) rfl))))), ?_⟩
    refine ⟨_, rfl, _, rfl, y, _, dx, [], rfl, hy, c_Unit T, na_Unit_name T, fn0, ?_⟩
    refine ⟨_, rfl, _, rfl, y, _, dx, _, rfl, upd_same, c_Unit T, na_Unit_is_late T, fnS fs0, ?_⟩
    rw [upd_upd]
    have e2 : putF "is_late" (V.bl lt) (putF "name" (V.str n) []) = ([("name", V.str n), ("is_late", V.bl lt)] : List (Str × V)) := rfl
    rw [e2]
    have k2 : Kp y H (upd H y (.ins (UC K) dx [("name", V.str n), ("is_late", V.bl lt)])) := Kp.refl.at
    have hy2 : (upd H y (.ins (UC K) dx [("name", V.str n), ("is_late", V.bl lt)])) y = some (.ins (UC K) dx [("name", V.str n), ("is_late", V.bl lt)]) := upd_same
    have nc : c ≠ y := fun z => by rw [z, hy] at hc; cases hc
    have na : a ≠ y := fun z => by rw [z, hy] at ha; cases ha
    have hc2 := k2 _ _ nc hc
    have ha2 := k2 _ _ na ha
    generalize upd H y (.ins (UC K) dx [("name", V.str n), ("is_late", V.bl lt)]) = H2 at k2 hy2 hc2 ha2 ⊢
    refine ⟨_, rfl, c, kvs, rfl, .inl hc2, fun cd hcd => ?_⟩
    have n3 : cd ≠ y := (ne_of_none hy2 hcd).symm
    refine ⟨_, rfl, y, _, dx, _, rfl, (Same.new hcd) _ _ hy2, c_Unit T, na_Unit_cells T, by simp, ?_⟩
    have e3 : putF "cells" (V.ref cd) [("name", V.str n), ("is_late", V.bl lt)] = ([("name", V.str n), ("is_late", V.bl lt), ("cells", V.ref cd)] : List (Str × V)) := rfl
    rw [e3]
    have k3 : Kp y H (upd (upd H2 cd (.dK kvs)) y (.ins (UC K) dx [("name", V.str n), ("is_late", V.bl lt), ("cells", V.ref cd)])) := (k2.trans (Same.new hcd).kp).at
    have hy3 : (upd (upd H2 cd (.dK kvs)) y (.ins (UC K) dx [("name", V.str n), ("is_late", V.bl lt), ("cells", V.ref cd)])) y = some (.ins (UC K) dx [("name", V.str n), ("is_late", V.bl lt), ("cells", V.ref cd)]) := upd_same
    have hc3 : (upd (upd H2 cd (.dK kvs)) y (.ins (UC K) dx [("name", V.str n), ("is_late", V.bl lt), ("cells", V.ref cd)])) cd = some (.dK kvs) := by rw [upd_ne n3, upd_same]
    have ha3 : (upd (upd H2 cd (.dK kvs)) y (.ins (UC K) dx [("name", V.str n), ("is_late", V.bl lt), ("cells", V.ref cd)])) a = some (.lst xs) := by rw [upd_ne na]; exact (Same.new hcd) _ _ ha2
    generalize upd (upd H2 cd (.dK kvs)) y (.ins (UC K) dx [("name", V.str n), ("is_late", V.bl lt), ("cells", V.ref cd)]) = H3 at k3 hy3 hc3 ha3 ⊢
    refine ⟨_, rfl, a, xs, rfl, .inl ⟨SqL.of ha3, fun bt hbt => ?_⟩⟩
    have n4 : bt ≠ y := (ne_of_none hy3 hbt).symm
    refine ⟨_, rfl, y, _, dx, _, rfl, (Same.new hbt) _ _ hy3, c_Unit T, na_Unit_blocks T, by simp, ?_⟩
    exact q cd bt _ (k3.trans (Same.new hbt).kp).at (by rw [upd_ne n3]; exact (Same.new hbt) _ _ hc3) (by rw [upd_ne n4, upd_same]) upd_same
end
end K88
namespace Um
open PySem PySem.Spec PyProof.Rows Cm TL
open L2 hiding Same
/-! ### a unit out of its sections -/
theorem declF_nd {most : Int} : ∀ {l : List De} {t : Int} {seen : List Str}, declF most t seen l = none → seen.Nodup → (seen ++ l.map De.name).Nodup
  | [], _, seen, _, h => by simpa using h
  | d :: r, t, seen, e, h => by
    unfold declF at e
    split at e
    · cases e
    · split at e
      · cases e
      · rename_i c
        have := declF_nd (l := r) e (List.nodup_append.mpr ⟨h, by simp, fun a ha b hb z => c (by rw [List.mem_singleton] at hb; rw [← hb, ← z]; exact ha)⟩)
        simpa using this
def Sec.headP (s : Sec) : List Pt := (s.ahead.headD (0, [])).2
theorem cells_nd {s : Sec} (h : unitFault s = none) : s.names.Nodup := by
  unfold unitFault at h
  cases e : declF 9 0 [] s.decl with
  | some x => rw [e] at h; cases h
  | none =>
    have := declF_nd e List.nodup_nil
    unfold Sec.decl at this
    rw [List.nil_append, List.map_map] at this
    exact this
theorem skv_len (l : List (Str × V)) : (skv l).length = l.length := List.length_map ..
theorem skv_fresh {l : List (Str × V)} {s : Str} (v : V) (h : s ∉ l.map (·.1)) : putK (skv l) (Sum.inr s) v = skv (l ++ [(s, v)]) := by
  have e : putK (skv l) (Sum.inr s) v = skv l ++ [(Sum.inr s, v)] := by
    unfold skv
    rw [putK_new]
    have := val_skv l s
    unfold skv at this
    rw [this, List.lookup_eq_none_iff]
    intro p hp
    rw [bne_iff_ne]
    intro z
    exact h (List.mem_map.mpr ⟨p, hp, z.symm⟩)
  rw [e]; unfold skv; rw [List.map_append]; rfl
end Um
/-! x = {k: v for ..}: a dict comprehension that is stored to a plain local -/
namespace Cm
open PySem PySem.Spec PyProof.Rows PySem.W PySem.Calls
open L2 hiding Same
section
variable {X : Cx}
theorem sw_dict {kx vx : Expr} {gs : List Comprehension} {scope : Scope} {pos py : Pos} {y : Str} {l : Nat} {env : Env} (hk : env.scope.kind = .function) (hy : env.scope.names.lookup y = some .local) (hl : (py.line == pos.line) = true)
    (ha : (scope.names.any fun (n, k) => n == y && (k == .local || k == .cell)) = false) : swapsWith (.DictComp kx vx gs scope pos) (some (.Name y py)) l env = pure true := by
  have ky : env.kindOf y = some .local := hy
  have hb : env.blockKind = .function := by unfold Env.blockKind; rw [hk]; rfl
  unfold swapsWith
  simp only [hb, ky, ha, Expr.pos, hl]
  rfl
theorem ps_setDcK {i : Nat} {y : Str} {py : Pos} {kx vx tg iter : Expr} {ifs : List Expr} {scope : Scope} {own : List (Str × Nat)} {pos spos : Pos} {wi : TI} {g : TG} {tt : TT} {tk tv : TE} (hc : X.calm = true) (hN : X.N.Nodup) (hy : X.N[i]? = some y) (hyl : X.env.scope.names.lookup y = some .local)
    (hsw : swapsWith (.DictComp kx vx [⟨tg, iter, ifs, 0⟩] scope pos) (some (.Name y py)) spos.line X.env = pure true) (hi : PI X tg iter wi) (ok : BlkOk X.N X.env.scope scope own)
    (hg : ∀ (s : Shared) (H : Hp) (C : Addr) (cl : List (Str × Addr)) (fp : List Addr), PG (X.blk s H scope (compEnvC scope cl C X.env) fp) tg g) (ht : ∀ (s : Shared) (H : Hp) (C : Addr) (cl : List (Str × Addr)) (fp : List Addr), PTs (X.blk s H scope (compEnvC scope cl C X.env) fp) ifs tt)
    (hk : ∀ (s : Shared) (H : Hp) (C : Addr) (cl : List (Str × Addr)) (fp : List Addr), PE (X.blk s H scope (compEnvC scope cl C X.env) fp) kx tk)
    (he : ∀ (s : Shared) (H : Hp) (C : Addr) (cl : List (Str × Addr)) (fp : List Addr), PE (X.blk s H scope (compEnvC scope cl C X.env) fp) vx tv) (hs : ∀ x, foldedSetIterable iter X.env x = pure x := by intro _; rfl) :
    PS X (.Assign [.Name y py] (.DictComp kx vx [⟨tg, iter, ifs, 0⟩] scope pos) spos) (tAsg (tDc wi g tt tk tv (own.map (·.2))) (gName i)) := by
  refine ⟨fun pins s σ H D I h => ?_⟩
  rw [exec_Assign_Name_used _ _ _ _ hsw]
  refine wpAny_bind (wpAny_standAt (wpAny_bind ?_))
  show wpAny _ X.A (do let _ ← comprehension (.DictComp kx vx [⟨tg, iter, ifs, 0⟩] scope pos) scope X.env (firstIterPos [⟨tg, iter, ifs, 0⟩] pos) newDict false (eval iter X.env) (some (assign (.Name y py) X.env))) _ _ s
  have h : tDc wi g tt tk tv (own.map (·.2)) σ H (fun x H1 => gName i x σ H1 D.nx) := h
  refine wpAny_bind (thn (dc_core (Qf := fun _ s' => SP X pins D .next s') hc hN I hi ok hg ht hk he hs h fun L C s' m H' I' q hn f => ?_) fun _ s' hq => wpAny_pure (wpAny_pure hq))
  show wpAny _ _ (assign (.Name y py) X.env (.ref L)) _ _ _
  refine wpAny_assign_Name (store_ok2 (v := V.ref L) I' hN hy (.inl hyl) rfl (fun s2 I2 ⟨a, sb, ha⟩ => ?_) (.inr hyl))
  obtain ⟨f0, f1, f2, f3, f4, f5⟩ := f
  have haC : C ≠ a := by
    rcases ha with z | z
    · rw [z]; exact f1
    · exact fun e => f4 y a z e.symm
  refine ⟨m, hn.sameBut sb haC, fun h3 sb3 => ?_⟩
  exact ⟨_, H', I2.turned (t' := s2.toks) (fun b o hb e => (sb3.2 b hb).trans e) f0 f1 f3 f4 f5, q⟩
end
end Cm
namespace Cm
open PySem PySem.Spec PyProof.Rows L2
/-! ### patterns -/
inductive En
  | k (v : Int)
  | n (i : Nat)
  deriving DecidableEq
def En.vs : En → List V
  | .k v => [.str "kept", .int v]
  | .n i => [.str "new", .int (i : Int)]
def En.ds : En → List PyData
  | .k v => [.str "kept", .int v]
  | .n i => [.str "new", .int (i : Int)]
def pat (kept : List Int) : List Int → List Int → List En
  | _, [] => []
  | s, v :: vs => if v ∈ kept then .k v :: pat kept s vs else if v ∈ s then .n (s.idxOf v) :: pat kept s vs else .n s.length :: pat kept (s ++ [v]) vs
theorem pat_k {kept s : List Int} {v : Int} {vs : List Int} (h : v ∈ kept) : pat kept s (v :: vs) = .k v :: pat kept s vs := by rw [pat, if_pos h]
theorem pat_o {kept s : List Int} {v : Int} {vs : List Int} (h : v ∉ kept) (h2 : v ∈ s) : pat kept s (v :: vs) = .n (s.idxOf v) :: pat kept s vs := by rw [pat, if_neg h, if_pos h2]
theorem pat_n {kept s : List Int} {v : Int} {vs : List Int} (h : v ∉ kept) (h2 : v ∉ s) : pat kept s (v :: vs) = .n s.length :: pat kept (s ++ [v]) vs := by rw [pat, if_neg h, if_neg h2]
theorem pat_len (kept : List Int) : ∀ (xs s : List Int), (pat kept s xs).length = xs.length
  | [], _ => rfl
  | v :: vs, s => by
    by_cases h : v ∈ kept
    · rw [pat_k h, List.length_cons, pat_len kept vs s, List.length_cons]
    · by_cases h2 : v ∈ s
      · rw [pat_o h h2, List.length_cons, pat_len kept vs s, List.length_cons]
      · rw [pat_n h h2, List.length_cons, pat_len kept vs _, List.length_cons]
theorem pat_congr {k1 k2 : List Int} (h : ∀ v, v ∈ k1 ↔ v ∈ k2) : ∀ (xs s : List Int), pat k1 s xs = pat k2 s xs
  | [], _ => rfl
  | v :: vs, s => by
    by_cases h1 : v ∈ k1
    · rw [pat_k h1, pat_k ((h v).mp h1), pat_congr h vs s]
    · have h2 : v ∉ k2 := fun z => h1 ((h v).mpr z)
      by_cases h3 : v ∈ s
      · rw [pat_o h1 h3, pat_o h2 h3, pat_congr h vs s]
      · rw [pat_n h1 h3, pat_n h2 h3, pat_congr h vs _]
/-! ### first places -/
theorem idx_lt {v : Int} {s : List Int} (h : v ∈ s) : s.idxOf v < s.length := List.idxOf_lt_length_of_mem h
theorem idx_at {v : Int} {s : List Int} (h : v ∈ s) : s[s.idxOf v]'(idx_lt h) = v := List.getElem_idxOf (idx_lt h)
theorem idx_before {v : Int} : ∀ {s : List Int} {m : Nat} (hm : m < s.length), m < s.idxOf v → s[m] ≠ v
  | [], m, hm, _ => absurd hm (Nat.not_lt_zero _)
  | x :: s, m, hm, h => by
    rw [List.idxOf_cons] at h
    by_cases e : x = v
    · subst e; simp at h
    · have e2 : (x == v) = false := beq_false_of_ne e
      rw [e2] at h
      cases m with
      | zero => exact e
      | succ m =>
        rw [List.getElem_cons_succ]
        exact idx_before (by simpa using hm) (by simpa using h)
theorem idx_append {v : Int} {s : List Int} (h : v ∉ s) : (s ++ [v]).idxOf v = s.length := by
  induction s with
  | nil => simp
  | cons x s ih =>
    have h1 : x ≠ v := fun e => h (e ▸ List.mem_cons_self)
    have h2 : v ∉ s := fun e => h (List.mem_cons_of_mem _ e)
    rw [List.cons_append, List.idxOf_cons, beq_false_of_ne h1]
    simp [ih h2]
theorem idx_nodup {s : List Int} (nd : s.Nodup) {i : Nat} (h : i < s.length) : s.idxOf s[i] = i := by
  have hm := List.getElem_mem h
  have h1 := idx_lt hm
  have h2 := idx_at hm
  by_cases c : s.idxOf s[i] = i
  · exact c
  · exact absurd h2 (by
      have := List.pairwise_iff_getElem.mp nd
      rcases Nat.lt_or_gt_of_ne c with l | l
      · exact this _ _ h1 h l
      · exact (this _ _ h h1 l).symm)
/-! ### when two patterns are equal -/
abbrev g (l : List Int) (k : Nat) : Int := l.getD k 0
theorem g_at {l : List Int} {k : Nat} (h : k < l.length) : g l k = l[k] := by
  show l.getD k 0 = _
  rw [List.getD_eq_getElem?_getD, List.getElem?_eq_getElem h]; rfl
theorem g_mem {l : List Int} {k : Nat} (h : k < l.length) : g l k ∈ l := by rw [g_at h]; exact List.getElem_mem h
def Alk (kept s1 s2 xs ys : List Int) : Prop := ∀ k < xs.length, ((g xs k ∈ kept ∨ g ys k ∈ kept) → g xs k = g ys k) ∧ (∀ i < s1.length, (g xs k = g s1 i ↔ g ys k = g s2 i)) ∧ ∀ j < k, (g xs k = g xs j ↔ g ys k = g ys j)
theorem g_app1 {s : List Int} {x : Int} {i : Nat} (h : i < s.length) : g (s ++ [x]) i = g s i := by
  rw [g_at (by rw [List.length_append]; exact Nat.lt_add_right _ h), g_at h, List.getElem_append_left h]
theorem g_app2 {s : List Int} {x : Int} : g (s ++ [x]) s.length = x := by
  rw [g_at (by simp)]; simp
theorem alk_cons {kept s1 s2 xs ys : List Int} {x y : Int} (hl : s1.length = s2.length) :
    Alk kept s1 s2 (x :: xs) (y :: ys) ↔ (((x ∈ kept ∨ y ∈ kept) → x = y) ∧ ∀ i < s1.length, (x = g s1 i ↔ y = g s2 i)) ∧ Alk kept (s1 ++ [x]) (s2 ++ [y]) xs ys := by
  constructor
  · intro h
    obtain ⟨a, b, _⟩ := h 0 (Nat.zero_lt_succ _)
    refine ⟨⟨a, b⟩, fun k hk => ?_⟩
    obtain ⟨a2, b2, c2⟩ := h (k + 1) (Nat.succ_lt_succ hk)
    refine ⟨a2, fun i hi => ?_, fun j hj => c2 (j + 1) (Nat.succ_lt_succ hj)⟩
    rw [List.length_append] at hi
    by_cases c : i < s1.length
    · rw [g_app1 c, g_app1 (hl ▸ c)]; exact b2 i c
    · have e : i = s1.length := by simp at hi; omega
      subst e
      rw [g_app2, show g (s2 ++ [y]) s1.length = y from by rw [hl]; exact g_app2]
      exact c2 0 (Nat.zero_lt_succ _)
  · rintro ⟨⟨a, b⟩, h⟩ k hk
    cases k with
    | zero => exact ⟨a, b, fun j hj => absurd hj (Nat.not_lt_zero _)⟩
    | succ k =>
      obtain ⟨a2, b2, c2⟩ := h k (Nat.lt_of_succ_lt_succ hk)
      refine ⟨a2, fun i hi => ?_, fun j hj => ?_⟩
      · have z := b2 i (by rw [List.length_append]; exact Nat.lt_add_right _ hi)
        rw [g_app1 hi, g_app1 (hl ▸ hi)] at z; exact z
      · cases j with
        | zero =>
          have z := b2 s1.length (by simp)
          rw [g_app2, show g (s2 ++ [y]) s1.length = y from by rw [hl]; exact g_app2] at z
          exact z
        | succ j => exact c2 j (Nat.lt_of_succ_lt_succ hj)
/-- one more seen value that says nothing new -/
theorem alk_drop {kept s1 s2 xs ys : List Int} {x y : Int} (hl : s1.length = s2.length) (h : ∀ k < xs.length, ((g xs k ∈ kept ∨ g ys k ∈ kept) → g xs k = g ys k) → (∀ i < s1.length, (g xs k = g s1 i ↔ g ys k = g s2 i)) → (g xs k = x ↔ g ys k = y)) :
    Alk kept (s1 ++ [x]) (s2 ++ [y]) xs ys ↔ Alk kept s1 s2 xs ys := by
  constructor
  · intro q k hk
    obtain ⟨a, b, c⟩ := q k hk
    refine ⟨a, fun i hi => ?_, c⟩
    have z := b i (by rw [List.length_append]; exact Nat.lt_add_right _ hi)
    rw [g_app1 hi, g_app1 (hl ▸ hi)] at z; exact z
  · intro q k hk
    obtain ⟨a, b, c⟩ := q k hk
    refine ⟨a, fun i hi => ?_, c⟩
    rw [List.length_append] at hi
    by_cases d : i < s1.length
    · rw [g_app1 d, g_app1 (hl ▸ d)]; exact b i d
    · have e : i = s1.length := by simp at hi; omega
      subst e
      rw [g_app2, show g (s2 ++ [y]) s1.length = y from by rw [hl]; exact g_app2]
      exact h k hk a b
theorem nodup_app {s : List Int} {x : Int} (nd : s.Nodup) (h : x ∉ s) : (s ++ [x]).Nodup := by
  rw [List.nodup_append]
  exact ⟨nd, by simp, fun a ha b hb => by simp at hb; subst hb; exact fun e => h (e ▸ ha)⟩
theorem pat_eq (kept : List Int) : ∀ (xs ys s1 s2 : List Int), xs.length = ys.length → s1.length = s2.length → s1.Nodup → s2.Nodup → (∀ v ∈ s1, v ∉ kept) → (∀ v ∈ s2, v ∉ kept) → (pat kept s1 xs = pat kept s2 ys ↔ Alk kept s1 s2 xs ys)
  | [], [], s1, s2, _, _, _, _, _, _ => ⟨fun _ k hk => absurd hk (Nat.not_lt_zero _), fun _ => rfl⟩
  | [], _ :: _, _, _, h, _, _, _, _, _ => by cases h
  | _ :: _, [], _, _, h, _, _, _, _, _ => by cases h
  | x :: xs, y :: ys, s1, s2, hxy, hl, n1, n2, d1, d2 => by
    have hxy' : xs.length = ys.length := by simpa using hxy
    have ih := pat_eq kept xs ys s1 s2 hxy' hl n1 n2 d1 d2
    rw [alk_cons hl]
    by_cases hx : x ∈ kept
    · by_cases hy : y ∈ kept
      · rw [pat_k hx, pat_k hy]
        constructor
        · intro e
          injection e with e1 e2
          injection e1 with e1
          refine ⟨⟨fun _ => e1, fun i hi => ⟨fun z => ?_, fun z => ?_⟩⟩, (alk_drop hl fun k hk a b => ⟨fun z => ?_, fun z => ?_⟩).mpr (ih.mp e2)⟩
          · exact absurd hx (by rw [z]; exact d1 _ (g_mem hi))
          · exact absurd hy (by rw [z]; exact d2 _ (g_mem (hl ▸ hi)))
          · rw [← a (.inl (by rw [z]; exact hx)), z, e1]
          · rw [a (.inr (by rw [z]; exact hy)), z, e1]
        · rintro ⟨⟨a, b⟩, q⟩
          have e1 := a (.inl hx)
          have q2 := (alk_drop hl fun k hk a b => ⟨fun z => by rw [← a (.inl (by rw [z]; exact hx)), z, e1], fun z => by rw [a (.inr (by rw [z]; exact hy)), z, e1]⟩).mp q
          rw [ih.mpr q2, e1]
      · constructor
        · intro e
          rw [pat_k hx] at e
          by_cases h2 : y ∈ s2
          · rw [pat_o hy h2] at e; injection e with e1; cases e1
          · rw [pat_n hy h2] at e; injection e with e1; cases e1
        · rintro ⟨⟨a, _⟩, _⟩
          exact absurd (a (.inl hx) ▸ hx) hy
    · by_cases hy : y ∈ kept
      · constructor
        · intro e
          rw [pat_k hy] at e
          by_cases h2 : x ∈ s1
          · rw [pat_o hx h2] at e; injection e with e1; cases e1
          · rw [pat_n hx h2] at e; injection e with e1; cases e1
        · rintro ⟨⟨a, _⟩, _⟩
          exact absurd (a (.inr hy) ▸ hy) hx
      · have hk : (x ∈ kept ∨ y ∈ kept) → x = y := fun z => z.elim (fun z => absurd z hx) fun z => absurd z hy
        by_cases h1 : x ∈ s1
        · have l1 := idx_lt h1
          have a1 := idx_at h1
          by_cases h2 : y ∈ s2
          · have l2 := idx_lt h2
            have a2 := idx_at h2
            rw [pat_o hx h1, pat_o hy h2]
            have dr : (∀ i < s1.length, (x = g s1 i ↔ y = g s2 i)) → (Alk kept (s1 ++ [x]) (s2 ++ [y]) xs ys ↔ Alk kept s1 s2 xs ys) := fun b => alk_drop hl fun k hk a c => by
              have z := c _ l1
              have e1 : g s1 (s1.idxOf x) = x := by rw [g_at l1, a1]
              have e2 : g s2 (s1.idxOf x) = y := ((b _ l1).mp e1.symm).symm
              rw [e1, e2] at z; exact z
            constructor
            · intro e
              injection e with e1 e2
              injection e1 with e1
              have b : ∀ i < s1.length, (x = g s1 i ↔ y = g s2 i) := fun i hi => ⟨fun z => by
                have : s1.idxOf x = i := by rw [z, g_at hi]; exact idx_nodup n1 hi
                rw [← this, e1, g_at l2, a2], fun z => by
                have : s2.idxOf y = i := by rw [z, g_at (hl ▸ hi)]; exact idx_nodup n2 (hl ▸ hi)
                rw [← this, ← e1, g_at l1, a1]⟩
              exact ⟨⟨hk, b⟩, (dr b).mpr (ih.mp e2)⟩
            · rintro ⟨⟨_, b⟩, q⟩
              have e1 : s1.idxOf x = s2.idxOf y := by
                have z := (b _ l1).mp (by rw [g_at l1, a1])
                have l3 : s1.idxOf x < s2.length := hl ▸ l1
                rw [z, g_at l3]; exact (idx_nodup n2 l3).symm
              rw [ih.mpr ((dr b).mp q), e1]
          · constructor
            · intro e
              rw [pat_o hx h1, pat_n hy h2] at e
              injection e with e1; injection e1 with e1; omega
            · rintro ⟨⟨_, b⟩, _⟩
              have z := (b _ l1).mp (by rw [g_at l1, a1])
              exact absurd (by rw [z]; exact g_mem (hl ▸ l1)) h2
        · by_cases h2 : y ∈ s2
          · have l2 := idx_lt h2
            have a2 := idx_at h2
            constructor
            · intro e
              rw [pat_n hx h1, pat_o hy h2] at e
              injection e with e1; injection e1 with e1; omega
            · rintro ⟨⟨_, b⟩, _⟩
              have z := (b _ (hl ▸ l2)).mpr (by rw [g_at l2, a2])
              exact absurd (by rw [z]; exact g_mem (hl ▸ l2)) h1
          · rw [pat_n hx h1, pat_n hy h2]
            have ih2 := pat_eq kept xs ys (s1 ++ [x]) (s2 ++ [y]) hxy' (by simp [hl]) (nodup_app n1 h1) (nodup_app n2 h2)
              (fun v hv => by rcases List.mem_append.mp hv with h | h; · exact d1 v h
                              · simp at h; subst h; exact hx)
              (fun v hv => by rcases List.mem_append.mp hv with h | h; · exact d2 v h
                              · simp at h; subst h; exact hy)
            constructor
            · intro e
              injection e with e1 e2
              exact ⟨⟨hk, fun i hi => ⟨fun z => absurd (by rw [z]; exact g_mem hi) h1, fun z => absurd (by rw [z]; exact g_mem (hl ▸ hi)) h2⟩⟩, ih2.mp e2⟩
            · rintro ⟨_, q⟩
              rw [ih2.mpr q, hl]
def Alike (kept xs ys : List Int) : Prop := ∀ k < xs.length, ((g xs k ∈ kept ∨ g ys k ∈ kept) → g xs k = g ys k) ∧ ∀ j < k, (g xs k = g xs j ↔ g ys k = g ys j)
theorem alike_iff {kept xs ys : List Int} (h : xs.length = ys.length) : pat kept [] xs = pat kept [] ys ↔ Alike kept xs ys := by
  rw [pat_eq kept xs ys [] [] h rfl List.nodup_nil List.nodup_nil (fun v hv => absurd hv (by simp)) (fun v hv => absurd hv (by simp))]
  exact ⟨fun q k hk => let ⟨a, _, c⟩ := q k hk; ⟨a, c⟩, fun q k hk => let ⟨a, c⟩ := q k hk; ⟨a, fun i hi => absurd hi (Nat.not_lt_zero _), c⟩⟩
/-! ### what no kept one is -/
def fre (t : List Int) (n : Nat) : List Int := ((List.range n).map fun i : Nat => (i : Int)).filter fun v => decide (v ∉ t)
theorem fre_succ (t : List Int) (n : Nat) : fre t (n + 1) = fre t n ++ (if (n : Int) ∉ t then [(n : Int)] else []) := by
  unfold fre
  rw [List.range_succ, List.map_append, List.filter_append]
  by_cases h : (n : Int) ∈ t <;> simp [h]
theorem fre_at (t : List Int) : ∀ (n i : Nat) (v : Int), (fre t n)[i]? = some v → 0 ≤ v ∧ v < n ∧ v ∉ t ∧ (fre t v.toNat).length = i
  | 0, i, v, h => by simp [fre] at h
  | n + 1, i, v, h => by
    rw [fre_succ] at h
    by_cases c : i < (fre t n).length
    · rw [List.getElem?_append_left c] at h
      obtain ⟨a, b, r⟩ := fre_at t n i v h
      exact ⟨a, by omega, r⟩
    · rw [List.getElem?_append_right (by omega)] at h
      by_cases hn : (n : Int) ∈ t
      · simp [hn] at h
      · rw [if_pos hn] at h
        have h2 : i - (fre t n).length = 0 := by
          have := (List.getElem?_eq_some_iff.mp h).1
          simpa using this
        rw [h2] at h
        have e : (n : Int) = v := by simpa using h
        subst e
        exact ⟨by omega, by omega, hn, by rw [Int.toNat_natCast]; omega⟩
theorem filter_ne {l : List Int} (a : Int) (h : l.Pairwise (· < ·)) : l.length ≤ (l.filter fun v => decide (v ≠ a)).length + 1 := by
  induction l with
  | nil => simp
  | cons x l ih =>
    obtain ⟨h1, h2⟩ := List.pairwise_cons.mp h
    by_cases e : x = a
    · subst e
      have : l.filter (fun v => decide (v ≠ x)) = l := List.filter_eq_self.mpr fun v hv => decide_eq_true (by have := h1 v hv; omega)
      rw [List.filter_cons_of_neg (by simp), this]; simp
    · rw [List.filter_cons_of_pos (by simpa using e), List.length_cons, List.length_cons]
      have := ih h2
      omega
theorem fre_sorted (t : List Int) (n : Nat) : (fre t n).Pairwise (· < ·) := by
  unfold fre
  refine List.Pairwise.filter _ (List.Pairwise.map _ (fun a b h => ?_) List.pairwise_lt_range)
  exact Int.ofNat_lt.mpr h
theorem fre_len (t : List Int) (n : Nat) : n ≤ (fre t n).length + t.length := by
  induction t with
  | nil =>
    have e : fre [] n = (List.range n).map fun i : Nat => (i : Int) := List.filter_eq_self.mpr fun v _ => by simp
    rw [e]; simp
  | cons a t ih =>
    have e : fre (a :: t) n = (fre t n).filter fun v => decide (v ≠ a) := by
      unfold fre
      rw [List.filter_filter]
      congr 1
      funext v
      by_cases h1 : v = a <;> by_cases h2 : v ∈ t <;> simp [h1, h2]
    have := filter_ne a (fre_sorted t n)
    rw [e, List.length_cons]
    omega
def frs (c : Nat) (t : List Int) : List Int := (fre t (c + t.length)).take c
theorem frs_len (c : Nat) (t : List Int) : (frs c t).length = c := by
  have := fre_len t (c + t.length)
  unfold frs
  rw [List.length_take]
  omega
theorem frs_at {c : Nat} {t : List Int} {i : Nat} (h : i < c) : 0 ≤ g (frs c t) i ∧ g (frs c t) i < (c + t.length : Nat) ∧ g (frs c t) i ∉ t ∧ (fre t (g (frs c t) i).toNat).length = i := by
  have h2 : i < (frs c t).length := by rw [frs_len]; exact h
  rw [g_at h2]
  refine fre_at t (c + t.length) i _ ?_
  have e : (frs c t)[i]? = some (frs c t)[i] := List.getElem?_eq_getElem h2
  unfold frs at e
  rw [List.getElem?_take_of_lt h] at e
  exact e
theorem frs_nodup (c : Nat) (t : List Int) : (frs c t).Nodup :=
  ((fre_sorted t (c + t.length)).take (i := c)).imp fun h => Int.ne_of_lt h
/-! ### what realises a pattern -/
def rz (o : List Int) : En → Int
  | .k v => v
  | .n i => g o i
theorem pat_rz {kept o : List Int} (nd : o.Nodup) (dj : ∀ v ∈ o, v ∉ kept) : ∀ (xs s : List Int), (∀ i, En.n i ∈ pat kept s xs → i < o.length) → s.length ≤ o.length → pat kept (o.take s.length) ((pat kept s xs).map (rz o)) = pat kept s xs
  | [], _, _, _ => rfl
  | v :: vs, s, hb, hs => by
    by_cases h : v ∈ kept
    · rw [pat_k h] at hb ⊢
      rw [List.map_cons, show rz o (.k v) = v from rfl, pat_k h, pat_rz nd dj vs s (fun i hi => hb i (List.mem_cons_of_mem _ hi)) hs]
    · by_cases h2 : v ∈ s
      · rw [pat_o h h2] at hb ⊢
        have l := idx_lt h2
        have lo : s.idxOf v < o.length := Nat.lt_of_lt_of_le l hs
        have l2 : s.idxOf v < (o.take s.length).length := by rw [List.length_take]; omega
        have e : rz o (.n (s.idxOf v)) = (o.take s.length)[s.idxOf v] := by
          show g o _ = _
          rw [g_at lo, List.getElem_take]
        rw [List.map_cons, e, pat_o (by rw [List.getElem_take]; exact dj _ (List.getElem_mem _)) (List.getElem_mem _), idx_nodup (nd.take) l2, pat_rz nd dj vs s (fun i hi => hb i (List.mem_cons_of_mem _ hi)) hs]
      · rw [pat_n h h2] at hb ⊢
        have lo : s.length < o.length := hb _ List.mem_cons_self
        have e : rz o (.n s.length) = o[s.length] := g_at lo
        have nm : o[s.length] ∉ o.take s.length := by
          intro z
          obtain ⟨j, hj, ej⟩ := List.getElem_of_mem z
          rw [List.getElem_take] at ej
          rw [List.length_take] at hj
          exact List.pairwise_iff_getElem.mp nd j s.length (by omega) lo (by omega) ej
        rw [List.map_cons, e, pat_n (dj _ (List.getElem_mem _)) nm, List.length_take, Nat.min_eq_left hs]
        have e2 : o.take s.length ++ [o[s.length]] = o.take (s ++ [v]).length := by
          rw [List.length_append, List.length_singleton, List.take_add_one, List.getElem?_eq_getElem lo]; rfl
        rw [e2, pat_rz nd dj vs (s ++ [v]) (fun i hi => hb i (List.mem_cons_of_mem _ hi)) (by rw [List.length_append]; exact lo)]
/-- a class's number is below the count of classes so far -/
theorem pat_bound (kept : List Int) : ∀ (xs s : List Int) (i : Nat), En.n i ∈ pat kept s xs → i < s.length + xs.length
  | [], _, _, h => by simp [pat] at h
  | v :: vs, s, i, h => by
    by_cases h1 : v ∈ kept
    · rw [pat_k h1] at h
      rcases List.mem_cons.mp h with e | e
      · cases e
      · have := pat_bound kept vs s i e; simp; omega
    · by_cases h2 : v ∈ s
      · rw [pat_o h1 h2] at h
        rcases List.mem_cons.mp h with e | e
        · injection e with e; have := idx_lt h2; simp; omega
        · have := pat_bound kept vs s i e; simp; omega
      · rw [pat_n h1 h2] at h
        rcases List.mem_cons.mp h with e | e
        · injection e with e; simp; omega
        · have := pat_bound kept vs (s ++ [v]) i e
          simp at this ⊢; omega
theorem pat_kept (kept : List Int) : ∀ (xs s : List Int) (v : Int), En.k v ∈ pat kept s xs → v ∈ kept
  | [], _, _, h => by simp [pat] at h
  | x :: xs, s, v, h => by
    by_cases h1 : x ∈ kept
    · rw [pat_k h1] at h
      rcases List.mem_cons.mp h with e | e
      · injection e with e; subst e; exact h1
      · exact pat_kept kept xs s v e
    · by_cases h2 : x ∈ s
      · rw [pat_o h1 h2] at h
        rcases List.mem_cons.mp h with e | e
        · cases e
        · exact pat_kept kept xs s v e
      · rw [pat_n h1 h2] at h
        rcases List.mem_cons.mp h with e | e
        · cases e
        · exact pat_kept kept xs _ v e
end Cm
namespace Cm
open PySem PySem.Spec PyProof.Rows L2
theorem cut_take (xs : List V) (c : Nat) : cutV xs none (some (c : Int)) = xs.take c := by
  unfold cutV
  rw [HT.sIx_none, HT.sIx_nat, Nat.sub_zero, List.drop_zero]
  exact (List.take_eq_take_min ..).symm
/-! ### patterns in the heap -/
abbrev AE := Addr × En
def rf (l : List AE) : List V := l.map fun q => V.ref q.1
def PatAt (H : Hp) (a : Addr) (es : List En) : Prop := ∃ l : List AE, H a = some (.tup (rf l)) ∧ l.map (·.2) = es ∧ ∀ q ∈ l, H q.1 = some (.tup q.2.vs)
theorem PatAt.same {H H' : Hp} {a : Addr} {es : List En} (s : Same H H') (h : PatAt H a es) : PatAt H' a es :=
  let ⟨l, h1, h2, h3⟩ := h; ⟨l, s _ _ h1, h2, fun q hq => s _ _ (h3 q hq)⟩
theorem PatAt.kp {K : PySem.W.Frag} {sa : Addr} {sx : List Int} {H H' : Hp} {a p : Addr} {es : List En} (hP : PoolAt K sa sx H p) (s : Kp p H H') (h : PatAt H a es) : PatAt H' a es :=
  let ⟨l, h1, h2, h3⟩ := h; ⟨l, s _ _ (pool_tup hP h1) h1, h2, fun q hq => s _ _ (pool_tup hP (h3 q hq)) (h3 q hq)⟩
/-- the dict of the classes -/
def kvs (s : List Int) : List (Key × V) := s.zipIdx.map fun q => (Sum.inl q.1, V.int (q.2 : Int))
theorem kvs_len (s : List Int) : (kvs s).length = s.length := by unfold kvs; rw [List.length_map, List.length_zipIdx]
theorem val_from (v : Int) : ∀ (s : List Int) (n : Nat), valV ((s.zipIdx n).map fun q => ((Sum.inl q.1 : Key), V.int (q.2 : Int))) (Sum.inl v) = if v ∈ s then some (.int ((n + s.idxOf v : Nat) : Int)) else none
  | [], n => rfl
  | x :: s, n => by
    rw [List.zipIdx_cons, List.map_cons]
    by_cases e : x = v
    · subst e
      have : valV (((Sum.inl x : Key), V.int (n : Int)) :: ((s.zipIdx (n + 1)).map fun q => ((Sum.inl q.1 : Key), V.int (q.2 : Int)))) (Sum.inl x) = some (V.int (n : Int)) := by
        unfold valV
        rw [List.find?_cons_of_pos (by simp)]; rfl
      rw [this, if_pos List.mem_cons_self, List.idxOf_cons_self]; rfl
    · have : valV (((Sum.inl x : Key), V.int (n : Int)) :: ((s.zipIdx (n + 1)).map fun q => ((Sum.inl q.1 : Key), V.int (q.2 : Int)))) (Sum.inl v) = valV ((s.zipIdx (n + 1)).map fun q => ((Sum.inl q.1 : Key), V.int (q.2 : Int))) (Sum.inl v) := by
        unfold valV
        rw [List.find?_cons_of_neg (by simpa using e)]
      rw [this, val_from v s (n + 1), List.idxOf_cons, beq_false_of_ne e]
      by_cases h : v ∈ s
      · rw [if_pos h, if_pos (List.mem_cons_of_mem _ h)]
        show some (V.int ((n + 1 + s.idxOf v : Nat) : Int)) = some (V.int ((n + (s.idxOf v + 1) : Nat) : Int))
        rw [show n + 1 + s.idxOf v = n + (s.idxOf v + 1) from by omega]
      · rw [if_neg h, if_neg (by simp [h]; exact fun z => e z.symm)]
theorem val_kvs (v : Int) (s : List Int) : valV (kvs s) (Sum.inl v) = if v ∈ s then some (.int ((s.idxOf v : Nat) : Int)) else none := by
  have := val_from v s 0
  rw [Nat.zero_add] at this
  exact this
theorem put_kvs {v : Int} {s : List Int} (h : v ∉ s) : putK (kvs s) (Sum.inl v) (V.int ((kvs s).length : Int)) = kvs (s ++ [v]) := by
  have e : ((kvs s).any fun kv => decide (kv.1 = (Sum.inl v : Key))) = false := by
    rw [List.any_eq_false]
    intro kv hk
    unfold kvs at hk
    obtain ⟨q, hq, rfl⟩ := List.mem_map.mp hk
    have hm : q.1 ∈ s := by
      have := List.mem_zipIdx hq
      rw [this.2.2]
      exact List.getElem_mem _
    intro z
    have z2 : q.1 = v := by simpa using z
    exact h (z2 ▸ hm)
  unfold putK
  rw [e, if_neg (by simp), kvs_len]
  unfold kvs
  rw [List.zipIdx_append, List.map_append]
  simp
/-! ### data of patterns -/
theorem kn1 : (("kept" : Str) == "new") = false := by decide +kernel
theorem kn2 : (("new" : Str) == "kept") = false := by decide +kernel
theorem eqv_en (a b : En) : PyData.eqv (.tuple a.ds) (.tuple b.ds) = decide (a = b) := by
  cases a with
  | k v => cases b with
    | k w => simp [En.ds, PyData.eqv, PyData.eqvAll]; apply Bool.eq_iff_iff.mpr; simp
    | n j => simp [En.ds, PyData.eqv, PyData.eqvAll, kn1]
  | n i => cases b with
    | k w => simp [En.ds, PyData.eqv, PyData.eqvAll, kn2]
    | n j => simp [En.ds, PyData.eqv, PyData.eqvAll]; apply Bool.eq_iff_iff.mpr; simp [Int.ofNat_inj]
def pds (es : List En) : List PyData := es.map fun e => .tuple e.ds
theorem eqv_pds : ∀ a b : List En, PyData.eqvAll (pds a) (pds b) = decide (a = b)
  | [], [] => rfl
  | [], b :: bs => by simp [pds, PyData.eqvAll]
  | a :: as, [] => by simp [pds, PyData.eqvAll]
  | a :: as, b :: bs => by
    show (PyData.eqv (.tuple a.ds) (.tuple b.ds) && PyData.eqvAll (pds as) (pds bs)) = _
    rw [eqv_en, eqv_pds as bs]
    apply Bool.eq_iff_iff.mpr
    simp
theorem eqv_pat (a b : List En) : PyData.eqv (.tuple (pds a)) (.tuple (pds b)) = decide (a = b) := by
  rw [PyData.eqv]; exact eqv_pds a b
theorem dp_en {K : PySem.W.Frag} {H : Hp} {a : Addr} {e : En} (h : H a = some (.tup e.vs)) : Dp K H (.ref a) (.tuple e.ds) := by
  cases e with
  | k v => exact .tup (SqT.of h) (.cons (.str _) (.cons (.int _) .nil))
  | n i => exact .tup (SqT.of h) (.cons (.str _) (.cons (.int _) .nil))
theorem dp_ens {K : PySem.W.Frag} {H : Hp} : ∀ (l : List AE), (∀ q ∈ l, H q.1 = some (.tup q.2.vs)) → DpAll K H (rf l) (pds (l.map (·.2)))
  | [], _ => .nil
  | q :: l, h => .cons (dp_en (h q List.mem_cons_self)) (dp_ens l fun r hr => h r (List.mem_cons_of_mem _ hr))
theorem dp_pat {K : PySem.W.Frag} {H : Hp} {a : Addr} {es : List En} (h : PatAt H a es) : Dp K H (.ref a) (.tuple (pds es)) := by
  obtain ⟨l, h1, rfl, h3⟩ := h
  exact .tup (SqT.of h1) (dp_ens l h3)
theorem lay_en (e : En) : PyData.canLay0 (.tuple e.ds) = true ∧ (PyData.tuple e.ds).depth = 1 := by
  have k : ∀ x : Str, PyData.strOk x = true → PyData.canLay0 (.str x) = true := fun x h => by rw [PyData.canLay0]; exact h
  cases e with
  | k v =>
    refine ⟨?_, rfl⟩
    rw [PyData.canLay0]
    show (PyData.canLay0 (.str "kept") && (PyData.canLay0 (.int v) && true)) = true
    rw [k "kept" (by decide +kernel)]; rfl
  | n i =>
    refine ⟨?_, rfl⟩
    rw [PyData.canLay0]
    show (PyData.canLay0 (.str "new") && (PyData.canLay0 (.int i) && true)) = true
    rw [k "new" (by decide +kernel)]; rfl
theorem lay_pds : ∀ es : List En, PyData.canLayAll0 (pds es) = true ∧ PyData.depthAll (pds es) ≤ 1
  | [] => ⟨rfl, Nat.zero_le _⟩
  | e :: es => by
    obtain ⟨h1, h2⟩ := lay_pds es
    obtain ⟨h3, h4⟩ := lay_en e
    constructor
    · show (PyData.canLay0 (.tuple e.ds) && PyData.canLayAll0 (pds es)) = true
      rw [h1, h3]; rfl
    · show max (PyData.tuple e.ds).depth (PyData.depthAll (pds es)) ≤ 1
      omega
theorem shp_pat (es : List En) : SeqAt.shaped (.tuple (pds es)) = true := by
  obtain ⟨h1, h2⟩ := lay_pds es
  unfold SeqAt.shaped
  rw [PyData.canLay0, h1, PyData.depth]
  have : PyData.depthAll (pds es) + 1 ≤ 64 := by omega
  simpa using this
end Cm
namespace Cm
open PySem PySem.Spec PyProof.Rows
open L2 hiding Same
theorem ix_ints1 {v : Int} {s : List Int} (h : v ∈ s) : (s.map V.int)[s.idxOf v]? = some (.int v) := by
  rw [List.getElem?_map, List.getElem?_eq_getElem (idx_lt h), idx_at h]; rfl
theorem ix_ints2 {v : Int} {s : List Int} (m : Nat) (z : V) (hm : m < s.idxOf v) (h : (s.map V.int)[m]? = some z) : eqV z (.int v) = false := by
  obtain ⟨hi, rfl⟩ := map_at h
  have := idx_before hi hm
  simpa [eqV] using this
theorem eqV_int (v : Int) : eqV (.int v) (.int v) = true := by simp [eqV]
theorem rf_len (l : List AE) : (rf l).length = l.length := List.length_map ..
theorem rf_at {l : List AE} {i : Nat} {x : V} (h : (rf l)[i]? = some x) : ∃ q, l[i]? = some q ∧ V.ref q.1 = x := by
  unfold rf at h
  rw [List.getElem?_map] at h
  cases e : l[i]? with
  | none => rw [e] at h; cases h
  | some q => rw [e] at h; exact ⟨q, rfl, Option.some.inj h⟩
def clsF (q : AE) : Option Int := match q.2 with
  | .k _ => none
  | .n i => some (i + 1 : Int)
def cls (l : List AE) : List Int := l.filterMap clsF
theorem cls_take {l : List AE} {i : Nat} {q : AE} (h : l[i]? = some q) : cls (l.take (i + 1)) = cls (l.take i) ++ (clsF q).toList := by
  unfold cls
  rw [List.take_add_one, h, List.filterMap_append]
  have e : List.filterMap clsF (some q).toList = (clsF q).toList := by
    show List.filterMap clsF [q] = _
    cases e : clsF q <;> simp [e]
  rw [e]
theorem cls_len (l : List AE) : (cls l).length ≤ l.length := List.length_filterMap_le ..
/-- how many classes there are -/
def CntOk (c : Nat) (es : List En) : Prop := (∀ i, En.n i ∈ es → i < c) ∧ (c = 0 ∨ En.n (c - 1) ∈ es)
theorem CntOk.le {c n : Nat} {es : List En} (h : CntOk c es) (b : ∀ i, En.n i ∈ es → i < n) : c ≤ n := by
  rcases h.2 with e | e
  · omega
  · have := b _ e; omega
theorem cnt_nil {l : List AE} (h : cls l = []) : CntOk 0 (l.map (·.2)) := by
  refine ⟨fun i hi => ?_, .inl rfl⟩
  obtain ⟨q, hq, e⟩ := List.mem_map.mp hi
  have : (i + 1 : Int) ∈ cls l := List.mem_filterMap.mpr ⟨q, hq, by unfold clsF; rw [e]⟩
  rw [h] at this; cases this
theorem cnt_max {l : List AE} {m : Int} (h : m ∈ cls l) (hm : ∀ n ∈ cls l, n ≤ m) : ∃ c : Nat, m = c ∧ CntOk c (l.map (·.2)) := by
  obtain ⟨q, hq, e⟩ := List.mem_filterMap.mp h
  unfold clsF at e
  cases e2 : q.2 with
  | k v => rw [e2] at e; cases e
  | n i =>
    rw [e2] at e
    have e3 : (i + 1 : Int) = m := Option.some.inj e
    refine ⟨i + 1, by omega, fun j hj => ?_, .inr (List.mem_map.mpr ⟨q, hq, e2⟩)⟩
    obtain ⟨r, hr, e4⟩ := List.mem_map.mp hj
    have := hm (j + 1 : Int) (List.mem_filterMap.mpr ⟨r, hr, by unfold clsF; rw [e4]⟩)
    omega
end Cm
namespace Cm
open PySem PySem.Spec PyProof.Rows
open L2 hiding Same
theorem vi {a b : Int} : V.int a = V.int b ↔ a = b := ⟨fun h => by injection h, fun h => by rw [h]⟩
theorem bl_iff {a b c d : Int} : V.bl (decide (V.int a = V.int b)) = V.bl (decide (V.int c = V.int d)) ↔ (a = b ↔ c = d) := by
  constructor
  · intro h
    injection h with h
    have := decide_eq_decide.mp h
    rwa [vi, vi] at this
  · intro h
    congr 1
    exact decide_eq_decide.mpr (by rwa [vi, vi])
end Cm
namespace Cm
open PySem PySem.Spec PyProof.Rows
open L2 hiding Same
theorem fre_congr {t1 t2 : List Int} (h : ∀ v, v ∈ t1 ↔ v ∈ t2) (n : Nat) : fre t1 n = fre t2 n := by
  unfold fre
  congr 1
  funext v
  exact decide_eq_decide.mpr (not_congr (h v))
theorem frs_congr {t1 t2 : List Int} (h : ∀ v, v ∈ t1 ↔ v ∈ t2) (hl : t1.length = t2.length) (c : Nat) : frs c t1 = frs c t2 := by
  unfold frs
  rw [fre_congr h, hl]
theorem frs_dj {c : Nat} {t : List Int} : ∀ v ∈ frs c t, v ∉ t := fun v hv => by
  obtain ⟨i, hi, rfl⟩ := List.getElem_of_mem hv
  have := (frs_at (t := t) (show i < c by rwa [frs_len] at hi)).2.2.1
  rwa [g_at hi] at this
/-- the pattern of what realises a pattern -/
theorem pat_real {kept xs : List Int} {c : Nat} (h : CntOk c (pat kept [] xs)) : pat kept [] ((pat kept [] xs).map (rz (frs c kept))) = pat kept [] xs := by
  have := pat_rz (kept := kept) (o := frs c kept) (frs_nodup c kept) frs_dj xs [] (fun i hi => by rw [frs_len]; exact h.1 i hi) (Nat.zero_le _)
  simpa using this
theorem pat_lt {kept xs : List Int} {n : Nat} (h : xs.length ≤ n) : ∀ i, En.n i ∈ pat kept [] xs → i < n := fun i hi => by
  have := pat_bound kept xs [] i hi
  simp at this; omega
end Cm
namespace Cm
open PySem PySem.Spec PyProof.Rows
open L2 hiding Same
/-! ### each once -/
def addN (s : List Int) (v : Int) : List Int := if v ∈ s then s else s ++ [v]
def fin (kept : List Int) : List Int → List Int → List Int
  | s, [] => s
  | s, v :: vs => if v ∈ kept then fin kept s vs else fin kept (addN s v) vs
theorem fin_filter (kept : List Int) : ∀ (xs s : List Int), (xs.filter fun v => decide (v ∉ kept)).foldl addN s = fin kept s xs
  | [], _ => rfl
  | v :: vs, s => by
    by_cases h : v ∈ kept
    · rw [fin, if_pos h, List.filter_cons_of_neg (by simpa using h), fin_filter kept vs s]
    · rw [fin, if_neg h, List.filter_cons_of_pos (by simpa using h), List.foldl_cons, fin_filter kept vs _]
theorem due_fin {kept sk : List Int} (h : ∀ v, v ∈ sk ↔ v ∈ kept) : ∀ (xs s : List Int), xs.foldl addN (sk ++ s) = sk ++ fin kept s xs
  | [], _ => rfl
  | v :: vs, s => by
    rw [List.foldl_cons, fin]
    by_cases h1 : v ∈ kept
    · rw [if_pos h1, show addN (sk ++ s) v = sk ++ s from if_pos (List.mem_append.mpr (.inl ((h v).mpr h1))), due_fin h vs s]
    · rw [if_neg h1]
      by_cases h2 : v ∈ s
      · rw [show addN (sk ++ s) v = sk ++ s from if_pos (List.mem_append.mpr (.inr h2)), show addN s v = s from if_pos h2, due_fin h vs s]
      · have h3 : v ∉ sk ++ s := fun z => (List.mem_append.mp z).elim (fun z => h1 ((h v).mp z)) h2
        rw [show addN (sk ++ s) v = sk ++ (s ++ [v]) from by unfold addN; rw [if_neg h3, List.append_assoc], show addN s v = s ++ [v] from if_neg h2, due_fin h vs _]
theorem addN_in {s : List Int} {v : Int} (h : v ∈ s) : addN s v = s := if_pos h
theorem addN_out {s : List Int} {v : Int} (h : v ∉ s) : addN s v = s ++ [v] := if_neg h
theorem addN_nodup {s : List Int} {v : Int} (h : s.Nodup) : (addN s v).Nodup := by
  unfold addN
  by_cases c : v ∈ s
  · rw [if_pos c]; exact h
  · rw [if_neg c]; exact nodup_app h c
theorem fin_nodup (kept : List Int) : ∀ (xs s : List Int), s.Nodup → (fin kept s xs).Nodup
  | [], _, h => h
  | v :: vs, s, h => by
    rw [fin]
    by_cases c : v ∈ kept
    · rw [if_pos c]; exact fin_nodup kept vs s h
    · rw [if_neg c]; exact fin_nodup kept vs _ (addN_nodup h)
theorem mem_addN {s : List Int} {v w : Int} : w ∈ addN s v ↔ w ∈ s ∨ w = v := by
  unfold addN
  by_cases c : v ∈ s
  · rw [if_pos c]; exact ⟨.inl, fun h => h.elim id fun e => e ▸ c⟩
  · rw [if_neg c]; simp
theorem mem_fin (kept : List Int) (w : Int) : ∀ (xs s : List Int), w ∈ fin kept s xs ↔ w ∈ s ∨ (w ∈ xs ∧ w ∉ kept)
  | [], s => by rw [fin]; simp
  | v :: vs, s => by
    rw [fin]
    by_cases c : v ∈ kept
    · rw [if_pos c, mem_fin kept w vs s]
      constructor
      · rintro (h | ⟨h1, h2⟩)
        · exact .inl h
        · exact .inr ⟨List.mem_cons_of_mem _ h1, h2⟩
      · rintro (h | ⟨h1, h2⟩)
        · exact .inl h
        · rcases List.mem_cons.mp h1 with e | e
          · exact absurd c (e ▸ h2)
          · exact .inr ⟨e, h2⟩
    · rw [if_neg c, mem_fin kept w vs _, mem_addN]
      constructor
      · rintro ((h | h) | ⟨h1, h2⟩)
        · exact .inl h
        · exact .inr ⟨h ▸ List.mem_cons_self, h ▸ c⟩
        · exact .inr ⟨List.mem_cons_of_mem _ h1, h2⟩
      · rintro (h | ⟨h1, h2⟩)
        · exact .inl (.inl h)
        · rcases List.mem_cons.mp h1 with e | e
          · exact .inl (.inr e)
          · exact .inr ⟨e, h2⟩
theorem fin_pre (kept : List Int) : ∀ (xs s : List Int), ∃ t, fin kept s xs = s ++ t
  | [], s => ⟨[], (List.append_nil s).symm⟩
  | v :: vs, s => by
    rw [fin]
    by_cases c : v ∈ kept
    · rw [if_pos c]; exact fin_pre kept vs s
    · rw [if_neg c]
      obtain ⟨t, e⟩ := fin_pre kept vs (addN s v)
      rw [e]
      unfold addN
      by_cases d : v ∈ s
      · rw [if_pos d]; exact ⟨t, rfl⟩
      · rw [if_neg d, List.append_assoc]; exact ⟨_, rfl⟩
/-! ### a pattern with one more -/
def ent (kept U : List Int) (c : Int) : En := if c ∈ kept then .k c else if c ∈ U then .n (U.idxOf c) else .n U.length
theorem pat_app (kept : List Int) (c : Int) : ∀ (xs s : List Int), pat kept s (xs ++ [c]) = pat kept s xs ++ [ent kept (fin kept s xs) c]
  | [], s => by
    show pat kept s [c] = [ent kept s c]
    unfold ent
    by_cases h : c ∈ kept
    · rw [pat_k h, if_pos h]; rfl
    · by_cases h2 : c ∈ s
      · rw [pat_o h h2, if_neg h, if_pos h2]; rfl
      · rw [pat_n h h2, if_neg h, if_neg h2]; rfl
  | v :: vs, s => by
    rw [List.cons_append, fin]
    by_cases h : v ∈ kept
    · rw [pat_k h, pat_k h, if_pos h, pat_app kept c vs s]; rfl
    · rw [if_neg h]
      by_cases h2 : v ∈ s
      · rw [pat_o h h2, pat_o h h2, show addN s v = s from if_pos h2, pat_app kept c vs s]; rfl
      · rw [pat_n h h2, pat_n h h2, show addN s v = s ++ [v] from if_neg h2, pat_app kept c vs _]; rfl
theorem pat_app_eq {kept xs : List Int} {c n : Int} : pat kept [] (xs ++ [c]) = pat kept [] (xs ++ [n]) ↔ ent kept (fin kept [] xs) c = ent kept (fin kept [] xs) n := by
  rw [pat_app, pat_app]
  exact ⟨fun h => by simpa using h, fun h => by rw [h]⟩
/-- the choices: sk those kept, U the others, f a new one -/
structure Chs (kept sk U : List Int) (f : Int) : Prop where
  mem : ∀ v, v ∈ sk ↔ v ∈ kept
  len : sk.length = kept.length
  nk : sk.Nodup
  nu : U.Nodup
  dj : ∀ v ∈ U, v ∉ kept
  fk : f ∉ kept
  fu : f ∉ U
def chs (sk U : List Int) (f : Int) : List Int := sk ++ U ++ [f]
section
variable {kept sk U : List Int} {f : Int}
theorem Chs.nodup (h : Chs kept sk U f) : (chs sk U f).Nodup := by
  unfold chs
  refine nodup_app ?_ fun z => (List.mem_append.mp z).elim (fun z => h.fk ((h.mem f).mp z)) h.fu
  rw [List.nodup_append]
  exact ⟨h.nk, h.nu, fun a ha b hb e => h.dj b hb ((h.mem b).mp (e ▸ ha))⟩
theorem Chs.cases (h : Chs kept sk U f) {c : Int} (m : c ∈ chs sk U f) : c ∈ kept ∨ (c ∉ kept ∧ c ∈ U) ∨ c = f := by
  unfold chs at m
  rcases List.mem_append.mp m with m | m
  · rcases List.mem_append.mp m with m | m
    · exact .inl ((h.mem c).mp m)
    · exact .inr (.inl ⟨h.dj c m, m⟩)
  · exact .inr (.inr (by simpa using m))
theorem Chs.inj (h : Chs kept sk U f) {c d : Int} (mc : c ∈ chs sk U f) (md : d ∈ chs sk U f) (e : ent kept U c = ent kept U d) : c = d := by
  unfold ent at e
  rcases h.cases mc with c1 | ⟨c1, c2⟩ | c1 <;> rcases h.cases md with d1 | ⟨d1, d2⟩ | d1
  · rw [if_pos c1, if_pos d1] at e; injection e
  · rw [if_pos c1, if_neg d1, if_pos d2] at e; cases e
  · subst d1; rw [if_pos c1, if_neg h.fk, if_neg h.fu] at e; cases e
  · rw [if_neg c1, if_pos c2, if_pos d1] at e; cases e
  · rw [if_neg c1, if_pos c2, if_neg d1, if_pos d2] at e
    injection e with e
    have a := idx_at c2
    have b := idx_at d2
    have b2 : U[U.idxOf c]'(idx_lt c2) = d := by rw [← b]; congr 1
    rw [← a, b2]
  · subst d1; rw [if_neg c1, if_pos c2, if_neg h.fk, if_neg h.fu] at e; injection e with e; have := idx_lt c2; omega
  · subst c1; rw [if_neg h.fk, if_neg h.fu, if_pos d1] at e; cases e
  · subst c1; rw [if_neg h.fk, if_neg h.fu, if_neg d1, if_pos d2] at e; injection e with e; have := idx_lt d2; omega
  · rw [c1, d1]
theorem Chs.has (h : Chs kept sk U f) (n : Int) : ∃ c ∈ chs sk U f, ent kept U c = ent kept U n := by
  by_cases h1 : n ∈ kept
  · exact ⟨n, by unfold chs; simp [(h.mem n).mpr h1], rfl⟩
  · by_cases h2 : n ∈ U
    · exact ⟨n, by unfold chs; simp [h2], rfl⟩
    · refine ⟨f, by unfold chs; simp, ?_⟩
      unfold ent
      rw [if_neg h.fk, if_neg h.fu, if_neg h1, if_neg h2]
theorem filter_one {l : List Int} {c : Int} {p : Int → Bool} (nd : l.Nodup) (hc : c ∈ l) (hp : ∀ d ∈ l, (p d = true ↔ d = c)) : (l.filter p).length = 1 := by
  induction l with
  | nil => cases hc
  | cons x l ih =>
    obtain ⟨h1, h2⟩ := List.nodup_cons.mp nd
    by_cases e : x = c
    · subst e
      have : l.filter p = [] := List.filter_eq_nil_iff.mpr fun d hd z => h1 ((hp d (List.mem_cons_of_mem _ hd)).mp z ▸ hd)
      rw [List.filter_cons_of_pos ((hp x List.mem_cons_self).mpr rfl), this]; rfl
    · rw [List.filter_cons_of_neg fun z => e ((hp x List.mem_cons_self).mp z)]
      exact ih h2 ((List.mem_cons.mp hc).resolve_left fun z => e z.symm) fun d hd => hp d (List.mem_cons_of_mem _ hd)
/-- exactly one choice has the pattern -/
theorem Chs.one {xs : List Int} (h : Chs kept sk (fin kept [] xs) f) (n : Int) : ((chs sk (fin kept [] xs) f).filter fun c => decide (pat kept [] (xs ++ [c]) = pat kept [] (xs ++ [n]))).length = 1 := by
  obtain ⟨c, hc, e⟩ := h.has n
  refine filter_one h.nodup hc fun d hd => ?_
  rw [decide_eq_true_iff, pat_app_eq, ← e]
  exact ⟨h.inj hd hc, fun z => by rw [z]⟩
/-- by places -/
theorem Chs.at (h : Chs kept sk U f) {k : Nat} (hk : k < (chs sk U f).length) : ent kept U (chs sk U f)[k] = if hs : k < sk.length then .k sk[k] else .n (k - sk.length) := by
  unfold chs at hk ⊢
  unfold ent
  by_cases c1 : k < sk.length
  · have e : (sk ++ U ++ [f])[k] = sk[k] := by rw [List.getElem_append_left (by rw [List.length_append]; omega), List.getElem_append_left c1]
    rw [dif_pos c1, e, if_pos ((h.mem _).mp (List.getElem_mem c1))]
  · rw [dif_neg c1]
    by_cases c2 : k - sk.length < U.length
    · have e : (sk ++ U ++ [f])[k] = U[k - sk.length] := by rw [List.getElem_append_left (by rw [List.length_append]; omega), List.getElem_append_right (by omega)]
      rw [e, if_neg (h.dj _ (List.getElem_mem c2)), if_pos (List.getElem_mem c2), idx_nodup h.nu c2]
    · have hl : k = sk.length + U.length := by simp at hk; omega
      have e : (sk ++ U ++ [f])[k] = f := by rw [List.getElem_append_right (by rw [List.length_append]; omega)]; simp
      rw [e, if_neg h.fk, if_neg h.fu]
      congr 1; omega
theorem chs_len (sk U : List Int) (f : Int) : (chs sk U f).length = sk.length + U.length + 1 := by unfold chs; simp; omega
/-- the entry by the place in the list of choices -/
theorem Chs.idx (h : Chs kept sk U f) {c : Int} (m : c ∈ chs sk U f) (hc : c ∉ kept) : ent kept U c = .n ((chs sk U f).idxOf c - kept.length) ∧ kept.length ≤ (chs sk U f).idxOf c := by
  have hk := idx_lt m
  have ha := idx_at m
  have e := h.at hk
  rw [ha] at e
  by_cases c1 : (chs sk U f).idxOf c < sk.length
  · rw [dif_pos c1] at e
    unfold ent at e
    rw [if_neg hc] at e
    by_cases c2 : c ∈ U
    · rw [if_pos c2] at e; cases e
    · rw [if_neg c2] at e; cases e
  · rw [dif_neg c1] at e
    rw [e, h.len]
    exact ⟨rfl, by have := h.len; omega⟩
theorem Chs.rz (h : Chs kept sk U f) {c : Int} (m : c ∈ chs sk U f) : rz (U ++ [f]) (ent kept U c) = c := by
  unfold ent
  rcases h.cases m with c1 | ⟨c1, c2⟩ | c1
  · rw [if_pos c1]; rfl
  · rw [if_neg c1, if_pos c2]
    show g (U ++ [f]) _ = c
    rw [g_app1 (idx_lt c2), g_at (idx_lt c2), idx_at c2]
  · subst c1
    rw [if_neg h.fk, if_neg h.fu]
    exact g_app2
theorem ent_lt {c : Int} {i : Nat} (e : ent kept U c = .n i) : i ≤ U.length := by
  unfold ent at e
  by_cases c1 : c ∈ kept
  · rw [if_pos c1] at e; cases e
  · rw [if_neg c1] at e
    by_cases c2 : c ∈ U
    · rw [if_pos c2] at e; injection e with e; have := idx_lt c2; omega
    · rw [if_neg c2] at e; injection e with e; omega
theorem ent_k {c v : Int} (e : ent kept U c = .k v) : v ∈ kept := by
  unfold ent at e
  by_cases c1 : c ∈ kept
  · rw [if_pos c1] at e; injection e with e; exact e ▸ c1
  · rw [if_neg c1] at e
    by_cases c2 : c ∈ U
    · rw [if_pos c2] at e; cases e
    · rw [if_neg c2] at e; cases e
end
/-! ### how many classes -/
theorem fin_cnt (kept : List Int) : ∀ (xs s : List Int), (∀ i, En.n i ∈ pat kept s xs → i < (fin kept s xs).length) ∧ ((fin kept s xs).length = s.length ∨ En.n ((fin kept s xs).length - 1) ∈ pat kept s xs)
  | [], s => ⟨fun i h => by simp [pat] at h, .inl rfl⟩
  | v :: vs, s => by
    rw [fin]
    by_cases h : v ∈ kept
    · obtain ⟨a, b⟩ := fin_cnt kept vs s
      rw [if_pos h, pat_k h]
      exact ⟨fun i hi => (List.mem_cons.mp hi).elim (fun e => by cases e) (a i), b.imp id (List.mem_cons_of_mem _)⟩
    · rw [if_neg h]
      by_cases h2 : v ∈ s
      · obtain ⟨a, b⟩ := fin_cnt kept vs s
        rw [show addN s v = s from if_pos h2, pat_o h h2]
        refine ⟨fun i hi => (List.mem_cons.mp hi).elim (fun e => ?_) (a i), b.imp id (List.mem_cons_of_mem _)⟩
        injection e with e
        obtain ⟨t, et⟩ := fin_pre kept vs s
        have := idx_lt h2
        rw [et, List.length_append]; omega
      · obtain ⟨a, b⟩ := fin_cnt kept vs (s ++ [v])
        obtain ⟨t, et⟩ := fin_pre kept vs (s ++ [v])
        rw [show addN s v = s ++ [v] from if_neg h2, pat_n h h2]
        refine ⟨fun i hi => (List.mem_cons.mp hi).elim (fun e => ?_) (a i), .inr ?_⟩
        · injection e with e
          rw [et]; simp; omega
        · rcases b with b | b
          · rw [b]
            simp
          · exact List.mem_cons_of_mem _ b
theorem fin_cntOk (kept xs : List Int) : CntOk (fin kept [] xs).length (pat kept [] xs) := by
  obtain ⟨a, b⟩ := fin_cnt kept xs []
  exact ⟨a, b⟩
theorem CntOk.uniq {c d : Nat} {es : List En} (h : CntOk c es) (h2 : CntOk d es) : c = d := by
  have a := h.le h2.1
  have b := h2.le h.1
  omega
/-! ### the values again -/
theorem pat_rep (kept tl : List Int) : ∀ (xs s : List Int), (pat kept s xs).map (rz (fin kept s xs ++ tl)) = xs
  | [], _ => rfl
  | v :: vs, s => by
    rw [fin]
    by_cases h : v ∈ kept
    · rw [if_pos h, pat_k h, List.map_cons, pat_rep kept tl vs s]; rfl
    · rw [if_neg h]
      by_cases h2 : v ∈ s
      · rw [show addN s v = s from if_pos h2, pat_o h h2, List.map_cons, pat_rep kept tl vs s]
        congr 1
        obtain ⟨t, et⟩ := fin_pre kept vs s
        show g _ _ = v
        rw [et, List.append_assoc, g_at (by rw [List.length_append]; have := idx_lt h2; omega), List.getElem_append_left (idx_lt h2), idx_at h2]
      · rw [show addN s v = s ++ [v] from if_neg h2, pat_n h h2, List.map_cons, pat_rep kept tl vs (s ++ [v])]
        congr 1
        obtain ⟨t, et⟩ := fin_pre kept vs (s ++ [v])
        show g _ _ = v
        rw [et, List.append_assoc, List.append_assoc, g_at (by simp), List.getElem_append_right (Nat.le_refl _)]
        simp
/-- two ways to realise one list of entries have one pattern -/
theorem rz_same {kept o1 o2 : List Int} {es : List En} (n1 : o1.Nodup) (n2 : o2.Nodup) (hl : o1.length = o2.length) (d1 : ∀ v ∈ o1, v ∉ kept) (d2 : ∀ v ∈ o2, v ∉ kept) (hb : ∀ i, En.n i ∈ es → i < o1.length) (hk : ∀ v, En.k v ∈ es → v ∈ kept) :
    pat kept [] (es.map (rz o1)) = pat kept [] (es.map (rz o2)) := by
  refine (alike_iff (by simp)).mpr fun k hk2 => ?_
  rw [List.length_map] at hk2
  have at1 : ∀ {o : List Int} {j : Nat} (hj : j < es.length), g (es.map (rz o)) j = rz o es[j] := fun hj => by rw [g_at (by simpa using hj)]; simp
  have key : ∀ {i : Nat} (h : En.n i ∈ es) {o : List Int} (e : o.length = o1.length), rz o (.n i) = o[i]'(by have := hb _ h; omega) := by
    intro i h o e; exact g_at _
  have ni : ∀ {i : Nat} {o : List Int}, En.n i ∈ es → o.length = o1.length → (∀ v ∈ o, v ∉ kept) → rz o (.n i) ∉ kept := by
    intro i o h e d; rw [key h e]; exact d _ (List.getElem_mem _)
  have inj : ∀ {o : List Int}, o.length = o1.length → o.Nodup → (∀ v ∈ o, v ∉ kept) → ∀ {a b : En}, a ∈ es → b ∈ es → (rz o a = rz o b ↔ a = b) := by
    intro o e nd d a b ha hb'
    refine ⟨fun z => ?_, fun z => by rw [z]⟩
    cases a with
    | k v => cases b with
      | k w => exact congrArg En.k z
      | n j => exact absurd (hk v ha) (by rw [show v = rz _ (.n j) from z]; exact ni hb' e d)
    | n i => cases b with
      | k w => exact absurd (hk w hb') (by rw [← show rz _ (.n i) = w from z]; exact ni ha e d)
      | n j =>
        rw [key ha e, key hb' e] at z
        have h1 := hb _ ha
        have h2 := hb _ hb'
        by_cases c : i = j
        · rw [c]
        · rcases Nat.lt_or_gt_of_ne c with l | l
          · exact absurd z (List.pairwise_iff_getElem.mp nd i j (by omega) (by omega) l)
          · exact absurd z.symm (List.pairwise_iff_getElem.mp nd j i (by omega) (by omega) l)
  refine ⟨fun h => ?_, fun j hj => ?_⟩
  · rw [at1 hk2, at1 hk2] at *
    cases e : es[k] with
    | k v => rfl
    | n i =>
      have hm : En.n i ∈ es := e ▸ List.getElem_mem hk2
      rw [e] at h
      exact h.elim (fun z => absurd z (ni hm rfl d1)) fun z => absurd z (ni hm hl.symm d2)
  · have hj2 : j < es.length := Nat.lt_trans hj hk2
    rw [at1 hk2, at1 hj2, at1 hk2, at1 hj2, inj rfl n1 d1 (List.getElem_mem _) (List.getElem_mem _), inj hl.symm n2 d2 (List.getElem_mem _) (List.getElem_mem _)]
theorem rz_congr {o1 o2 : List Int} {es : List En} (h : ∀ i, En.n i ∈ es → g o1 i = g o2 i) : es.map (rz o1) = es.map (rz o2) := by
  refine List.map_congr_left fun e he => ?_
  cases e with
  | k v => rfl
  | n i => exact h i he
theorem frs_pre {c i : Nat} {t : List Int} (h : i < c) : g (frs c t) i = g (frs (c + 1) t) i := by
  rw [g_at (by rw [frs_len]; exact h), g_at (by rw [frs_len]; omega)]
  have a : (frs c t)[i]'(by rw [frs_len]; exact h) = (fre t (c + t.length))[i]'(by have := fre_len t (c + t.length); omega) := by unfold frs; rw [List.getElem_take]
  have b : (frs (c + 1) t)[i]'(by rw [frs_len]; omega) = (fre t (c + 1 + t.length))[i]'(by have := fre_len t (c + 1 + t.length); omega) := by unfold frs; rw [List.getElem_take]
  have e : fre t (c + 1 + t.length) = fre t (c + t.length) ++ (if ((c + t.length : Nat) : Int) ∉ t then [((c + t.length : Nat) : Int)] else []) := by
    rw [show c + 1 + t.length = (c + t.length) + 1 from by omega, fre_succ]
  rw [a, b, List.getElem_of_eq e, List.getElem_append_left]
/-! ### the first free one -/
theorem fre_nil {t : List Int} {n : Nat} : (fre t n).length = 0 ↔ ∀ i < n, (i : Int) ∈ t := by
  rw [List.length_eq_zero_iff]
  unfold fre
  rw [List.filter_eq_nil_iff]
  constructor
  · intro h i hi
    have := h (i : Int) (List.mem_map.mpr ⟨i, List.mem_range.mpr hi, rfl⟩)
    simpa using this
  · intro h v hv
    obtain ⟨i, hi, rfl⟩ := List.mem_map.mp hv
    simpa using h i (List.mem_range.mp hi)
theorem frs_one {t : List Int} {n : Nat} (h1 : (n : Int) ∉ t) (h2 : ∀ i < n, (i : Int) ∈ t) : frs 1 t = [(n : Int)] := by
  have hl : (frs 1 t).length = 1 := frs_len 1 t
  obtain ⟨a, b, c, d⟩ := frs_at (c := 1) (t := t) (i := 0) (by decide)
  have z := fre_nil.mp d
  have e : g (frs 1 t) 0 = (n : Int) := by
    have e0 : g (frs 1 t) 0 = (((g (frs 1 t) 0).toNat : Nat) : Int) := by omega
    rcases Nat.lt_trichotomy (g (frs 1 t) 0).toNat n with h | h | h
    · exact absurd (h2 _ h) (by rw [← e0]; exact c)
    · rw [e0, h]
    · exact absurd (z n h) h1
  rw [g_at (by omega)] at e
  match h : frs 1 t, hl with
  | [x], _ => simp [h] at e; rw [e]
theorem below_len {t : List Int} {n : Nat} (h : ∀ i < n, (i : Int) ∈ t) : n ≤ t.length := by
  have := fre_len t n
  rw [fre_nil.mpr h] at this
  omega
/-! ### a dict of truths -/
def trs (s : List Int) : List (Key × V) := s.map fun v => (Sum.inl v, V.bl true)
theorem put_trs (s : List Int) (v : Int) : putK (trs s) (Sum.inl v) (V.bl true) = trs (addN s v) := by
  unfold putK addN
  by_cases h : v ∈ s
  · have e : ((trs s).any fun kv => decide (kv.1 = (Sum.inl v : Key))) = true := List.any_eq_true.mpr ⟨(Sum.inl v, V.bl true), List.mem_map.mpr ⟨v, h, rfl⟩, by simp⟩
    rw [e, if_pos rfl, if_pos h]
    unfold trs
    rw [List.map_map]
    refine List.map_congr_left fun w _ => ?_
    by_cases c : w = v
    · subst c; simp
    · simp [c]
  · have e : ((trs s).any fun kv => decide (kv.1 = (Sum.inl v : Key))) = false := by
      rw [List.any_eq_false]
      intro kv hk z
      obtain ⟨w, hw, rfl⟩ := List.mem_map.mp hk
      have z2 : w = v := by simpa using z
      exact h (z2 ▸ hw)
    rw [e, if_neg (by simp), if_neg h]
    unfold trs
    rw [List.map_append]; rfl
theorem addN_len (s : List Int) (v : Int) : (addN s v).length ≤ s.length + 1 := by
  unfold addN
  by_cases c : v ∈ s
  · rw [if_pos c]; omega
  · rw [if_neg c, List.length_append]; simp
theorem dc_list {K : PySem.W.Frag} {a : Addr} {xs : List V} {g : TG} {tt : TT} {tk tv : TE} {vs : List Nat} {σ : L2.St} {H1 : Hp} {D : Addr} {Qd : Hp → Prop} (Pv : Nat → Hp → Prop) (h0 : Pv 0 (upd H1 D (.dK []))) (hl : ∀ i H, i ≤ xs.length → Pv i H → SqL K H a xs)
    (hs : ∀ i x H, xs[i]? = some x → Pv i H → g x (wipe σ vs) H fun σ2 H2 => wipe σ2 vs = wipe σ vs ∧ tt σ2 H2 fun b H3 =>
      if b = true then tk σ2 H3 fun y H4 => tv σ2 H4 fun z H5 => ∃ kvs k, y = kV k ∧ H5 D = some (.dK kvs) ∧ kvs.length < sizeLine ∧ Pv (i + 1) (upd H5 D (.dK (putK kvs k z))) else Pv (i + 1) H3) (hd : ∀ H, Pv xs.length H → Qd H) :
    ∃ W : Nat → Nat → Hp → Prop, (∃ m, W 0 m (upd H1 D (.dK []))) ∧ ∀ i m H, W i m H →
      ((Itl K a).stop i H ∧ Qd H) ∨ ((Itl K a).go i H ∧ ∃ Nx : Hp → Prop, (∀ H', Nx H' → ∃ m', m' < m ∧ W (i + 1) m' H') ∧ ∀ x H', (Itl K a).yld i H x H' → g x (wipe σ vs) H' fun σ2 H2 => wipe σ2 vs = wipe σ vs ∧ tt σ2 H2 fun b H3 =>
        if b = true then tk σ2 H3 fun y H4 => tv σ2 H4 fun z H5 => ∃ kvs k, y = kV k ∧ H5 D = some (.dK kvs) ∧ kvs.length < sizeLine ∧ Nx (upd H5 D (.dK (putK kvs k z))) else Nx H3) := by
  refine ⟨fun i m H => m = xs.length - i ∧ i ≤ xs.length ∧ Pv i H, ⟨xs.length, by simp, Nat.zero_le _, h0⟩, ?_⟩
  rintro i m H ⟨rfl, hi, p⟩
  have q := hl i H hi p
  by_cases hlt : i < xs.length
  · refine .inr ⟨⟨xs, xs[i], q, by simp [hlt]⟩, Pv (i + 1), fun H' p' => ⟨xs.length - (i + 1), by omega, rfl, hlt, p'⟩, fun x H' y => ?_⟩
    obtain ⟨e, y⟩ := y
    subst e
    exact hs i x _ (y xs q) p
  · have e : i = xs.length := by omega
    subst e
    exact .inl ⟨⟨xs, q, Nat.le_refl _⟩, hd H p⟩
end Cm
namespace Cm
open PySem PySem.Spec PyProof.Rows
open L2 hiding Same
def srt (ks : List Int) : List Int := ks.mergeSort (fun a b => decide (a ≤ b))
theorem srt_perm (ks : List Int) : (srt ks).Perm ks := List.mergeSort_perm ..
theorem srt_up (ks : List Int) : (srt ks).Pairwise (· ≤ ·) := by
  have := List.pairwise_mergeSort (le := fun a b : Int => decide (a ≤ b)) (fun a b c h1 h2 => by simp at *; omega) (fun a b => by simp; omega) ks
  exact this.imp fun h => by simpa using h
theorem srt_of {ks ns : List Int} (p : ns.Perm ks) (u : ns.Pairwise (· ≤ ·)) : ns = srt ks :=
  (p.trans (srt_perm ks).symm).eq_of_pairwise (fun x y _ _ h1 h2 => Int.le_antisymm h1 h2) u (srt_up ks)
theorem chs_of {ks xs : List Int} {f : Int} (nd : ks.Nodup) (fk : f ∉ ks) (fu : f ∉ fin ks [] xs) : Chs ks (srt ks) (fin ks [] xs) f where
  mem v := (srt_perm ks).mem_iff
  len := (srt_perm ks).length_eq
  nk := (srt_perm ks).nodup_iff.mpr nd
  nu := fin_nodup ks xs [] List.nodup_nil
  dj v h := by
    rcases (mem_fin ks v xs []).mp h with h | h
    · cases h
    · exact h.2
  fk := fk
  fu := fu
theorem trs_keys (s : List Int) : ((trs s).map fun kv => kV kv.1) = s.map V.int := by
  unfold trs
  rw [List.map_map]; rfl
theorem fold_take {xs : List Int} {i : Nat} (h : i < xs.length) (s : List Int) : (xs.take (i + 1)).foldl addN s = addN ((xs.take i).foldl addN s) xs[i] := by
  rw [List.take_add_one, List.getElem?_eq_getElem h, List.foldl_append]; rfl
theorem fold_len (xs s : List Int) : (xs.foldl addN s).length ≤ s.length + xs.length := by
  induction xs generalizing s with
  | nil => simp
  | cons x xs ih =>
    rw [List.foldl_cons]
    have := ih (addN s x)
    have := addN_len s x
    simp; omega
theorem fin_len (kept xs : List Int) : (fin kept [] xs).length ≤ xs.length := by
  rw [← fin_filter]
  have := fold_len (xs.filter fun v => decide (v ∉ kept)) []
  have := List.length_filter_le (fun v => decide (v ∉ kept)) xs
  simp at *; omega
end Cm
namespace Cm
open PySem PySem.Spec PyProof.Rows
open L2 hiding Same
def fr1 (ks xs : List Int) : Int := g (frs 1 (ks ++ fin ks [] xs)) 0
theorem fr1_fresh (ks xs : List Int) : fr1 ks xs ∉ ks ∧ fr1 ks xs ∉ fin ks [] xs := by
  obtain ⟨_, _, h, _⟩ := frs_at (c := 1) (t := ks ++ fin ks [] xs) (i := 0) (by decide)
  exact ⟨fun z => h (List.mem_append.mpr (.inl z)), fun z => h (List.mem_append.mpr (.inr z))⟩
theorem frs1_eq (t : List Int) : frs 1 t = [g (frs 1 t) 0] := by
  have hl : (frs 1 t).length = 1 := frs_len 1 t
  match h : frs 1 t, hl with
  | [x], _ => rfl
abbrev chL (ks xs : List Int) : List Int := chs (srt ks) (fin ks [] xs) (fr1 ks xs)
theorem chs_ok {ks xs : List Int} (nd : ks.Nodup) : Chs ks (srt ks) (fin ks [] xs) (fr1 ks xs) := chs_of nd (fr1_fresh ks xs).1 (fr1_fresh ks xs).2
theorem srt_len (ks : List Int) : (srt ks).length = ks.length := (srt_perm ks).length_eq
end Cm
namespace Cm
open PySem PySem.Spec PyProof.Rows
open L2 hiding Same
theorem ixN_nat {n i : Nat} (h : i < n) : ixN n (i : Int) = some i := by
  unfold ixN
  rw [if_pos (by omega), Int.toNat_natCast, if_pos (Int.ofNat_lt.mpr h)]
end Cm
namespace Cm
open PySem PySem.Spec PyProof.Rows
open L2 hiding Same
theorem lay_ints : ∀ ns : List Int, PyData.canLayAll0 (ns.map PyData.int) = true
  | [] => rfl
  | n :: ns => by
    show (PyData.canLay0 (.int n) && PyData.canLayAll0 (ns.map PyData.int)) = true
    rw [lay_ints ns]; rfl
theorem shp_ints (ns : List Int) : SeqAt.shaped (.list (ns.map PyData.int)) = true := by
  unfold SeqAt.shaped
  rw [PyData.canLay0, lay_ints, PyData.depth, depth_ints]
  rfl
theorem eqv_ints (ns : List Int) : PyData.eqv (.list (ns.map PyData.int)) (.list (ns.map PyData.int)) = true := by
  rw [PyData.eqv]
  induction ns with
  | nil => rfl
  | cons n ns ih =>
    show (PyData.eqv (.int n) (.int n) && PyData.eqvAll (ns.map PyData.int) (ns.map PyData.int)) = true
    rw [ih]
    simp [PyData.eqv]
theorem dp_ints {K : PySem.W.Frag} {H : Hp} {a : Addr} {ns : List Int} (h : H a = some (.lst (ns.map V.int))) : Dp K H (.ref a) (.list (ns.map PyData.int)) := .lst (SqL.of h) (dpAll_ints ns)
theorem cut_drop (xs : List V) (c : Nat) : cutV xs (some (c : Int)) none = xs.drop c := by
  unfold cutV
  rw [HT.sIx_none, HT.sIx_nat]
  by_cases h : c ≤ xs.length
  · rw [Nat.min_eq_left h, List.take_of_length_le (by rw [List.length_drop]; omega)]
  · rw [Nat.min_eq_right (by omega), Nat.sub_self, List.take_zero, List.drop_of_length_le (by omega)]
theorem fin_len_eq {ks xs ys : List Int} (h : pat ks [] ys = pat ks [] xs) : (fin ks [] ys).length = (fin ks [] xs).length := by
  have a := fin_cntOk ks ys
  rw [h] at a
  exact a.uniq (fin_cntOk ks xs)
theorem chL_len (ks xs : List Int) : (chL ks xs).length = ks.length + (fin ks [] xs).length + 1 := by
  rw [chL, chs_len, srt_len]
theorem chL_len_eq {ks xs ys : List Int} (h : pat ks [] ys = pat ks [] xs) : (chL ks ys).length = (chL ks xs).length := by
  rw [chL_len, chL_len, fin_len_eq h]
theorem at_math {ks xs ys : List Int} (nd : ks.Nodup) (h : pat ks [] ys = pat ks [] xs) {k : Nat} (h1 : k < (chL ks ys).length) (h2 : k < (chL ks xs).length) : pat ks [] (ys ++ [(chL ks ys)[k]]) = pat ks [] (xs ++ [(chL ks xs)[k]]) := by
  rw [pat_app, pat_app, h, (chs_ok nd).at h1, (chs_ok nd).at h2]
theorem move_math {ks xs : List Int} (nd : ks.Nodup) {c : Int} (hm : c ∈ chL ks xs) (i : Nat) :
    pat ks [] (((pat ks [] xs).map (rz (frs ((fin ks [] xs).length + 1) ks))).set i (rz (frs ((fin ks [] xs).length + 1) ks) (ent ks (fin ks [] xs) c))) = pat ks [] (xs.set i c) := by
  have hC := chs_ok (xs := xs) nd
  have e1 := pat_rep ks [fr1 ks xs] xs []
  have e2 := hC.rz hm
  have e3 : xs.set i c = ((pat ks [] xs).set i (ent ks (fin ks [] xs) c)).map (rz (fin ks [] xs ++ [fr1 ks xs])) := by
    rw [List.map_set, e1, e2]
  rw [e3, ← List.map_set]
  have hme : ∀ {e : En}, e ∈ (pat ks [] xs).set i (ent ks (fin ks [] xs) c) → e ∈ pat ks [] xs ∨ e = ent ks (fin ks [] xs) c := fun h => List.mem_or_eq_of_mem_set h
  refine rz_same (frs_nodup _ _) (nodup_app hC.nu hC.fu) (by rw [frs_len, List.length_append]; rfl) frs_dj (fun v hv => ?_) (fun j hj => ?_) (fun v hv => ?_)
  · rcases List.mem_append.mp hv with h | h
    · exact hC.dj v h
    · simp at h; subst h; exact hC.fk
  · rw [frs_len]
    rcases hme hj with h | h
    · have := (fin_cntOk ks xs).1 j h; omega
    · have := ent_lt h.symm; omega
  · rcases hme hv with h | h
    · exact pat_kept ks xs [] v h
    · exact ent_k h.symm
theorem one_math {ks xs : List Int} (nd : ks.Nodup) (n : Int) : ((chL ks xs).filter fun c => decide (pat ks [] (xs ++ [c]) = pat ks [] (xs ++ [n]))).length = 1 := (chs_ok nd).one n
theorem set_cut (xs : List Int) {i : Nat} (h : i < xs.length) (c : Int) : xs.take i ++ [c] ++ xs.drop (i + 1) = xs.set i c := by
  rw [List.set_eq_take_append_cons_drop, if_pos h, List.append_assoc]; rfl
end Cm
namespace K88
open PySem PySem.Spec PyProof.Rows Cm Um TL
open L2 hiding Same
/-! ### Unit.read -/
def cellOf (ps : List Pt) : Str × Int := (nameP ps, numP ps)
def unOf (s : Sec) : Un := ⟨nameP s.headP, decide (s.headP.length = 3), s.cells.map fun e => cellOf e.2, s.blocks.map fun b => bkOf b.2.1 b.2.2⟩
def spRead (K : PySem.W.Frag) : Sp := fun vs H Q E => ∃ (t : Str), vs = [.ref (UC K), .str t] ∧ t.length ≤ 99000 ∧
  (∀ i c, parseT unitG t = .inl (i, c) → ∀ H' d, Same H H' → H' d = some (.xd [("cause", .str c), ("row", .int i)]) → E (.ref (BT K)) (some d) H') ∧
  (∀ ls, parseT unitG t = .inr ls → ∃ s, SecR unitH 0 ⟨[], []⟩ ls s ∧ (∀ ps ∈ ls, LineP ps) ∧ ls.length ≤ 100000 ∧ SecOk s ∧ (∀ b ∈ s.blocks, HeadOk b.2.1) ∧
    (∀ i c, unitFault s = some (i, c) → ∀ H' d, Same H H' → H' d = some (.xd [("cause", .str c), ("row", .int (i : Nat))]) → E (.ref (BT K)) (some d) H') ∧
    (unitFault s = none → (∃ i h x r l, s.ahead = (i, .w h :: .w x :: r) :: l ∧ r.length ≤ 1000) ∧ ∀ u H', Same H H' → UnAt K H' u (unOf s) → Q (.ref u) H'))
theorem BkAt.mut {K : PySem.W.Frag} {H : Hp} {b D : Addr} {B : Bk} {xs : List V} {u : HO} (hD : H D = some (.lst xs)) (h : BkAt K H b B) : BkAt K (upd H D u) b B :=
  let ⟨dx, tr, h1, os, h2, h3, h4⟩ := h; ⟨dx, tr, ins_mut hD h1, os, tup_mut hD h2, h3, fun q hq => (h4 q hq).mut hD⟩
abbrev ReG (K : PySem.W.Frag) : Addr := cmG K (UC K) (.type "type") "read"
section
variable {P : Program} {w : World} {K : PySem.W.Frag} {mg : Str → Option Value} {base : Heap} {sa : Addr} {sx : List Int}
theorem cr (T : Tx K mg sa sx) : ClX.CRead K (UC K) (.type "type") := ⟨x_crd T, x_cga T⟩
theorem ofc (T : Tx K mg sa sx) : ClX.CMet K (UC K) (.type "type") "read" (cmP K (UC K) (.type "type") "read") (ReG K) := cmB_ok (x_of T)
theorem wsR (T : Tx K mg sa sx) : fnWS K (ReG K) = some (("read" : Str), ("Unit.read" : Str), defArgs s_Unit_read, FuncBody.stmts (defBody s_Unit_read), defScope s_Unit_read, mainGlobals, ([] : List Str), builtinsNs) :=
  congrArg (fun z : List FnWS => z.tail.tail.headD none) T.w
theorem ok_read (T : Tx K mg sa sx) (W : Wx K w) (hP : PF P) : FnR P w K mg base (CX P w) 10 (ReG K) (spRead K) := by
  obtain ⟨oc, od, kV, doc, pm, an, cdv, ct, osl, lk', hcd⟩ := star_of (wsR T) (x_ofst T)
  obtain ⟨_, f, fd, ps, ds, M, FI, bI, dI⟩ := ok_Unit_init (P := P) (w := w) (base := base) T
  have F := fn_of (CX := CX P w) (P := P) (w := w) (mg := mg) (base := base) (k := 9) (ps := ["cls", "text"]) (sp := spRead K) lk' hcd sc_Unit_read (fun vs H Q E h => by obtain ⟨t, rfl, _⟩ := h; rfl) (fun A outer s H vs Q E hr h => by
    obtain ⟨t, rfl, ht, qe, q⟩ := h
    refine ⟨_, (pss_cons (ps_asg (pe_calX (ok_unit_sections T W hP) hr (by decide) (passes_call (takes_of rfl rfl rfl rfl) (fun _ _ _ _ h => h)) (pa_cons (pv 1) pa_nil)) (pg_tup (by rfl) (pgs_cons (pg_name (i := 2) sc_Unit_read.nd rfl (by first | exact Or.inl rfl | exact Or.inr rfl)) (pgs_cons (pg_name (i := 3) sc_Unit_read.nd rfl (by first | exact Or.inl rfl | exact Or.inr rfl)) pgs_nil))))
    (pss_cons (ps_set (i := 4) sc_Unit_read.nd rfl (by first | exact Or.inl rfl | exact Or.inr rfl) (pe_ix ix_tup (pe_ix ix_list (pv 2) pe_int (fun _ _ => rfl)) pe_int (fun _ _ => rfl)))
    (pss_cons (ps_setDcK (i := 5) (own := [("_", 6), ("parts", 7)]) (g := gTup K 2 (gCons (gName 6) (gCons (gName 7) gNil))) rfl sc_Unit_read.nd rfl rfl (sw_dict rfl rfl rfl (by decide +kernel)) (pi_list (pe_cal (ok_of_kind T) hr (by decide) (pa_cons (pv 2) (pa_cons pe_str pa_nil)))) (blkOk_by (own := [("_", 6), ("parts", 7)]) (N := ["cls", "text", "ahead", "blocks", "head", "cells", "_", "parts", "rows"]) (sc := defScope s_Unit_read) (by decide +kernel)) (fun _ _ _ _ _ => pg_tup (by rfl) (pgs_cons (pg_name (i := 6) sc_Unit_read.nd rfl (Or.inl rfl)) (pgs_cons (pg_name (i := 7) sc_Unit_read.nd rfl (Or.inl rfl)) pgs_nil))) (fun _ _ _ _ _ => pts_nil) (fun _ _ _ _ _ => (pe_ix (show IxR _ (rIxL K) from ix_list) (pv 7) pe_int (fun _ _ => rfl))) (fun _ _ _ _ _ => (pe_ix (show IxR _ (rIxL K) from ix_list) (pv 7) pe_int (fun _ _ => rfl))))
    (pss_one (ps_ret (pe_makeL (i := 0) M FI (hr.mono (by decide)) rfl (Or.inl rfl) bI dI (E := E0) pass0 (pa_cons (pe_ix ix_list (pv 4) pe_int (fun _ _ => rfl)) (pa_cons (pe_cmpR op_eq (pe_callB (id := "len") call_len_seq rfl (n_len T) (by decide +kernel) (pa_cons (pv 4) pa_nil)) pe_int (nomark _)) (pa_cons (pv 5) (pa_cons (pe_lc (own := [("_", 6), ("parts", 7), ("rows", 8)]) (g := gTup K 3 (gCons (gName 6) (gCons (gName 7) (gCons (gName 8) gNil)))) rfl sc_Unit_read.nd (pi_list (pv 3)) (blkOk_by (own := [("_", 6), ("parts", 7), ("rows", 8)]) (N := ["cls", "text", "ahead", "blocks", "head", "cells", "_", "parts", "rows"]) (sc := defScope s_Unit_read) (by decide +kernel)) (fun _ _ _ _ _ => pg_tup (by rfl) (pgs_cons (pg_name (i := 6) sc_Unit_read.nd rfl (Or.inl rfl)) (pgs_cons (pg_name (i := 7) sc_Unit_read.nd rfl (Or.inl rfl)) (pgs_cons (pg_name (i := 8) sc_Unit_read.nd rfl (Or.inl rfl)) pgs_nil)))) (fun _ _ _ _ _ => pts_nil) (fun _ _ _ _ _ => (pe_cal (ok_block_of T) hr (by decide) (pa_cons (pv 7) (pa_cons (pv 8) pa_nil))))) pa_nil)))))))))), ?_⟩
    refine ⟨_, rfl, t, rfl, ht, fun i c e H' d s h => qe i c e _ _ s h, fun ls els => ?_⟩
    obtain ⟨se, hsec, hlp, hll, sok, hho, fe, q⟩ := q ls els
    refine ⟨se, hsec, hlp, hll, sok, hho, fe, fun hn p H1 s1 hp => ?_⟩
    obtain ⟨⟨i0, h0, x0, r0, l0, ea, lr⟩, q⟩ := q hn
    obtain ⟨A, B, hp, hA, hB⟩ := hp
    refine ⟨p, _, rfl, SqT.of hp, rfl, _, _, rfl, _, _, rfl, rfl, ?_⟩
    obtain ⟨m, hAm, em, hm⟩ := id hA
    obtain ⟨e0, m0, rfl⟩ : ∃ e0 m0, m = e0 :: m0 := by
      cases m with
      | nil => rw [ea] at em; cases em
      | cons a b => exact ⟨a, b, rfl⟩
    have ee : e0.ps = .w h0 :: .w x0 :: r0 := by
      rw [ea, List.map_cons] at em
      injection em with z _
      exact congrArg Prod.snd z
    obtain ⟨ht0, hp0⟩ := hm e0 List.mem_cons_self
    obtain ⟨vs, hpa, pr⟩ := hp0.pr
    rw [ee] at pr
    obtain ⟨vh, vx, vr, rfl, h1, h2, pr'⟩ : ∃ vh vx vr, vs = vh :: vx :: vr ∧ vh = V.str h0 ∧ vx = V.str x0 ∧ vr.length = r0.length := by
      cases pr with
      | cons a pr => cases pr with
        | cons b pr => exact ⟨_, _, _, rfl, a, b, pr.length⟩
    refine ⟨_, rfl, A, _, 0, .ref e0.t, rfl, rfl, SqL.of hAm, atI_nat rfl, e0.t, _, 1, .ref e0.pa, rfl, rfl, SqT.of ht0, atI_nat rfl, ?_⟩
    -- cells
    refine ⟨_, rfl, A, se.ahead, "cell", rfl, hA, sok.lines, by have := sok.la; omega, fun C H2 s2 hC => ?_⟩
    obtain ⟨mc, hCm, emc, hmc⟩ := hC
    have emc : mc.map AE.d = se.cells := emc
    have lc : mc.length = se.cells.length := by rw [← emc, List.length_map]
    have lc9 : mc.length ≤ 90000 := by
      have h2 := List.length_filter_le (fun e : Nat × List Pt => decide (Um.headP e.2 = "cell")) se.ahead
      have := sok.la
      have h3 : se.cells.length ≤ se.ahead.length := h2
      omega
    refine ⟨C, rfl, ⟨_, SqL.of hCm⟩, fun D hD => ?_⟩
    have cdx : (mc.map fun e => cellOf e.ps) = se.cells.map fun e => cellOf e.2 := by rw [← emc, List.map_map]; rfl
    have nd : (mc.map fun e => nameP e.ps).Nodup := by
      have := cells_nd hn
      unfold Sec.names at this
      rw [← emc, List.map_map] at this; exact this
    refine dc_list (K := K) (xs := mc.map fun e => V.ref e.t) (fun j H' => Same H2 H' ∧ H' D = some (.dK (skv (((mc.take j).map fun e => cellOf e.ps).map fun p => (p.1, V.int p.2))))) ⟨Same.new hD, upd_same⟩ (fun j H' _ h => SqL.of (h.1 _ _ hCm)) ?_ ?_
    · rintro j x H' hx ⟨sm, hS⟩
      have hj : j < mc.length := by have := (List.getElem?_eq_some_iff.mp hx).1; simpa using this
      obtain rfl : x = V.ref mc[j].t := by rw [List.getElem?_map, List.getElem?_eq_getElem hj] at hx; exact (Option.some.inj hx).symm
      obtain ⟨ht, hp⟩ := hmc _ (List.getElem_mem hj)
      obtain ⟨xn, k, ep⟩ := sok.cells mc[j].d (by rw [← emc]; exact List.mem_map_of_mem (List.getElem_mem hj))
      have ep : mc[j].ps = [.w "cell", .w xn, .n k] := ep
      obtain ⟨vs, hpa, pr⟩ := (hp.same sm).pr
      rw [ep] at pr
      obtain ⟨v0, v1, v2, rfl, _, g1, g2⟩ := pr3 pr
      obtain rfl := (show v1 = V.str xn from g1)
      obtain ⟨rfl, lk2⟩ := g2
      have ec : cellOf mc[j].ps = (xn, k) := by rw [ep]; rfl
      refine ⟨mc[j].t, _, rfl, SqT.of (sm _ _ ht), rfl, _, _, rfl, _, _, rfl, rfl, rfl, ?_⟩
      refine ⟨_, rfl, mc[j].pa, _, 1, .str xn, rfl, rfl, SqL.of hpa, atI_nat rfl, _, rfl, mc[j].pa, _, 2, .int k, rfl, rfl, SqL.of hpa, atI_nat rfl, _, .inr xn, rfl, hS, ?_, sm.mut hD, ?_⟩
      · rw [skv_len, List.length_map, List.length_map, List.length_take]; exact sz2 (by omega)
      · rw [upd_same, skv_fresh, take_snocN hj, List.map_append, List.map_append]
        · rw [List.map_cons, List.map_nil, ec]; rfl
        · rw [List.map_map, List.map_map]
          have en : (mc.map fun e => nameP e.ps)[j]'(by rw [List.length_map]; exact hj) = xn := by rw [List.getElem_map, ep]; rfl
          intro z
          obtain ⟨e, he, z⟩ := List.mem_map.mp z
          have nd2 := nd
          rw [← List.take_append_drop j mc, List.map_append] at nd2
          have z2 := (List.nodup_append.mp nd2).2.2 xn (List.mem_map.mpr ⟨e, he, z⟩) xn (List.mem_map.mpr ⟨mc[j], by rw [List.drop_eq_getElem_cons hj]; exact List.mem_cons_self, by rw [ep]; rfl⟩)
          exact z2 rfl
    · rintro H3 ⟨s3, hD3⟩
      rw [List.length_map, List.take_length, cdx] at hD3
      have s03 := (s1.trans s2).trans s3
      have hpa3 := s3 _ _ (s2 _ _ hpa)
      have hB3 := hB.same (s2.trans s3)
      obtain ⟨mb, hBm, emb, hmb⟩ := hB3
      have lmb : mb.length ≤ 90000 := by
        have h1 := congrArg List.length emb
        rw [List.length_map] at h1
        have := sok.lb
        omega
      refine ⟨rfl, _, rfl, e0.pa, _, 1, .str x0, rfl, rfl, SqL.of hpa3, ?_, ?_⟩
      · rw [h2]; exact atI_nat rfl
      refine ⟨_, rfl, e0.pa, _, rfl, .inl (SqL.of hpa3), rfl, ?_⟩
      refine ⟨_, rfl, _, rfl, B, rfl, ⟨_, SqL.of hBm⟩, fun D2 hD2 => ?_⟩
      refine lc_list (K := K) (xs := mb.map fun e => V.ref e.t) (fun j H' => ∃ bs : List (Addr × Bk), Same H3 H' ∧ H' D2 = some (.lst (bs.map fun q => V.ref q.1)) ∧ bs.map (·.2) = (mb.take j).map (fun e => bkOf e.ps (e.os.map (·.2))) ∧ ∀ q ∈ bs, BkAt K H' q.1 q.2) ⟨[], Same.new hD2, upd_same, rfl, fun q hq => (by cases hq)⟩ (fun j H' _ h => let ⟨_, sm, _⟩ := h; SqL.of (sm _ _ hBm)) ?_ ?_
      · rintro j x H' hx ⟨bs, sm, hS, eb, hb⟩
        have hj : j < mb.length := by have := (List.getElem?_eq_some_iff.mp hx).1; simpa using this
        obtain rfl : x = V.ref mb[j].t := by rw [List.getElem?_map, List.getElem?_eq_getElem hj] at hx; exact (Option.some.inj hx).symm
        obtain ⟨g1, g2, g3, g4⟩ := hmb _ (List.getElem_mem hj)
        have hh : HeadOk mb[j].ps := hho mb[j].d (by rw [← emb]; exact List.mem_map_of_mem (List.getElem_mem hj))
        refine ⟨mb[j].t, _, rfl, SqT.of (sm _ _ g1), rfl, _, _, rfl, _, _, rfl, _, _, rfl, rfl, rfl, ?_⟩
        refine ⟨_, rfl, _, rfl, mb[j].pa, mb[j].ra, mb[j].ps, mb[j].os, rfl, g2.same sm, hh, sm _ _ g3, fun q hq => (g4 q hq).same sm, fun b H4 s4 hb4 => ?_⟩
        have hS4 := s4 _ _ hS
        have lb : bs.length = j := by
          have := congrArg List.length eb
          rw [List.length_map, List.length_map, List.length_take] at this
          omega
        refine ⟨_, hS4, sz2 (by rw [List.length_map]; omega), bs ++ [(b, _)], (sm.trans s4).mut hD2, by rw [upd_same, List.map_append]; rfl, by rw [List.map_append, eb, take_snocN hj, List.map_append]; rfl, fun q hq => ?_⟩
        rcases List.mem_append.mp hq with hq | hq
        · exact ((hb q hq).same s4).mut hS4
        · rw [List.mem_singleton.mp hq]; exact hb4.mut hS4
      · rintro H4 ⟨bs, s4, hD4, eb, hb⟩
        rw [List.length_map, List.take_length] at eb
        refine fun y dx hy hd ne => ?_
        have s5 : Same H4 (upd (upd H4 dx (.own y)) y (.ins (UC K) dx [])) := mk_same hy hd
        refine ⟨y, dx, D, D2, x0, _, _, _, rfl, upd_same, s5 _ _ (s4 _ _ hD3), s5 _ _ hD4, fun cd bt H5 k5 hcd hbt h5 => ?_⟩
        have s05 : Same H4 H5 := same_kp hy hd k5
        refine ⟨rfl, q y H5 ((s03.trans s4).trans s05) ⟨dx, cd, bt, ?_, hcd, bs, hbt, ?_, fun q hq => (hb q hq).same s05⟩⟩
        · rw [h5]
          have e1 : nameP se.headP = x0 := by unfold Sec.headP; rw [ea]; rfl
          have e2 : decide (se.headP.length = 3) = decide (V.int ((vh :: vx :: vr).length : Int) = V.int 3) := by
            unfold Sec.headP; rw [ea]
            have e3 : (vh :: vx :: vr).length = (((i0, Pt.w h0 :: Pt.w x0 :: r0) :: l0).headD (0, [])).2.length := by
              show vr.length + 1 + 1 = r0.length + 1 + 1
              rw [pr']
            rw [e3]
            exact decide_eq_decide.mpr ⟨fun z => by rw [z]; rfl, fun z => by injection z with z; exact_mod_cast z⟩
          show _ = some (HO.ins (UC K) dx [("name", .str (nameP se.headP)), ("is_late", .bl (decide (se.headP.length = 3))), ("cells", .ref cd), ("blocks", .ref bt)])
          rw [e1, e2]
        · rw [eb]
          show _ = se.blocks.map fun b => bkOf b.2.1 b.2.2
          rw [← emb, List.map_map]; rfl)
  refine fun A outer s H us vs Q E hr e0 r h => F.run A outer s H ⟨us, []⟩ us vs Q E hr e0 ?_ r h
  have hl : us.length = 2 := by
    rw [← r.length]
    obtain ⟨t, rfl, _⟩ := h; rfl
  match us, hl with
  | [_, _], _ => exact .of_eq rfl
end
end K88
namespace Cm
open PySem PySem.Spec PyProof.Rows
open L2 hiding Same
/-- any walk, whatever is done of its items -/
theorem lcW {J : It} {n : Nat} {G : Hp → Prop} {Y : Nat → Hp → V → Hp → Prop} (w : Walk J n G Y) {H0 : Hp} {Qd : Hp → Prop} {F : V → Hp → (Hp → Prop) → Prop} (Pv : Nat → Hp → Prop) (h0 : Pv 0 H0) (hG : ∀ i H, i ≤ n → Pv i H → G H)
    (hs : ∀ i x H H', i < n → Pv i H → Y i H x H' → F x H' (Pv (i + 1))) (hd : ∀ H, Pv n H → Qd H) :
    ∃ W : Nat → Nat → Hp → Prop, (∃ m, W 0 m H0) ∧ ∀ i m H, W i m H →
      (J.stop i H ∧ Qd H) ∨ (J.go i H ∧ ∃ Nx : Hp → Prop, (∀ H', Nx H' → ∃ m', m' < m ∧ W (i + 1) m' H') ∧ ∀ x H', J.yld i H x H' → F x H' Nx) := by
  refine ⟨fun i m H => m = n - i ∧ i ≤ n ∧ Pv i H, ⟨n, by simp, Nat.zero_le _, h0⟩, ?_⟩
  rintro i m H ⟨rfl, hi, p⟩
  have q := hG i H hi p
  by_cases hlt : i < n
  · exact .inr ⟨w.goes i H hlt q, Pv (i + 1), fun H' p' => ⟨n - (i + 1), by omega, rfl, hlt, p'⟩, fun x H' y => hs i x H H' hlt p (w.yields i H x H' hlt q y)⟩
  · have e : i = n := by omega
    subst e
    exact .inl ⟨w.stops H q, hd H p⟩
theorem lcGT {K : PySem.W.Frag} {a : Addr} {xs : List V} {H0 : Hp} {Qd : Hp → Prop} {F : V → Hp → (Hp → Prop) → Prop} (Pv : Nat → Hp → Prop) (h0 : Pv 0 H0) (hl : ∀ i H, i ≤ xs.length → Pv i H → SqT K H a xs)
    (hs : ∀ i x H, xs[i]? = some x → Pv i H → F x H (Pv (i + 1))) (hd : ∀ H, Pv xs.length H → Qd H) :
    ∃ W : Nat → Nat → Hp → Prop, (∃ m, W 0 m H0) ∧ ∀ i m H, W i m H →
      ((Itt K a).stop i H ∧ Qd H) ∨ ((Itt K a).go i H ∧ ∃ Nx : Hp → Prop, (∀ H', Nx H' → ∃ m', m' < m ∧ W (i + 1) m' H') ∧ ∀ x H', (Itt K a).yld i H x H' → F x H' Nx) :=
  lcW walk_tup Pv h0 hl (fun i x H H' _ p y => by obtain ⟨e, y⟩ := y; subst e; exact hs i x _ y p) hd
end Cm
namespace Cm
open PySem PySem.Spec PyProof.Rows
open L2 hiding Same
open PySem.W (DatumOrd Datum Tup listLt)
/-! ### < of patterns -/
def ep : En → Str × Int
  | .k v => ("kept", v)
  | .n i => ("new", (i : Int))
def llt (a b : List En) : Bool := listLt (a.map ep) (b.map ep)
theorem ep_ds (e : En) : Datum.toD (ep e) = .tuple e.ds := by cases e <;> rfl
theorem toD_pat (es : List En) : Datum.toD (Tup.mk (es.map ep)) = .tuple (pds es) := by
  show PyData.tuple ((es.map ep).map Datum.toD) = .tuple (pds es)
  unfold pds
  rw [List.map_map]
  refine congrArg PyData.tuple (List.map_congr_left fun e _ => ?_)
  exact ep_ds e
theorem ep_inj {a b : En} (h : ep a = ep b) : a = b := by
  cases a with
  | k v => cases b with
    | k w => exact congrArg En.k (Prod.mk.inj h).2
    | n j => exact absurd (Prod.mk.inj h).1 (by decide +kernel)
  | n i => cases b with
    | k w => exact absurd (Prod.mk.inj h).1 (by decide +kernel)
    | n j => exact congrArg En.n (Int.ofNat.inj (Prod.mk.inj h).2)
def rLtP (K : PySem.W.Frag) : R2 := fun x y H Q => ∃ es fs, Dp K H x (.tuple (pds es)) ∧ Dp K H y (.tuple (pds fs)) ∧ Q (.bl (llt es fs)) H
theorem op_ltP {X : Cx} (hu : X.A.units + 64 < cLine) : OpR X (compareOp .Lt) (rLtP X.K) := by
  intro pins s σ H x y v u Q I rx ry h
  obtain ⟨es, fs, hd, he, q⟩ := h
  obtain ⟨as, r1⟩ := Dp.reads I _ x v hd rx
  obtain ⟨bs, r2⟩ := Dp.reads I _ y u he ry
  have q2 : EP X pins σ Q (.bool (DatumOrd.lt (Tup.mk (es.map ep)) (Tup.mk (fs.map ep)))) s := ⟨.bl (llt es fs), H, I, rfl, q⟩
  exact PySem.W.lt_datum (α := Tup (Str × Int)) ⟨as, by rw [toD_pat]; exact r1⟩ ⟨bs, by rw [toD_pat]; exact r2⟩ (by show X.A.units + 2 < cLine; omega) q2
theorem llt_app : ∀ {a b : List En} {c d : List En}, a.length = b.length → llt a b = true → llt (a ++ c) (b ++ d) = true
  | [], [], _, _, _, h => by cases h
  | x :: a, y :: b, c, d, hl, h => by
    unfold llt at h ⊢
    simp only [List.map_cons, List.map_append, List.cons_append, listLt] at h ⊢
    by_cases e : ep x = ep y
    · rw [if_pos e] at h ⊢
      have := llt_app (a := a) (b := b) (c := c) (d := d) (by simpa using hl) h
      unfold llt at this
      rw [List.map_append, List.map_append] at this
      exact this
    · rw [if_neg e] at h ⊢
      exact h
theorem llt_same : ∀ {a c d : List En}, llt (a ++ c) (a ++ d) = llt c d
  | [], _, _ => rfl
  | x :: a, c, d => by
    have := llt_same (a := a) (c := c) (d := d)
    unfold llt at this ⊢
    rw [List.map_append, List.map_append] at this
    simp only [List.map_cons, List.map_append, List.cons_append, listLt, if_true]
    exact this
theorem llt_one {x y : En} (h : DatumOrd.lt (ep x) (ep y) = true) (ne : x ≠ y) : llt [x] [y] = true := by
  unfold llt
  simp only [List.map_cons, List.map_nil, listLt]
  rw [if_neg fun e => ne (ep_inj e)]
  exact h
/-! ### all patterns of a length -/
def cntE : List En → Nat
  | [] => 0
  | .k _ :: es => cntE es
  | .n i :: es => max (i + 1) (cntE es)
theorem cntE_lt : ∀ {es : List En} {i : Nat}, En.n i ∈ es → i < cntE es
  | .k _ :: es, i, h => by
    rcases List.mem_cons.mp h with e | e
    · cases e
    · exact cntE_lt (es := es) e
  | .n j :: es, i, h => by
    rcases List.mem_cons.mp h with e | e
    · obtain rfl : i = j := by injection e
      show i < max (i + 1) (cntE es); omega
    · have := cntE_lt (es := es) e; show i < max (j + 1) (cntE es); omega
theorem cntE_in : ∀ {es : List En}, cntE es = 0 ∨ En.n (cntE es - 1) ∈ es
  | [] => .inl rfl
  | .k v :: es => (cntE_in (es := es)).elim .inl fun h => .inr (List.mem_cons_of_mem _ h)
  | .n j :: es => by
    right
    show En.n (max (j + 1) (cntE es) - 1) ∈ _
    by_cases c : cntE es ≤ j + 1
    · rw [Nat.max_eq_left c]; exact List.mem_cons_self
    · rw [Nat.max_eq_right (by omega)]
      rcases cntE_in (es := es) with h | h
      · omega
      · exact List.mem_cons_of_mem _ h
theorem cnt_uniq {c : Nat} {es : List En} (h : CntOk c es) : c = cntE es := by
  have a := h.le (n := cntE es) fun i hi => cntE_lt hi
  have b : cntE es ≤ c := (cntE_in (es := es)).elim (fun e => by omega) fun e => by have := h.1 _ e; omega
  omega
theorem cntE_app (es : List En) (e : En) : cntE (es ++ [e]) = match e with | .k _ => cntE es | .n i => max (cntE es) (i + 1) := by
  induction es with
  | nil => cases e <;> simp [cntE]
  | cons x es ih =>
    cases x with
    | k v => show cntE (es ++ [e]) = _; rw [ih]; cases e <;> rfl
    | n j =>
      show max (j + 1) (cntE (es ++ [e])) = _
      rw [ih]
      cases e with
      | k v => rfl
      | n i => show max (j + 1) (max (cntE es) (i + 1)) = max (max (j + 1) (cntE es)) (i + 1); omega
def nxt (ks : List Int) (es : List En) : List En := (srt ks).map En.k ++ (List.range (cntE es + 1)).map En.n
def lev (ks : List Int) : Nat → List (List En)
  | 0 => [[]]
  | m + 1 => (lev ks m).flatMap fun es => (nxt ks es).map fun e => es ++ [e]
theorem mem_lev_succ {ks : List Int} {m : Nat} {es : List En} : es ∈ lev ks (m + 1) ↔ ∃ fs e, fs ∈ lev ks m ∧ e ∈ nxt ks fs ∧ es = fs ++ [e] := by
  show es ∈ (lev ks m).flatMap _ ↔ _
  rw [List.mem_flatMap]
  exact ⟨fun ⟨fs, h1, h2⟩ => by obtain ⟨e, h3, h4⟩ := List.mem_map.mp h2; exact ⟨fs, e, h1, h3, h4.symm⟩, fun ⟨fs, e, h1, h2, h3⟩ => ⟨fs, h1, List.mem_map.mpr ⟨e, h2, h3.symm⟩⟩⟩
theorem lev_length {ks : List Int} : ∀ {m : Nat} {es : List En}, es ∈ lev ks m → es.length = m
  | 0, es, h => by rw [List.mem_singleton.mp h]; rfl
  | m + 1, es, h => by
    obtain ⟨fs, e, h1, _, rfl⟩ := mem_lev_succ.mp h
    rw [List.length_append, lev_length h1]; rfl
theorem lev_take {ks : List Int} : ∀ {m : Nat} {es : List En}, es ∈ lev ks m → ∀ i, i ≤ m → es.take i ∈ lev ks i
  | 0, es, h, i, hi => by
    have : i = 0 := by omega
    subst this
    rw [List.take_zero]; exact List.mem_singleton.mpr rfl
  | m + 1, es, h, i, hi => by
    by_cases e : i = m + 1
    · subst e
      rw [List.take_of_length_le (by rw [lev_length h]; exact Nat.le_refl _)]; exact h
    · obtain ⟨fs, x, h1, _, rfl⟩ := mem_lev_succ.mp h
      rw [List.take_append_of_le_length (by rw [lev_length h1]; omega)]
      exact lev_take h1 i (by omega)
theorem nxt_asc {ks : List Int} (nd : ks.Nodup) (es : List En) : (nxt ks es).Pairwise fun x y => llt [x] [y] = true := by
  unfold nxt
  rw [List.pairwise_append]
  refine ⟨?_, ?_, ?_⟩
  · rw [List.pairwise_map]
    have h1 := srt_up ks
    have h2 : (srt ks).Nodup := (srt_perm ks).nodup_iff.mpr nd
    refine (h1.and h2).imp fun {a b} ⟨h, n⟩ => llt_one ?_ (fun z => n (by injection z))
    show (if ("kept" : Str) = "kept" then DatumOrd.lt a b else DatumOrd.lt ("kept" : Str) "kept") = true
    rw [if_pos rfl]
    exact decide_eq_true (by have := n; omega)
  · rw [List.pairwise_map]
    refine List.pairwise_lt_range.imp fun {a b} h => llt_one ?_ (fun z => by injection z with z; omega)
    show (if ("new" : Str) = "new" then DatumOrd.lt (a : Int) (b : Int) else DatumOrd.lt ("new" : Str) "new") = true
    rw [if_pos rfl]
    exact decide_eq_true (by omega)
  · intro x hx y hy
    obtain ⟨v, _, rfl⟩ := List.mem_map.mp hx
    obtain ⟨i, _, rfl⟩ := List.mem_map.mp hy
    refine llt_one ?_ (fun z => by cases z)
    show (if ("kept" : Str) = "new" then DatumOrd.lt v (i : Int) else DatumOrd.lt ("kept" : Str) "new") = true
    rw [if_neg (by decide +kernel)]
    decide +kernel
theorem lev_asc {ks : List Int} (nd : ks.Nodup) : ∀ m, (lev ks m).Pairwise fun a b => llt a b = true
  | 0 => List.pairwise_singleton _ _
  | m + 1 => by
    show ((lev ks m).flatMap _).Pairwise _
    rw [List.pairwise_flatMap]
    refine ⟨fun es _ => ?_, ?_⟩
    · rw [List.pairwise_map]
      exact (nxt_asc nd es).imp fun h => by rw [llt_same]; exact h
    · refine (List.Pairwise.and_mem.mp (lev_asc nd m)).imp fun {a b} ⟨ha, hb, h⟩ x hx y hy => ?_
      obtain ⟨e, _, rfl⟩ := List.mem_map.mp hx
      obtain ⟨f, _, rfl⟩ := List.mem_map.mp hy
      exact llt_app (by rw [lev_length ha, lev_length hb]) h
/-- how many classes the patterns have: their number hangs on the number of kept alone -/
def levC (k : Nat) : Nat → List Nat
  | 0 => [0]
  | m + 1 => (levC k m).flatMap fun c => List.replicate k c ++ (List.range (c + 1)).map fun i => max c (i + 1)
theorem lev_cnt (ks : List Int) : ∀ m, (lev ks m).map cntE = levC ks.length m
  | 0 => rfl
  | m + 1 => by
    show ((lev ks m).flatMap _).map cntE = (levC ks.length m).flatMap _
    rw [← lev_cnt ks m, List.map_flatMap, List.flatMap_map]
    refine congrArg (fun f => (lev ks m).flatMap f) (funext fun es => ?_)
    rw [List.map_map]
    unfold nxt
    rw [List.map_append, List.map_map, List.map_map]
    congr 1
    · have : (srt ks).map ((cntE ∘ fun e => es ++ [e]) ∘ En.k) = (srt ks).map fun _ => cntE es := List.map_congr_left fun v _ => cntE_app es (.k v)
      rw [this, List.map_const', srt_len]
    · exact List.map_congr_left fun i _ => cntE_app es (.n i)
theorem lev_num (ks : List Int) (m : Nat) : (lev ks m).length = (levC ks.length m).length := by rw [← lev_cnt, List.length_map]
end Cm
namespace Cm
open PySem PySem.Spec PyProof.Rows
open L2 hiding Same
section
variable {prog : Program} {w : World} {A : Around} {R : GenEnd} {Y : Protocol} {n : Nat} {s₀ : Shared} {fs : List Frame} {s : Shared} {env : Env}
abbrev ends (env : Env) : Value → Sem PySem.Fin := fun e => (do noteFrame e env; theTreesLotGoes e : Sem Unit).wrap (fun _ => .raise e) .raise id id
abbrev turnK (c' : Code) : Flow → Sem PySem.Fin := fun f => match f with
  | .next | .cont => .pure (.again c')
  | .brk => .pure (.done .next)
  | .ret v => .pure (.done (.ret v))
theorem seg_forLoop {target : Expr} {it : Value} {body : List Stmt}
    (h : wpAny (model prog w) (A.over (.forLoop target it body [] env) fs) (pyNext it) (fun r s1 => match r with
      | none => Seg (model prog w) A R Y n s₀ (.block [] env) ((model prog w).den (.block [] env)) fs s1
      | some v => wpAny (model prog w) (A.over (.forLoop target it body [] env) fs) (letOwnedTupleGo target it v) (fun _ s2 =>
          wpAny (model prog w) (A.over (.forLoop target it body [] env) fs) (assign target env v) (fun _ s3 =>
            Seg (model prog w) A R Y n s₀ (.forLoop target it body [] env) ((execs body env).wrap (turnK (.forLoop target it body [] env)) (ends env) id id) fs s3)
            (fun x s' => Seg (model prog w) A R Y n s₀ (.forLoop target it body [] env) (ends env x) fs s') s2)
          (fun x s' => Seg (model prog w) A R Y n s₀ (.forLoop target it body [] env) (ends env x) fs s') s1)
      (fun x s' => Seg (model prog w) A R Y n s₀ (.forLoop target it body [] env) (ends env x) fs s') s) :
    Seg (model prog w) A R Y n s₀ (.forLoop target it body [] env) ((model prog w).den (.forLoop target it body [] env)) fs s := by
  show Seg _ A R Y n s₀ _ ((forTurn target it body [] env).onRaise (fun x => do noteFrame x env; theTreesLotGoes x)) fs s
  have hh : (fun e => (do noteFrame e env; theTreesLotGoes e : Sem Unit) >>= fun _ => (Sem.raise e : Sem PySem.Fin)) = ends env := by
    funext e
    exact Sem.bind_eq_wrap' _ _
  unfold forTurn
  rw [Sem.onRaise_eq_wrap]
  refine seg_bind_wrap (wpAny_standAt ?_)
  refine seg_bind_wrap (wpAny_onRaise (wpAny_mono h (fun r s1 h1 => ?_) fun x s' hx => wpAny_standAt ?_))
  · cases r with
    | none => exact seg_again rfl h1
    | some v =>
      refine seg_bind_wrap (wpAny_mono h1 (fun _ s2 h2 => ?_) fun x s' hx => ?_)
      · refine seg_bind_wrap (wpAny_mono h2 (fun _ s3 h3 => ?_) fun x s' hx => ?_)
        · rw [Sem.bind_eq_wrap', Sem.wrap_wrap]
          rw [Sem.wrap_congr (execs body env) _ _ (K' := turnK (.forLoop target it body [] env)) (H' := ends env) (fun f => by cases f <;> rfl) (fun e => by first | exact congrFun hh e | (show (do noteFrame e env; theTreesLotGoes e : Sem Unit).bind (fun _ => .raise e) = _; rw [Sem.bind_eq_wrap]))]
          exact h3
        · exact cast (congrArg (fun t => Seg (model prog w) A R Y n s₀ (.forLoop target it body [] env) t fs s') (congrFun hh x).symm) hx
      · exact cast (congrArg (fun t => Seg (model prog w) A R Y n s₀ (.forLoop target it body [] env) t fs s') (congrFun hh x).symm) hx
  · exact cast (congrArg (fun t => Seg (model prog w) A R Y n s₀ (.forLoop target it body [] env) t fs s') (congrFun hh x).symm) hx
end
/-- for tg in iter: body, in a generator def -/
def tGFor (wi : TI) (g : TG) (tb : TGn) : TGn := fun D ys σ H => wi σ H fun J H1 => ∃ W : Nat → Nat → List V → L2.St → Hp → Prop, (∃ m, W 0 m ys σ H1) ∧ ∀ i m ys σ H, W i m ys σ H →
  (J.stop i H ∧ D.nx ys σ H) ∨ (J.go i H ∧ ∃ N : List V → L2.St → Hp → Prop, (∀ ys' σ' H', N ys' σ' H' → ∃ m', m' < m ∧ W (i + 1) m' ys' σ' H') ∧ ∀ x H', J.yld i H x H' → g x σ H' fun σ2 H2 => tb { D with nx := N, ct := N, bk := D.nx } ys σ2 H2)
theorem gs_for {X : Cx} {tg iter : Expr} {body : List Stmt} {wi : TI} {g : TG} {tb : TGn} {pos : Pos} (hp : PassesOwn (model X.prog X.w) X.A X.env X.xe) (hc : X.calm = true) (hi : PI X tg iter wi) (hg : PG X tg g) (hb : GSs X body tb)
    (hs : ∀ x, foldedSetIterable iter X.env x = pure x := by intro _; rfl) : GS X (.For tg iter body [] pos) (tGFor wi g tb) := by
  refine ⟨fun A S ip R n ys s₀ c fs K J gd lv s σ H D g0 hn k hI ht => ?_⟩
  obtain ⟨acc, cc, r, I⟩ := hI
  rw [exec_For]
  refine seg_bind_wrap (wpAny_standAt ?_)
  refine seg_bind_wrap ?_
  rw [g0.over]
  refine wpAny_mono (hi.run _ s σ H _ I ht) (fun v s1 h1 => ?_) (fun x s' hx => k.exc n s₀ x s' hx)
  refine seg_bind_wrap (wpAny_of_eq (hs v) ?_)
  refine seg_bind_wrap (wpAny_standAt ?_)
  refine seg_bind_wrap (wpAny_holding ?_)
  rw [g0.over]
  refine wpAny_mono h1 (fun itv s2 h2 => ?_) (fun x s' hx => k.exc n s₀ x s' hx)
  obtain ⟨it, fp, tn, Jt, H2, e, I2, T, st2, f2, W, ⟨m0, w0⟩, turn⟩ := h2
  subst e
  have hS : ∀ b ∈ fp, S ≠ b := fun b hb => (f2 b hb).2.2.2.2.2 (S, lstObj acc cc) (List.mem_append_right _ List.mem_cons_self)
  have stat : ∀ {acc' : Array Value} {cc' : Nat} {H' : Hp}, (∀ b ∈ fp, H' b = none) → ∀ b ∈ fp, FpOk X ((S, lstObj acc' cc') :: ip) H' b := fun hn b hb => by
    obtain ⟨_, a1, a2, a3, a4, a5⟩ := f2 b hb
    refine ⟨hn b hb, a1, a2, a3, a4, fun p hp => ?_⟩
    rcases List.mem_append.mp hp with hp | hp
    · exact a5 p (List.mem_append_left _ hp)
    · rcases List.mem_cons.mp hp with hp | hp
      · rw [hp]; exact hS b hb
      · exact a5 p (List.mem_append_right _ (List.mem_cons_of_mem _ hp))
  refine seg_call fun p => ?_
  have gl := fun (kk : Result → Sem PySem.Fin) => gc_loop (k := kk) (c' := .forLoop tg (.ref it) body [] X.env) (l := lv []) (kp := []) (p := p) g0 rfl rfl
  have loop : ∀ (m i n : Nat) (ys : List V) (s₀ s : Shared) (σ : L2.St) (H : Hp), n + ys.length = sizeLine → W i m ys σ H → GI X S ip ys σ H s → tn i s.heap → (∀ b ∈ fp, H b = none) →
      Seg (model X.prog X.w) A R (GY X S) n s₀ (.forLoop tg (.ref it) body [] X.env) ((model X.prog X.w).den (.forLoop tg (.ref it) body [] X.env))
        (.ret (fun r => ((match r with | .ok f => (.pure f : Sem Flow) | .error e => .raise e).onRaise (cameBack X.env)).wrap K J gd lv) none (gd false) (lv []) c p [] :: fs) s := by
    intro m
    induction m using Nat.strongRecOn with
    | ind m ih =>
      intro i n ys s₀ s σ H hn w hI st fr
      have ee : ∀ (n : Nat) (s₀ : Shared) (x : Value) (s' : Shared), X.xe x s' → Seg (model X.prog X.w) A R (GY X S) n s₀ (.forLoop tg (.ref it) body [] X.env) (ends X.env x)
          (.ret (fun r => ((match r with | .ok f => (.pure f : Sem Flow) | .error e => .raise e).onRaise (cameBack X.env)).wrap K J gd lv) none (gd false) (lv []) c p [] :: fs) s' := fun n s₀ x s' hx => by
        refine seg_wrap ?_
        rw [(gl _).over]
        refine wpAny_bind (wpAny_mono (hp x s' hx) (fun _ s'' hcb => wpAny_theTreesLotGoes ?_) fun y s'' hcb => ?_)
        · exact seg_leaf (.error x) (seg_cameBack g0 k hcb)
        · exact seg_leaf (.error y) (seg_cameBack g0 k hcb)
      refine seg_forLoop ?_
      rw [(gl _).over]
      obtain ⟨acc, cc, r, I⟩ := hI
      rcases turn i m ys σ H w with ⟨stop, qn⟩ | ⟨go, N, hN, step⟩
      · refine wpAny_mono (T.done X rfl rfl rfl hc i _ s σ H X.xe I (stat fr) st stop) (fun r4 s4 h4 => ?_) fun x s' hx => ee n s₀ x s' hx
        obtain ⟨rfl, I4⟩ := h4
        exact seg_leaf (.ok .next) (k.ok n ys s₀ s4 .next hn ⟨σ, H, ⟨acc, cc, r, I4⟩, qn⟩)
      · refine wpAny_mono (T.item X rfl rfl rfl hc i _ s σ H X.xe I (stat fr) st go) (fun r4 s4 h4 => ?_) fun x s' hx => ee n s₀ x s' hx
        obtain ⟨u, rfl, h4⟩ := h4
        refine wpAny_mono h4 (fun _ s5 h5 => ?_) fun x s' hx => ee n s₀ x s' hx
        obtain ⟨x, H5, I5, r5, y5, st5, fr5⟩ := h5
        have I5' := I5.pinned (stat fr5) (T.obj _ _ st5)
        refine wpAny_mono (hg.run _ s5 σ H5 x u _ I5' r5 (step x H5 y5)) (fun _ s6 h6 => ?_) fun x s' hx => ee n s₀ x s' hx
        obtain ⟨σ6, H6, I6, q6⟩ := h6
        have g6 := gl (fun r => ((match r with | .ok f => (.pure f : Sem Flow) | .error e => .raise e).onRaise (cameBack X.env)).wrap K J gd lv)
        have g6' : GC X S (ip ++ pinsAt fp s5.heap) A (.forLoop tg (.ref it) body [] X.env) (.ret (fun r => ((match r with | .ok f => (.pure f : Sem Flow) | .error e => .raise e).onRaise (cameBack X.env)).wrap K J gd lv) none (gd false) (lv []) c p [] :: fs) id :=
          { g6 with ip := fun q hq => (List.mem_append.mp hq).elim (g6.ip q) fun hq => (hS q.1 (of_pinsAt hq).1).symm }
        refine hb.run A S (ip ++ pinsAt fp s5.heap) R n ys s₀ _ _ _ _ id id s6 σ6 H6 { D with nx := N, ct := N, bk := D.nx } g6' hn ⟨fun n' ys' s₀' s7 f hn' hs => ?_, fun n' s₀' x s7 hx => ee n' s₀' x s7 hx⟩ ⟨acc, cc, r, I6⟩ q6
        have un : ∀ {ys7 : List V} {σ7 : L2.St} {H7 : Hp}, GI X S (ip ++ pinsAt fp s5.heap) ys7 σ7 H7 s7 → GI X S ip ys7 σ7 H7 s7 := fun {ys7 σ7 H7} ⟨a7, c7, r7, I7⟩ =>
          ⟨a7, c7, r7, Inv.unpinned (pins := (S, lstObj a7 c7) :: ip) (pl := pinsAt fp s5.heap) I7⟩
        have again : ∀ {σ7 : L2.St} {H7 : Hp}, GI X S (ip ++ pinsAt fp s5.heap) ys' σ7 H7 s7 → N ys' σ7 H7 → ∃ m', m' < m ∧ W (i + 1) m' ys' σ7 H7 ∧ tn (i + 1) s7.heap ∧ ∀ b ∈ fp, H7 b = none := fun {σ7 H7} gi n7 => by
          obtain ⟨m', hm, w7⟩ := hN ys' σ7 H7 n7
          obtain ⟨a7, c7, r7, I7⟩ := gi
          refine ⟨m', hm, w7, T.keep _ _ _ st5 fun b hb o e => (I7.pin (b, o) (List.mem_append_right _ (List.mem_cons_of_mem _ (List.mem_append_right _ (mem_pinsAt hb e))))).1, fun b hb => ?_⟩
          obtain ⟨o, e, d⟩ := T.obj _ _ st5 b hb
          exact (I7.pin (b, o) (List.mem_append_right _ (List.mem_cons_of_mem _ (List.mem_append_right _ (mem_pinsAt hb e))))).2.1
        cases f with
        | next =>
          obtain ⟨σ3, H3, I3, n3⟩ := hs
          obtain ⟨m', hm, w3, t3, f3⟩ := again I3 n3
          exact seg_again rfl (ih m' hm (i + 1) n' ys' s₀' s7 σ3 H3 hn' w3 (un I3) t3 f3)
        | cont =>
          obtain ⟨σ3, H3, I3, n3⟩ := hs
          obtain ⟨m', hm, w3, t3, f3⟩ := again I3 n3
          exact seg_again rfl (ih m' hm (i + 1) n' ys' s₀' s7 σ3 H3 hn' w3 (un I3) t3 f3)
        | brk =>
          obtain ⟨σ3, H3, I3, n3⟩ := hs
          exact seg_leaf (.ok .next) (k.ok n' ys' s₀' s7 .next hn' ⟨σ3, H3, un I3, n3⟩)
        | ret v =>
          obtain ⟨v3, σ3, H3, I3, rv, q3⟩ := hs
          exact seg_leaf (.ok (.ret v)) (k.ok n' ys' s₀' s7 (.ret v) hn' ⟨v3, σ3, H3, un I3, rv, q3⟩)
  exact loop m0 0 n ys s₀ s2 σ H2 hn w0 ⟨acc, cc, r, I2⟩ st2 (fun b hb => (f2 b hb).1)
end Cm
namespace Cm
open PySem PySem.Spec PyProof.Rows
open L2 hiding Same
/-- a walk over a list, whatever is done of its items -/
theorem lcG {K : PySem.W.Frag} {a : Addr} {xs : List V} {H0 : Hp} {Qd : Hp → Prop} {F : V → Hp → (Hp → Prop) → Prop} (Pv : Nat → Hp → Prop) (h0 : Pv 0 H0) (hl : ∀ i H, i ≤ xs.length → Pv i H → SqL K H a xs)
    (hs : ∀ i x H, xs[i]? = some x → Pv i H → F x H (Pv (i + 1))) (hd : ∀ H, Pv xs.length H → Qd H) :
    ∃ W : Nat → Nat → Hp → Prop, (∃ m, W 0 m H0) ∧ ∀ i m H, W i m H →
      ((Itl K a).stop i H ∧ Qd H) ∨ ((Itl K a).go i H ∧ ∃ Nx : Hp → Prop, (∀ H', Nx H' → ∃ m', m' < m ∧ W (i + 1) m' H') ∧ ∀ x H', (Itl K a).yld i H x H' → F x H' Nx) := by
  refine ⟨fun i m H => m = xs.length - i ∧ i ≤ xs.length ∧ Pv i H, ⟨xs.length, by simp, Nat.zero_le _, h0⟩, ?_⟩
  rintro i m H ⟨rfl, hi, p⟩
  have q := hl i H hi p
  by_cases hlt : i < xs.length
  · refine .inr ⟨⟨xs, xs[i], q, by simp [hlt]⟩, Pv (i + 1), fun H' p' => ⟨xs.length - (i + 1), by omega, rfl, hlt, p'⟩, fun x H' y => ?_⟩
    obtain ⟨e, y⟩ := y
    subst e
    exact hs i x _ (y xs q) p
  · have e : i = xs.length := by omega
    subst e
    exact .inl ⟨⟨xs, q, Nat.le_refl _⟩, hd H p⟩
theorem gforL {K : PySem.W.Frag} {a : Addr} {xs ys0 : List V} {σ0 : L2.St} {H0 : Hp} {Qd : List V → L2.St → Hp → Prop} {F : V → List V → L2.St → Hp → (List V → L2.St → Hp → Prop) → Prop} (Pv : Nat → List V → L2.St → Hp → Prop) (h0 : Pv 0 ys0 σ0 H0) (hl : ∀ i ys σ H, i ≤ xs.length → Pv i ys σ H → SqL K H a xs)
    (hs : ∀ i x ys σ H, xs[i]? = some x → Pv i ys σ H → F x ys σ H (Pv (i + 1))) (hd : ∀ ys σ H, Pv xs.length ys σ H → Qd ys σ H) :
    ∃ W : Nat → Nat → List V → L2.St → Hp → Prop, (∃ m, W 0 m ys0 σ0 H0) ∧ ∀ i m ys σ H, W i m ys σ H →
      ((Itl K a).stop i H ∧ Qd ys σ H) ∨ ((Itl K a).go i H ∧ ∃ Nx : List V → L2.St → Hp → Prop, (∀ ys' σ' H', Nx ys' σ' H' → ∃ m', m' < m ∧ W (i + 1) m' ys' σ' H') ∧ ∀ x H', (Itl K a).yld i H x H' → F x ys σ H' Nx) := by
  refine ⟨fun i m ys σ H => m = xs.length - i ∧ i ≤ xs.length ∧ Pv i ys σ H, ⟨xs.length, by simp, Nat.zero_le _, h0⟩, ?_⟩
  rintro i m ys σ H ⟨rfl, hi, p⟩
  have q := hl i ys σ H hi p
  by_cases hlt : i < xs.length
  · refine .inr ⟨⟨xs, xs[i], q, by simp [hlt]⟩, Pv (i + 1), fun ys' σ' H' p' => ⟨xs.length - (i + 1), by omega, rfl, hlt, p'⟩, fun x H' y => ?_⟩
    obtain ⟨e, y⟩ := y
    subst e
    exact hs i x ys σ _ (y xs q) p
  · have e : i = xs.length := by omega
    subst e
    exact .inl ⟨⟨xs, q, Nat.le_refl _⟩, hd ys σ H p⟩
theorem levC_small : ∀ k ≤ 3, ∀ m ≤ 4, (levC k m).length ≤ 1000 := by decide +kernel
theorem lev_small {ks : List Int} {m : Nat} (h : ks.length ≤ 3) (hm : m ≤ 4) : (lev ks m).length ≤ 1000 := by rw [lev_num]; exact levC_small _ h _ hm
def ext (ks : List Int) (es : List En) : List (List En) := (nxt ks es).map fun e => es ++ [e]
theorem lev_pre {ks : List Int} {m i j : Nat} (hi : i < (lev ks m).length) : (((lev ks m).take i).flatMap (ext ks) ++ (ext ks (lev ks m)[i]).take j).length ≤ (lev ks (m + 1)).length := by
  have e : lev ks (m + 1) = ((lev ks m).take i).flatMap (ext ks) ++ (ext ks (lev ks m)[i] ++ ((lev ks m).drop (i + 1)).flatMap (ext ks)) := by
    show (lev ks m).flatMap (ext ks) = _
    conv => lhs; rw [← List.take_append_drop i (lev ks m), List.drop_eq_getElem_cons hi]
    rw [List.flatMap_append, List.flatMap_cons]
  rw [e]
  simp only [List.length_append, List.length_take]
  omega
end Cm
namespace K88
open PySem PySem.Spec PyProof.Rows Cm Um TL
open L2 hiding Same
/-! ### units' texts -/
def headTx (k : Str) : Str := if k = "shared" then "routine" else k
def Bk.head (B : Bk) : Str := if B.kind = "start" then "start" else headTx B.kind ++ " " ++ B.name
structure BkOk (B : Bk) : Prop where
  kind : B.kind ∈ kindW
  name : B.name.length ≤ 1000
  rows : B.rows.length ≤ 800
  txt : ∀ r ∈ B.rows, r.tx.length ≤ 2000
theorem headTx_len {k : Str} (h : k ∈ kindW) : (headTx k).length ≤ 20 := by
  simp only [kindW, List.mem_cons, List.not_mem_nil, or_false] at h
  rcases h with rfl | rfl | rfl <;> decide +kernel
def spHead (K : PySem.W.Frag) : Sp := fun vs H Q _ => ∃ (b : Addr) (B : Bk), vs = [.ref b] ∧ BkAt K H b B ∧ BkOk B ∧ Q (.str B.head) H
theorem wx2 {K : PySem.W.Frag} {w : World} (W : Wx K w) : ∃ es n, KDict K w (He.ga K "HEADS") es n := He.dicW_ok (ks := headK) (by injection W with _ W; injection W)
theorem sum_le {l : List Nat} {c : Nat} (h : ∀ n ∈ l, n ≤ c) : l.sum ≤ l.length * c := by
  induction l with
  | nil => simp
  | cons a l ih =>
    have h1 := h a List.mem_cons_self
    have h2 := ih fun n hn => h n (List.mem_cons_of_mem _ hn)
    rw [List.sum_cons, List.length_cons, Nat.add_mul]; omega
def Bk.lines (B : Bk) : List Str := B.head :: B.rows.map Rw.tx
def spLines (K : PySem.W.Frag) : Sp := fun vs H Q _ => ∃ (a : Addr) (bs : List (Addr × Bk)), vs = [.ref a] ∧ H a = some (.tup (bs.map fun q => V.ref q.1)) ∧ (bs.length ≤ 100 ∧ ∀ q ∈ bs, BkAt K H q.1 q.2 ∧ BkOk q.2) ∧
  ∀ p H', Same H H' → H' p = some (.lst (((bs.map (·.2)).flatMap Bk.lines).map V.str)) → Q (.ref p) H'
section
variable {P : Program} {w : World} {K : PySem.W.Frag} {mg : Str → Option Value} {base : Heap} {sa : Addr} {sx : List Int}
theorem head_at (T : Tx K mg sa sx) {s : Str} (h : s ∈ kindW) : ∃ t, PySem.W.nsIn K (He.ga K "HEADS") s = some (some (.str (headTx s) t)) := by
  obtain ⟨r, h1, h2⟩ := ctab_at (x_heads T) h
  have : headOf s = some (headTx s) := by
    simp only [kindW, List.mem_cons, List.not_mem_nil, or_false] at h
    rcases h with rfl | rfl | rfl <;> decide +kernel
  rw [this] at h2
  obtain ⟨t, rfl⟩ := h2
  exact ⟨t, h1⟩
theorem ok_Block_head (T : Tx K mg sa sx) (W : Wx K w) : MCal P w K mg base 1 (BC K) "head" (spHead K) := by
  obtain ⟨fd, F⟩ := f_Block_head T
  refine ⟨c_Block T, _, fd, ["self"], fnok F sc_Block_head (fun vs H Q E h => ?_) (fun cdv A outer s H vs Q E hr h => ?_), F.bindsN fun _ _ _ _ _ _ us hl => match us, hl with | [_], _ => rfl, me_Block_head T⟩
  · obtain ⟨b, B, rfl, _⟩ := h; rfl
  · obtain ⟨b, B, rfl, hb, ok, q⟩ := h
    refine ⟨_, (pss_one (ps_ret (pe_ifExp (pt_cmpR op_eq (pe_fld (pv 0) rfl) pe_str (nomark _)) (pe_ix ix_kdict (pe_glob (v := .ref _) rfl (g_HEADS T) rfl) (pe_fld (pv 0) rfl) (fun _ _ => rfl)) (pe_joined (PJ.cons (pe_fmt (pe_ix ix_kdict (pe_glob (v := .ref _) rfl (g_HEADS T) rfl) (pe_fld (pv 0) rfl) (fun _ _ => rfl))) (PJ.cons pe_str (PJ.cons (pe_fmt (pe_fld (pv 0) rfl)) PJ.nil))))))), ?_⟩
    obtain ⟨dx, tr, hb, _⟩ := hb
    obtain ⟨es, n, kd⟩ := wx2 W
    obtain ⟨t, ht⟩ := head_at T ok.kind
    refine ⟨_, rfl, b, _, dx, _, _, rfl, hb, c_Block T, na_Block_kind T, rfl, rfl, ?_⟩
    refine ⟨_, rfl, ?_⟩
    have hx : ∀ (R : V → Hp → Prop), R (.str (headTx B.kind)) H → tOp (rIxD K w) (tC (V.ref (He.ga K "HEADS"))) (tFld K (tVar 0) "kind") (L2.start ["self"] [V.ref b]) H R := fun R r =>
      ⟨_, rfl, b, _, dx, _, _, rfl, hb, c_Block T, na_Block_kind T, rfl, _, B.kind, .str (headTx B.kind), rfl, rfl, ⟨es, n, _, kd.at_, kd.lit, ht, ⟨t, rfl⟩⟩, r⟩
    refine dC (fun c => ?_) (fun c => ?_)
    · have e : B.kind = "start" := by injection c
      refine hx _ ?_
      have : B.head = headTx B.kind := by unfold Bk.head; rw [if_pos e, e]; decide +kernel
      rw [← this]; exact q
    · have l1 := headTx_len ok.kind
      have l2 := ok.name
      have ls : ((" " : Str)).length = 1 := by decide +kernel
      refine hx _ (.inl ⟨_, rfl, sz1 (by omega), _, rfl, sz1 (by rw [app_len, show Str.empty.length = 0 from rfl]; omega), ?_⟩)
      refine ⟨_, rfl, sz1 (by simp only [app_len, show Str.empty.length = 0 from rfl]; omega), ?_⟩
      refine ⟨_, rfl, b, _, dx, _, _, rfl, hb, c_Block T, na_Block_name T, rfl, .inl ⟨_, rfl, sz1 (by omega), _, rfl, sz1 (by simp only [app_len, show Str.empty.length = 0 from rfl]; omega), ?_⟩⟩
      show Q (.str (Str.empty ++ headTx B.kind ++ " " ++ B.name)) H
      rw [emp_app]
      have : B.head = headTx B.kind ++ " " ++ B.name := by unfold Bk.head; rw [if_neg (fun z => c (by rw [z]))]
      rw [← this]; exact q
theorem mg_text (T : Tx K mg sa sx) {H : Hp} {o : Addr} {r : Rw} {Q : VK} (m : MA K H o r) (k : Q (.str r.tx) H) :
    ∃ a C dx fs sp, V.ref o = .ref a ∧ H a = some (.ins C dx fs) ∧ fs.lookup ("text" : Str) = none ∧ MCal P w K mg base 2 C "text" sp ∧ sp [.ref a] H Q E0 := by
  cases r with
  | tell v => obtain ⟨t, dx, hv, ho⟩ := m; exact ⟨o, _, _, _, _, rfl, ho, fl2 (by decide +kernel) rfl, ok_Tell_text T, o, _, ⟨v, rfl⟩, rfl, ⟨t, dx, hv, ho⟩, k⟩
  | set p v => obtain ⟨t, u, dx, hp, hv, ho⟩ := m; exact ⟨o, _, _, _, _, rfl, ho, fl2 (by decide +kernel) (fl2 (by decide +kernel) rfl), ok_Put_text T, o, _, ⟨p, v, rfl⟩, rfl, ⟨t, u, dx, hp, hv, ho⟩, k⟩
  | same x y n => obtain ⟨t, u, dx, hp, hv, hn, ho⟩ := m; exact ⟨o, _, _, _, _, rfl, ho, fl2 (by decide +kernel) (fl2 (by decide +kernel) (fl2 (by decide +kernel) rfl)), ok_Same_text T, o, _, ⟨x, y, n, rfl⟩, rfl, ⟨t, u, dx, hp, hv, hn, ho⟩, k⟩
  | there x n => obtain ⟨dx, hx, hn, ho⟩ := m; exact ⟨o, _, _, _, _, rfl, ho, fl2 (by decide +kernel) (fl2 (by decide +kernel) rfl), (ok_There_text T).mono (by decide), o, _, ⟨x, n, rfl⟩, rfl, ⟨dx, hx, hn, ho⟩, k⟩
  | call x v n => obtain ⟨u, dx, hx, hv, hn, ho⟩ := m; exact ⟨o, _, _, _, _, rfl, ho, fl2 (by decide +kernel) (fl2 (by decide +kernel) (fl2 (by decide +kernel) rfl)), ok_Call_text T, o, _, ⟨x, v, n, rfl⟩, rfl, ⟨u, dx, hx, hv, hn, ho⟩, k⟩
  | fin => obtain ⟨dx, ho⟩ := m; exact ⟨o, _, _, _, _, rfl, ho, rfl, (ok_End_text T).mono (by decide), o, _, rfl, rfl, ⟨dx, ho⟩, k⟩
theorem ok_block_lines (T : Tx K mg sa sx) (W : Wx K w) : Cal P w K mg base 3 "block_lines" (spLines K) := by
  obtain ⟨fd, F⟩ := f_block_lines T
  refine ⟨_, fd, ["blocks"], fnok F sc_block_lines (fun vs H Q E h => ?_) (fun cdv A outer s H vs Q E hr h => ?_), F.bindsN fun _ _ _ _ _ _ us hl => match us, hl with | [_], _ => rfl, g_block_lines T, F.kp⟩
  · obtain ⟨b, B, rfl, _⟩ := h; rfl
  · obtain ⟨a, bs, rfl, ha, hb, q⟩ := h
    refine ⟨_, (pss_one (ps_ret (pe_lc2 (own := [("block", 1), ("line", 2)]) (vs1 := [2]) (g := gName 1) (g1 := gName 2) rfl sc_block_lines.nd (pi_tup (pv 0)) (blkOk_by (own := [("block", 1), ("line", 2)]) (N := ["blocks", "block", "line", "row"]) (sc := defScope s_block_lines) (by decide +kernel)) (by decide) (fun _ _ _ _ _ => pg_name (i := 1) sc_block_lines.nd rfl (Or.inl rfl)) (fun _ _ _ _ _ => pts_nil) (fun _ _ _ _ _ => (show PI _ _ _ (iList K _) from pi_list (pe_op op_cat (pe_lst (pa_cons (pe_mcal0 (ok_Block_head T W) hr (by decide) (pv 1)) pa_nil)) (pe_lc (own := [("row", 3)]) (g := gName 3) rfl sc_block_lines.nd (show PI _ _ _ (iTup K _) from pi_tup (show PE _ _ (tFld K _ _) from pe_fld (pv 1) rfl)) (blkOk_by (own := [("row", 3)]) (N := ["blocks", "block", "line", "row"]) (by kernel_rfl)) (fun _ _ _ _ _ => pg_name (i := 3) sc_block_lines.nd rfl (by first | exact Or.inl rfl | exact Or.inr rfl)) (fun _ _ _ _ _ => pts_nil) (fun _ _ _ _ _ => (show PE _ _ (tMG P w K mg base 2 "text" _) from pe_mG (k := 2) hr (by decide) (pv 3))))))) (fun _ _ _ _ _ => pg_name (i := 2) sc_block_lines.nd rfl (Or.inl rfl)) (fun _ _ _ _ _ => pts_nil) (fun _ _ _ _ _ => (pv 2))))), ?_⟩
    obtain ⟨hn, hb⟩ := hb
    refine ⟨_, rfl, a, rfl, ⟨_, SqT.of ha⟩, fun D hD => ?_⟩
    have lw : ∀ j, (((bs.take j).map (·.2)).flatMap Bk.lines).length ≤ j * 801 := fun j => by
      rw [List.length_flatMap]
      have h1 : ∀ n ∈ (((bs.take j).map (·.2)).map fun B => B.lines.length), n ≤ 801 := fun n h => by
        obtain ⟨B, hB, rfl⟩ := List.mem_map.mp h
        obtain ⟨q, hq, rfl⟩ := List.mem_map.mp hB
        have := (hb q (List.mem_of_mem_take hq)).2.rows
        unfold Bk.lines; rw [List.length_cons, List.length_map]; omega
      have h2 := sum_le h1
      have h3 : (((bs.take j).map (·.2)).map fun B => B.lines.length).length ≤ j := by rw [List.length_map, List.length_map, List.length_take]; omega
      exact Nat.le_trans h2 (Nat.mul_le_mul_right _ h3)
    refine lcGT (K := K) (a := a) (xs := bs.map fun q => V.ref q.1) (fun j H' => Same H H' ∧ H' D = some (.lst ((((bs.take j).map (·.2)).flatMap Bk.lines).map V.str))) ⟨Same.new hD, upd_same⟩ (fun j H' _ h => SqT.of (h.1 _ _ ha)) ?_ ?_
    · rintro j x H' hx ⟨sm, hS⟩
      have hj : j < bs.length := by have := (List.getElem?_eq_some_iff.mp hx).1; simpa using this
      obtain rfl : x = V.ref bs[j].1 := by rw [List.getElem?_map, List.getElem?_eq_getElem hj] at hx; exact (Option.some.inj hx).symm
      obtain ⟨hbj, ok⟩ := hb _ (List.getElem_mem hj)
      have hbj := hbj.same sm
      obtain ⟨dx, tr, hbo, os, htr, eos, hos⟩ := id hbj
      refine ⟨rfl, ?_⟩
      refine ⟨_, rfl, bs[j].1, dx, _, rfl, hbo, rfl, bs[j].1, bs[j].2, rfl, hbj, ok, ?_⟩
      refine ⟨sz1 (by simp), fun h hh => ?_⟩
      have sh : Same H' (upd H' h (.lst [.str bs[j].2.head])) := Same.new hh
      have hhv : (upd H' h (.lst [.str bs[j].2.head])) h = some (.lst [.str bs[j].2.head]) := upd_same
      generalize upd H' h (.lst [.str bs[j].2.head]) = Hh at sh hhv ⊢
      refine ⟨_, rfl, bs[j].1, _, dx, _, _, rfl, sh _ _ hbo, c_Block T, na_Block_rows T, rfl, tr, rfl, ⟨_, SqT.of (sh _ _ htr)⟩, fun D2 hD2 => ?_⟩
      have los : os.length ≤ 800 := by
        have := congrArg List.length eos
        rw [List.length_map] at this
        have := ok.rows
        omega
      refine lc_tup (K := K) (xs := os.map fun q => V.ref q.1) (fun i H2 => Same Hh H2 ∧ H2 D2 = some (.lst (((os.take i).map fun q => q.2.tx).map V.str))) ⟨Same.new hD2, upd_same⟩ (fun i H2 _ h => SqT.of (h.1 _ _ (sh _ _ htr))) ?_ ?_
      · rintro i x H2 hx ⟨s2, hS2⟩
        have hi : i < os.length := by have := (List.getElem?_eq_some_iff.mp hx).1; simpa using this
        obtain rfl : x = V.ref os[i].1 := by rw [List.getElem?_map, List.getElem?_eq_getElem hi] at hx; exact (Option.some.inj hx).symm
        have hm := (hos _ (List.getElem_mem hi)).same (sh.trans s2)
        refine ⟨rfl, _, rfl, mg_text T hm ⟨_, hS2, sz2 (by simp only [List.length_map, List.length_take]; omega), s2.mut hD2, ?_⟩⟩
        rw [upd_same, take_snocN hi, List.map_append, List.map_append]; rfl
      · rintro H2 ⟨s2, hS2⟩
        rw [List.length_map, List.take_length] at hS2
        have s02 := (sm.trans sh).trans s2
        have hSc := s2 _ _ (sh _ _ hS)
        refine ⟨h, D2, _, _, rfl, rfl, s2 _ _ hhv, hS2, by simp only [List.length_map, List.length_cons, List.length_nil]; exact sz1 (by omega), fun c hc => ?_⟩
        have el : ([V.str bs[j].2.head] ++ ((os.map fun q => q.2.tx).map V.str)) = bs[j].2.lines.map V.str := by
          unfold Bk.lines; rw [← eos, List.map_map, List.map_cons, List.map_map, List.map_map]; rfl
        rw [el]
        have nc : c ≠ D := (ne_of_none hSc hc).symm
        have hSc2 := (Same.new hc (o := .lst (bs[j].2.lines.map V.str))) _ _ hSc
        have s03 := s02.trans (Same.new hc (o := .lst (bs[j].2.lines.map V.str)))
        have hcv : (upd H2 c (.lst (bs[j].2.lines.map V.str))) c = some (.lst (bs[j].2.lines.map V.str)) := upd_same
        generalize upd H2 c (.lst (bs[j].2.lines.map V.str)) = Hc at hSc2 s03 hcv ⊢
        refine ⟨c, rfl, ⟨_, SqL.of hcv⟩, ?_⟩
        refine lcG (K := K) (a := c) (xs := bs[j].2.lines.map V.str) (fun i H3 => Kp D Hc H3 ∧ H3 D = some (.lst (((((bs.take j).map (·.2)).flatMap Bk.lines) ++ bs[j].2.lines.take i).map V.str))) ⟨Kp.refl, by simpa using hSc2⟩ (fun i H3 _ h => SqL.of (h.1 _ _ nc hcv)) ?_ ?_
        · rintro i x H3 hx ⟨k3, hS3⟩
          have hi : i < bs[j].2.lines.length := by have := (List.getElem?_eq_some_iff.mp hx).1; simpa using this
          obtain rfl : x = V.str (bs[j].2.lines[i]) := by rw [List.getElem?_map, List.getElem?_eq_getElem hi] at hx; exact (Option.some.inj hx).symm
          refine ⟨rfl, _, rfl, _, hS3, ?_, k3.at, ?_⟩
          · have := lw j
            have l2 : bs[j].2.lines.length ≤ 801 := by unfold Bk.lines; rw [List.length_cons, List.length_map]; have := ok.rows; omega
            have : j * 801 ≤ 99 * 801 := Nat.mul_le_mul_right _ (by omega)
            rw [List.length_map, List.length_append, List.length_take]
            exact sz2 (by omega)
          · rw [upd_same, take_snocN hi, ← List.append_assoc, List.map_append (l₁ := _ ++ _)]; rfl
        · rintro H3 ⟨k3, hS3⟩
          rw [List.length_map, List.take_length] at hS3
          refine ⟨fun b o e => k3 _ _ (ne_of_none e hD) (s03 _ _ e), ?_⟩
          have et : ((bs.take (j + 1)).map (·.2)).flatMap Bk.lines = ((bs.take j).map (·.2)).flatMap Bk.lines ++ bs[j].2.lines := by
            rw [take_snocN hj, List.map_append, List.flatMap_append, List.map_cons, List.map_nil, List.flatMap_cons, List.flatMap_nil, List.append_nil]
          rw [hS3, et]
    · rintro H' ⟨sm, hS⟩
      rw [List.length_map, List.take_length] at hS
      exact q D H' sm hS
end
end K88
namespace K88
open PySem PySem.Spec PyProof.Rows Cm Um TL
open L2 hiding Same
/-! ### a unit's text -/
theorem bC {c : Bool} {A B : Prop} (hT : c = true → A) (hF : c = false → B) : if c = true then A else B := by
  cases c with
  | true => exact hT rfl
  | false => exact hF rfl
def unitLine (U : Un) : Str := if U.late = true then "unit " ++ U.name ++ " late" else "unit " ++ U.name
def cellLine (p : Str × Int) : Str := "cell " ++ p.1 ++ " " ++ nt p.2
def Un.lines (U : Un) : List Str := unitLine U :: (U.cells.map cellLine ++ U.blocks.flatMap Bk.lines)
def Un.text (U : Un) : Str := Txt.join "\n" U.lines
structure UnOk (U : Un) : Prop where
  name : U.name.length ≤ 1000
  cells : U.cells.length ≤ 20
  cell : ∀ p ∈ U.cells, p.1.length ≤ 1000 ∧ p.2.natAbs ≤ 999999999
  nb : U.blocks.length ≤ 100
  bk : ∀ B ∈ U.blocks, BkOk B
  sz : (U.lines.map (·.length)).sum + U.lines.length ≤ 10000000
  tok : PyData.strOk U.text = true
def spUTx (K : PySem.W.Frag) : Sp := fun vs H Q _ => ∃ (u : Addr) (U : Un), vs = [.ref u] ∧ UnAt K H u U ∧ UnOk U ∧ ∀ H', Same H H' → Q (.str U.text) H'
section
variable {P : Program} {w : World} {K : PySem.W.Frag} {mg : Str → Option Value} {base : Heap} {sa : Addr} {sx : List Int}
theorem ok_Unit_text (T : Tx K mg sa sx) (W : Wx K w) : MCal P w K mg base 4 (UC K) "text" (spUTx K) := by
  obtain ⟨fd, F⟩ := f_Unit_text T
  refine ⟨c_Unit T, _, fd, ["self"], fnok F sc_Unit_text (fun vs H Q E h => ?_) (fun cdv A outer s H vs Q E hr h => ?_), F.bindsN fun _ _ _ _ _ _ us hl => match us, hl with | [_], _ => rfl, me_Unit_text T⟩
  · obtain ⟨b, B, rfl, _⟩ := h; rfl
  · obtain ⟨u, U, rfl, hu, ok, q⟩ := h
    refine ⟨_, (pss_cons (ps_set (i := 1) sc_Unit_text.nd rfl (by first | exact Or.inl rfl | exact Or.inr rfl) (pe_lst (pa_cons (pe_ifExp (pt_val (pe_fld (pv 0) rfl)) (pe_joined (PJ.cons pe_str (PJ.cons (pe_fmt (pe_fld (pv 0) rfl)) (PJ.cons pe_str PJ.nil)))) (pe_joined (PJ.cons pe_str (PJ.cons (pe_fmt (pe_fld (pv 0) rfl)) PJ.nil)))) pa_nil)))
    (pss_cons (ps_lock (ps_for PassesOwn.never rfl (pi_items (pe_fld (pv 0) rfl)) (pg_tup (by rfl) (pgs_cons (pg_name (i := 2) sc_Unit_text.nd rfl (by first | exact Or.inl rfl | exact Or.inr rfl)) (pgs_cons (pg_name (i := 3) sc_Unit_text.nd rfl (by first | exact Or.inl rfl | exact Or.inr rfl)) pgs_nil)))
      (pss_one (ps_expr (pe_bm PySem.F.plainAttrs_list PySem.F.slot_list_append PySem.F.type_list_append mt_append (pv 1) (pa_cons (pe_joined (PJ.cons pe_str (PJ.cons (pe_fmt (pv 2)) (PJ.cons pe_str (PJ.cons (pe_fmt (pv 3)) PJ.nil))))) pa_nil))))))
    (pss_one (ps_ret (pe_join pe_str (pe_op op_cat (pv 1) (pe_cal (ok_block_lines T W) hr (by decide) (pa_cons (pe_fld (pv 0) rfl) pa_nil)))))))), ?_⟩
    obtain ⟨dx, cd, bt, hu, hcd, bs, hbt, ebs, hbs⟩ := hu
    refine ⟨_, rfl, u, _, dx, _, _, rfl, hu, c_Unit T, na_Unit_is_late T, rfl, _, rfl, ?_⟩
    have l1 : (("unit " : Str)).length = 5 := by decide +kernel
    have l2 : ((" late" : Str)).length = 5 := by decide +kernel
    have l3 : Str.empty.length = 0 := rfl
    have l4 : (("cell " : Str)).length = 5 := by decide +kernel
    have l5 : ((" " : Str)).length = 1 := by decide +kernel
    have ln := ok.name
    have nm : ∀ R : V → Hp → Prop, R (.str U.name) H → tFmt (tFld K (tVar 0) "name") (L2.start ["self", "lines", "name", "integer"] [V.ref u]) H R := fun R r =>
      ⟨_, rfl, u, _, dx, _, _, rfl, hu, c_Unit T, na_Unit_name T, rfl, .inl ⟨_, rfl, sz1 (by omega), r⟩⟩
    refine bC (fun c => ?g1) (fun c => ?g2)
    case' g1 =>
      refine ⟨_, rfl, sz1 (by rw [app_len]; omega), nm _ ⟨_, rfl, sz1 (by rw [app_len, app_len]; omega), _, rfl, sz1 (by rw [app_len, app_len, app_len]; omega), ?_⟩⟩
      have e : Str.empty ++ "unit " ++ U.name ++ " late" = unitLine U := by unfold unitLine; rw [if_pos c, emp_app]
    case' g2 =>
      refine ⟨_, rfl, sz1 (by rw [app_len]; omega), nm _ ⟨_, rfl, sz1 (by rw [app_len, app_len]; omega), ?_⟩⟩
      have e : Str.empty ++ "unit " ++ U.name = unitLine U := by unfold unitLine; rw [if_neg (by rw [c]; simp), emp_app]
    all_goals
      refine ⟨sz1 (by simp), fun L hL => ?_⟩
      have s1 : Same H (upd H L (.lst [.str (unitLine U)])) := Same.new hL
      have hLv : (upd H L (.lst [.str (unitLine U)])) L = some (.lst [.str (unitLine U)]) := upd_same
      rw [e]
      generalize upd H L (.lst [.str (unitLine U)]) = H1 at s1 hLv ⊢
      clear e
      refine ⟨cd, _, s1 _ _ hcd, True.intro, fun od => ?_⟩
      have ncu : cd ≠ u := fun z => by rw [z, hu] at hcd; cases hcd
      have ncL : cd ≠ L := ne_of_none hcd hL
      have kk : Kp cd H1 (upd H1 cd (.frz od (.dK (skv (U.cells.map fun p => (p.1, V.int p.2)))))) := Kp.refl.at
      have hcf : (upd H1 cd (.frz od (.dK (skv (U.cells.map fun p => (p.1, V.int p.2)))))) cd = _ := upd_same
      generalize upd H1 cd (.frz od (.dK (skv (U.cells.map fun p => (p.1, V.int p.2))))) = H2 at kk hcf ⊢
      have hL2 : H2 L = some (.lst [.str (unitLine U)]) := kk _ _ ncL.symm hLv
      have hu2 := kk _ _ ncu.symm (s1 _ _ hu)
      refine ⟨_, rfl, u, _, dx, _, _, rfl, hu2, c_Unit T, na_Unit_cells T, rfl, cd, od, _, rfl, hcf, ?_⟩
      refine for_it walk_items (fun j σ H' => ∃ v2 v3, σ = [some (.ref u), some (.ref L), v2, v3] ∧ Kp L H2 H' ∧ H' L = some (.lst ((unitLine U :: (U.cells.take j).map cellLine).map V.str))) ⟨none, none, rfl, Kp.refl, by rw [hL2]; rfl⟩ (fun j σ H' _ ⟨_, _, _, k, _⟩ => k _ _ ncL hcf) ?_ ?_
      · rintro j x σ H' H'' hj ⟨v2, v3, rfl, k, hv⟩ ⟨Tt, xn, xi, rfl, hT, rfl, ex, ei⟩
        rw [skv_len, List.length_map] at hj
        have ek : (skv (U.cells.map fun p => (p.1, V.int p.2)))[j]? = some (Sum.inr U.cells[j].1, V.int U.cells[j].2) := by
          unfold skv; rw [List.getElem?_map, List.getElem?_map, List.getElem?_eq_getElem hj]; rfl
        have ex : ((skv (U.cells.map fun p => (p.1, V.int p.2)))[j]?).map (fun kv => kV kv.1) = some xn := ex
        have ei : ((skv (U.cells.map fun p => (p.1, V.int p.2)))[j]?).map Prod.snd = some xi := ei
        rw [ek] at ex ei
        obtain rfl := (Option.some.inj ex).symm
        obtain rfl := (Option.some.inj ei).symm
        obtain ⟨ln1, ln2⟩ := ok.cell _ (List.getElem_mem hj)
        have k2 : Kp L H2 (upd H' Tt (.tup [V.str U.cells[j].1, V.int U.cells[j].2])) := k.trans (Same.new hT).kp
        have hv2 := (Same.new hT (o := .tup [V.str U.cells[j].1, V.int U.cells[j].2])) _ _ hv
        have hTt : (upd H' Tt (.tup [V.str U.cells[j].1, V.int U.cells[j].2])) Tt = some (.tup [V.str U.cells[j].1, V.int U.cells[j].2]) := upd_same
        refine ⟨Tt, _, rfl, SqT.of hTt, rfl, _, _, rfl, _, _, rfl, rfl, ?_⟩
        have li := nt_len (n := U.cells[j].2) (by unfold SmI; omega)
        refine ⟨_, rfl, .inl ⟨rfl, _, SqL.of hv2⟩, _, rfl, sz1 (by rw [app_len]; omega), _, rfl, .inl ⟨_, rfl, sz1 (by omega), _, rfl, sz1 (by rw [app_len, app_len]; omega), ?_⟩⟩
        refine ⟨_, rfl, sz1 (by simp only [app_len]; omega), _, rfl, .inr ⟨_, rfl, log_of (Nat.lt_of_le_of_lt ln2 (by decide +kernel)), _, rfl, sz1 (by simp only [app_len]; show _ + (nt U.cells[j].2).length ≤ _; omega), ?_⟩⟩
        refine ⟨L, _, _, rfl, rfl, hv2, sz2 (by have := ok.cells; rw [List.length_map, List.length_cons, List.length_map, List.length_take]; omega), _, _, rfl, k2.at, ?_⟩
        rw [upd_same, take_snocN hj]
        show some (HO.lst (_ ++ [V.str (Str.empty ++ "cell " ++ U.cells[j].1 ++ " " ++ nt U.cells[j].2)])) = _
        rw [emp_app, List.map_append (f := cellLine)]
        simp only [List.map_cons, List.map_append, List.map_nil, List.cons_append]; rfl
      · rintro σ H' ⟨v2, v3, rfl, k, hv⟩
        rw [skv_len, List.length_map, List.take_length] at hv
        refine ⟨k _ _ ncL hcf, ?_⟩
        have sf : Same H (upd H' cd (.dK (skv (U.cells.map fun p => (p.1, V.int p.2))))) := fun b o e => by
          by_cases z : b = cd
          · rw [z] at e ⊢; rw [hcd] at e; rw [upd_same]; exact e
          · rw [upd_ne z]; exact k _ _ (ne_of_none e hL) (kk _ _ z (s1 _ _ e))
        have hvf : (upd H' cd (.dK (skv (U.cells.map fun p => (p.1, V.int p.2))))) L = some (.lst ((unitLine U :: U.cells.map cellLine).map V.str)) := by rw [upd_ne ncL.symm]; exact hv
        generalize upd H' cd (.dK (skv (U.cells.map fun p => (p.1, V.int p.2)))) = H5 at sf hvf ⊢
        have lbs : bs.length ≤ 100 := by
          have h1 := congrArg List.length ebs
          rw [List.length_map] at h1
          have := ok.nb
          omega
        have oks : ∀ q ∈ bs, BkOk q.2 := fun q hq => ok.bk _ (by rw [← ebs]; exact List.mem_map_of_mem hq)
        have szL := ok.sz
        refine ⟨⟨_, rfl⟩, _, rfl, ?_⟩
        refine ⟨_, rfl, u, _, dx, _, _, rfl, sf _ _ hu, c_Unit T, na_Unit_blocks T, rfl, bt, bs, rfl, sf _ _ hbt, ⟨lbs, fun q hq => ⟨(hbs q hq).same sf, oks q hq⟩⟩, fun p H6 s6 hp => ?_⟩
        have el : (unitLine U :: U.cells.map cellLine) ++ (bs.map (·.2)).flatMap Bk.lines = U.lines := by rw [ebs]; rfl
        refine ⟨L, p, _, _, rfl, rfl, s6 _ _ hvf, hp, ?_, fun c hc => ?_⟩
        · rw [List.length_map, List.length_map, ← List.length_append, el]; exact Nat.le_trans (Nat.le_trans (Nat.le_add_left _ _) szL) (by decide)
        · rw [← List.map_append, el]
          refine ⟨"\n", c, U.lines, rfl, rfl, .inl (SqL.of upd_same), ?_, q _ ((sf.trans s6).trans (Same.new hc))⟩
          have : (("\n" : Str)).length = 1 := by decide +kernel
          rw [this]; omega
end
end K88
namespace Um
open PySem PySem.Spec PyProof.Rows Cm TL
open L2 hiding Same
/-! ### rows taken away -/
def skips : Rw → Bool
  | .same _ _ _ => true
  | .there _ _ => true
  | _ => false
def lessR : Rw → Rw
  | .same a b k => .same a b (k - 1)
  | .there x k => .there x (k - 1)
  | r => r
def skOf : Rw → Int
  | .same _ _ k => k
  | .there _ k => k
  | _ => 0
/-- row i, when row g is taken -/
def lessAt (g i : Nat) (r : Rw) : Rw := if skips r = true ∧ i < g ∧ (g : Int) ≤ i + skOf r then lessR r else r
def idle (r : Rw) : Bool := skips r && decide (skOf r = 0)
def takeR (rows : List Rw) (g : Nat) : List Rw := (rows.mapIdx (lessAt g)).eraseIdx g
/-- the places of the idle rows -/
def idles (rows : List Rw) : List Nat := (List.range rows.length).filter fun i => ((rows[i]?).map idle).getD false
def withR : Nat → List Rw → Nat → List Rw
  | 0, rows, _ => rows
  | n + 1, rows, g => match idles (takeR rows g) with
    | [] => takeR rows g
    | h :: _ => withR n (takeR rows g) h
theorem takeR_len {rows : List Rw} {g : Nat} (h : g < rows.length) : (takeR rows g).length + 1 = rows.length := by
  unfold takeR
  rw [List.length_eraseIdx, List.length_mapIdx, if_pos h]; omega
theorem idles_lt {rows : List Rw} {h : Nat} {r : List Nat} (e : idles rows = h :: r) : h < rows.length := by
  have : h ∈ idles rows := by rw [e]; exact List.mem_cons_self
  unfold idles at this
  exact List.mem_range.mp (List.mem_filter.mp this).1
end Um
namespace Um
open PySem PySem.Spec PyProof.Rows Cm TL
open L2 hiding Same
/-! ### rows that are written right, and what is read of them -/
def RwFit : Rw → Prop
  | .tell v => v.fit
  | .set p v => p.fit ∧ p.kd ∈ unitP ∧ v.fit
  | .same a b k => a.fit ∧ b.fit ∧ k.natAbs ≤ 999999999
  | .there x k => isName x = true ∧ k.natAbs ≤ 999999999
  | .call x v t => isName x = true ∧ v.fit ∧ 0 ≤ t ∧ t ≤ 9
  | .fin => True
def Rw.words : Rw → List Str
  | .tell v => ["tell", v.tx]
  | .set p v => ["set", p.tx, v.tx]
  | .same a b k => ["same", a.tx, b.tx, "else", nt k]
  | .there x k => ["there", x, "else", nt k]
  | .call x v t => if t = 0 then ["call", x, v.tx] else ["call", x, v.tx, "at", nt t]
  | .fin => ["end"]
def Rw.parts : Rw → List Pt
  | .tell v => [.w "tell", .v v]
  | .set p v => [.w "set", .v p, .v v]
  | .same a b k => [.w "same", .v a, .v b, .w "else", .n k]
  | .there x k => [.w "there", .w x, .w "else", .n k]
  | .call x v t => if t = 0 then [.w "call", .w x, .v v] else [.w "call", .w x, .v v, .w "at", .n t]
  | .fin => [.w "end"]
theorem wd_call (x : Str) (v : Val) (t : Int) : (Rw.call x v t).words = if t = 0 then [("call" : Str), x, v.tx] else [("call" : Str), x, v.tx, "at", nt t] := rfl
theorem pt_call (x : Str) (v : Val) (t : Int) : (Rw.call x v t).parts = if t = 0 then [.w "call", .w x, .v v] else [.w "call", .w x, .v v, .w "at", .n t] := rfl
theorem tx_call (x : Str) (v : Val) (t : Int) : (Rw.call x v t).tx = if t = 0 then "call " ++ (x ++ (" " ++ v.tx)) else "call " ++ (x ++ (" " ++ (v.tx ++ (" at " ++ nt t)))) := rfl
theorem rowP_parts {r : Rw} (h : RwFit r) : RowP r.parts r := by
  cases r with
  | tell v => exact .tell v
  | set p v => exact .set p v
  | same a b k => exact .same a b k
  | there x k => exact .there x k h.1
  | call x v t =>
    rw [pt_call]
    by_cases z : t = 0
    · rw [if_pos z, z]; exact .call x v h.1
    · rw [if_neg z]; exact .callt x v t h.1
  | fin => exact .fin
theorem sj1 (s x : Str) : Str.join s [x] = x := rfl
theorem sj2 (s x y : Str) (r : List Str) : Str.join s (x :: y :: r) = x ++ s ++ Str.join s (y :: r) := rfl
theorem row_join (r : Rw) : r.tx = Txt.join " " r.words := by
  rw [join_eq]
  have l1 : ("tell " : Str) = "tell" ++ " " := by decide +kernel
  have l2 : ("set " : Str) = "set" ++ " " := by decide +kernel
  have l3 : ("same " : Str) = "same" ++ " " := by decide +kernel
  have l4 : (" else " : Str) = " " ++ ("else" ++ " ") := by decide +kernel
  have l5 : ("there " : Str) = "there" ++ " " := by decide +kernel
  have l6 : ("call " : Str) = "call" ++ " " := by decide +kernel
  have l7 : (" at " : Str) = " " ++ ("at" ++ " ") := by decide +kernel
  cases r with
  | tell v => simp only [Rw.tx, Rw.words]; rw [sj2, sj1, l1]
  | set p v => simp only [Rw.tx, Rw.words]; rw [sj2, sj2, sj1, l2]; simp only [app_assoc]
  | same a b k => simp only [Rw.tx, Rw.words]; rw [sj2, sj2, sj2, sj2, sj1, l3, l4]; simp only [app_assoc]
  | there x k => simp only [Rw.tx, Rw.words]; rw [sj2, sj2, sj2, sj1, l5, l4]; simp only [app_assoc]
  | call x v t =>
    rw [tx_call, wd_call]
    by_cases z : t = 0
    · rw [if_pos z, if_pos z, sj2, sj2, sj1, l6]; simp only [app_assoc]
    · rw [if_neg z, if_neg z, sj2, sj2, sj2, sj2, sj1, l6, l7]; simp only [app_assoc]
  | fin => rfl
theorem plain_lit : ∀ s ∈ [("tell" : Str), "set", "same", "there", "call", "end", "else", "at", "unit", "late", "cell", "routine", "inner", "start"], Plain s := by unfold Plain; decide +kernel
theorem row_plain {r : Rw} (h : RwFit r) : ∀ w ∈ r.words, Plain w := by
  have pl := plain_lit
  intro w hw
  cases r with
  | tell v =>
    simp only [Rw.words, List.mem_cons, List.not_mem_nil, or_false] at hw
    rcases hw with rfl | rfl
    · exact pl _ (by decide +kernel)
    · exact plain_val h
  | set p v =>
    simp only [Rw.words, List.mem_cons, List.not_mem_nil, or_false] at hw
    rcases hw with rfl | rfl | rfl
    · exact pl _ (by decide +kernel)
    · exact plain_val h.1
    · exact plain_val h.2.2
  | same a b k =>
    simp only [Rw.words, List.mem_cons, List.not_mem_nil, or_false] at hw
    rcases hw with rfl | rfl | rfl | rfl | rfl
    · exact pl _ (by decide +kernel)
    · exact plain_val h.1
    · exact plain_val h.2.1
    · exact pl _ (by decide +kernel)
    · exact plain_nt _
  | there x k =>
    simp only [Rw.words, List.mem_cons, List.not_mem_nil, or_false] at hw
    rcases hw with rfl | rfl | rfl | rfl
    · exact pl _ (by decide +kernel)
    · exact plain_name h.1
    · exact pl _ (by decide +kernel)
    · exact plain_nt _
  | call x v t =>
    rw [wd_call] at hw
    by_cases z : t = 0
    · rw [if_pos z] at hw
      simp only [List.mem_cons, List.not_mem_nil, or_false] at hw
      rcases hw with rfl | rfl | rfl
      · exact pl _ (by decide +kernel)
      · exact plain_name h.1
      · exact plain_val h.2.1
    · rw [if_neg z] at hw
      simp only [List.mem_cons, List.not_mem_nil, or_false] at hw
      rcases hw with rfl | rfl | rfl | rfl | rfl
      · exact pl _ (by decide +kernel)
      · exact plain_name h.1
      · exact plain_val h.2.1
      · exact pl _ (by decide +kernel)
      · exact plain_nt _
  | fin =>
    simp only [Rw.words, List.mem_cons, List.not_mem_nil, or_false] at hw
    rw [hw]; exact pl _ (by decide +kernel)
theorem words_ne (r : Rw) : r.words ≠ [] := by
  cases r with
  | call x v t => rw [wd_call]; split <;> simp
  | _ => simp [Rw.words]
/-- a line, its words and its parts -/
structure LnOk (line : Str) (words : List Str) (ps : List Pt) : Prop where
  split : Txt.split line " " = words
  ne : ("" : Str) ∉ words
  parts : partsOf unitG words = .inr ps
  free : 10 ∉ tl line
theorem tl_join_free {c : Nat} {y : Str} (hy : c ∉ tl y) : ∀ {ws : List Str}, (∀ w ∈ ws, c ∉ tl w) → c ∉ tl (Str.join y ws)
  | [], _ => by intro z; cases z
  | [x], h => h x List.mem_cons_self
  | x :: y' :: r, h => by
    rw [sj2, tl_append, tl_append]
    intro z
    rcases List.mem_append.mp z with z | z
    · rcases List.mem_append.mp z with z | z
      · exact h x List.mem_cons_self z
      · exact hy z
    · exact tl_join_free hy (fun w hw => h w (List.mem_cons_of_mem _ hw)) z
theorem ln_of {ws : List Str} {ps : List Pt} (hne : ws ≠ []) (h : ∀ w ∈ ws, Plain w) (hp : partsOf unitG ws = .inr ps) : LnOk (Txt.join " " ws) ws ps where
  split := split_join (s := 32) (S := []) (by decide +kernel) (by decide +kernel) hne fun p hp => (h p hp).1
  ne := fun z => (h _ z).2.2 rfl
  parts := hp
  free := by rw [join_eq]; exact tl_join_free (by decide +kernel) fun w hw => (h w hw).2.1
theorem fit_slot {w sl : Str} (h : sl ∈ [("NAME" : Str), "N", "K", "T", "V", "P"]) : fitsW w sl = true := by
  have g : ∀ sl ∈ [("NAME" : Str), "N", "K", "T", "V", "P"], sl ≠ "ACCESS" ∧ sl ≠ "LOCK" ∧ (causeOf sl).isSome = true := by decide +kernel
  obtain ⟨h1, h2, h3⟩ := g _ h
  unfold fitsW
  rw [if_neg h1, if_neg h2, h3]; rfl
theorem fit_lit : ∀ s ∈ [("tell" : Str), "set", "same", "there", "call", "end", "else", "at", "unit", "late", "cell", "routine", "inner", "start"], fitsW s s = true := by decide +kernel
theorem slots_fst {f : List Str} {gs : List (List Str)} {ws : List Str} (hl : f.length = ws.length) (hf : ∀ p ∈ ws.zip f, fitsW p.1 p.2 = true) : slotsOf (f :: gs) ws = some f := by
  unfold slotsOf
  rw [List.find?_cons_of_pos]
  rw [Bool.and_eq_true, decide_eq_true_iff, List.all_eq_true]
  exact ⟨hl, hf⟩
theorem slots_snd {f g : List Str} {gs : List (List Str)} {ws : List Str} (hn : f.length ≠ ws.length) (hl : g.length = ws.length) (hf : ∀ p ∈ ws.zip g, fitsW p.1 p.2 = true) : slotsOf (f :: g :: gs) ws = some g := by
  have := slots_fst (gs := gs) hl hf
  unfold slotsOf at this ⊢
  rw [List.find?_cons_of_neg, this]
  rw [Bool.and_eq_true, decide_eq_true_iff]
  exact fun z => hn z.1
theorem parts_ok {ws : List Str} {fs : List (List Str)} {f : List Str} {ps : List Pt} (hl : unitG.forms.lookup (headW ws) = some fs) (hs : slotsOf fs ws = some f) (hg : goParts unitG (ws.zip f) = .inr ps) : partsOf unitG ws = .inr ps := by
  unfold partsOf
  rw [hl, Option.getD_some, hs]
  exact hg
theorem go_cons {w s : Str} {a : Pt} {r : List (Str × Str)} {l : List Pt} (h : partOf unitG w s = some a) (h2 : goParts unitG r = .inr l) : goParts unitG ((w, s) :: r) = .inr (a :: l) := by
  rw [goParts]
  show (match partOf unitG w s with | none => _ | some a => _) = _
  rw [h]
  show (match goParts unitG r with | .inl c => _ | .inr l => _) = _
  rw [h2]
theorem part_lit : ∀ s ∈ [("tell" : Str), "set", "same", "there", "call", "end", "else", "at", "unit", "late", "cell", "routine", "inner", "start"], partOf unitG s s = some (.w s) := by
  intro s hs
  have g : ∀ s ∈ [("tell" : Str), "set", "same", "there", "call", "end", "else", "at", "unit", "late", "cell", "routine", "inner", "start"], s ≠ "NAME" ∧ ¬ (s = "N" ∨ s = "K") ∧ s ≠ "T" ∧ s ≠ "V" ∧ s ≠ "P" := by decide +kernel
  obtain ⟨h1, h2, h3, h4, h5⟩ := g s hs
  unfold partOf
  rw [if_neg h1, if_neg h2, if_neg h3, if_neg h4, if_neg h5]
theorem part_name {x : Str} (h : isName x = true) : partOf unitG x "NAME" = some (.w x) := by
  unfold partOf
  rw [if_pos rfl, if_pos h]
theorem part_num {s : Str} {k : Int} (hs : s = "N" ∨ s = "K") (h : k.natAbs ≤ 999999999) : partOf unitG (nt k) s = some (.n k) := by
  obtain ⟨h1, h2⟩ := numeral_nt h
  unfold partOf
  rw [if_neg (by rcases hs with rfl | rfl <;> decide +kernel), if_pos hs, if_pos h1, h2]
theorem tag_nt : ∀ m : Nat, m < 10 → 0 < m → isTag (nt (m : Int)) = true ∧ numOf (nt (m : Int)) = m := by decide +kernel
theorem part_tag {t : Int} (h0 : 0 < t) (h9 : t ≤ 9) : partOf unitG (nt t) "T" = some (.n t) := by
  obtain ⟨m, rfl⟩ : ∃ m : Nat, t = m := ⟨t.natAbs, by omega⟩
  obtain ⟨h1, h2⟩ := tag_nt m (by omega) (by omega)
  unfold partOf
  rw [if_neg (by decide +kernel), if_neg (by decide +kernel), if_pos rfl, if_pos h1, h2]
theorem part_val {v : Val} (h : v.fit) : partOf unitG v.tx "V" = some (.v v) := by
  have g : ("number" : Str) ∈ unitG.vk ∧ ("argument" : Str) ∈ unitG.vk ∧ ("place" : Str) ∈ unitG.vk ∧ ("own" : Str) ∈ unitG.vk ∧ ("named" : Str) ∈ unitG.vk := by decide +kernel
  have hk : v.kd ∈ unitG.vk := by
    cases v with
    | num n => exact g.1
    | arg => exact g.2.1
    | place x k => exact g.2.2.1
    | own x => exact g.2.2.2.1
    | named x => exact g.2.2.2.2
  unfold partOf
  rw [if_neg (by decide +kernel), if_neg (by decide +kernel), if_neg (by decide +kernel), if_pos rfl]
  unfold valIn
  rw [value_back h]
  exact if_pos hk
theorem part_place {v : Val} (h : v.fit) (hk : v.kd ∈ unitP) : partOf unitG v.tx "P" = some (.v v) := by
  unfold partOf
  rw [if_neg (by decide +kernel), if_neg (by decide +kernel), if_neg (by decide +kernel), if_neg (by decide +kernel), if_pos rfl]
  unfold valIn
  rw [value_back h]
  exact if_pos hk
theorem fz {l : List (Str × Str)} (h : l.all (fun p => fitsW p.1 p.2) = true) : ∀ p ∈ l, fitsW p.1 p.2 = true := List.all_eq_true.mp h
theorem row_parts {r : Rw} (h : RwFit r) : partsOf unitG r.words = .inr r.parts := by
  have pl := part_lit
  have fl := fit_lit
  cases r with
  | tell v =>
    refine parts_ok (fs := [["tell", "V"]]) (f := ["tell", "V"]) (by show unitG.forms.lookup ("tell" : Str) = _; decide +kernel) (slots_fst rfl (fz ?_)) (go_cons (pl _ (by decide +kernel)) (go_cons (part_val h) rfl))
    simp only [Rw.words, List.zip_cons_cons, List.zip_nil_right, List.all_cons, List.all_nil, Bool.and_true, Bool.and_eq_true]
    exact ⟨fl _ (by decide +kernel), fit_slot (by decide +kernel)⟩
  | set p v =>
    refine parts_ok (fs := [["set", "P", "V"]]) (f := ["set", "P", "V"]) (by show unitG.forms.lookup ("set" : Str) = _; decide +kernel) (slots_fst rfl (fz ?_)) (go_cons (pl _ (by decide +kernel)) (go_cons (part_place h.1 h.2.1) (go_cons (part_val h.2.2) rfl)))
    simp only [Rw.words, List.zip_cons_cons, List.zip_nil_right, List.all_cons, List.all_nil, Bool.and_true, Bool.and_eq_true]
    exact ⟨fl _ (by decide +kernel), fit_slot (by decide +kernel), fit_slot (by decide +kernel)⟩
  | same a b k =>
    refine parts_ok (fs := [["same", "V", "V", "else", "K"]]) (f := ["same", "V", "V", "else", "K"]) (by show unitG.forms.lookup ("same" : Str) = _; decide +kernel) (slots_fst rfl (fz ?_)) (go_cons (pl _ (by decide +kernel)) (go_cons (part_val h.1) (go_cons (part_val h.2.1) (go_cons (pl _ (by decide +kernel)) (go_cons (part_num (.inr rfl) h.2.2) rfl)))))
    simp only [Rw.words, List.zip_cons_cons, List.zip_nil_right, List.all_cons, List.all_nil, Bool.and_true, Bool.and_eq_true]
    exact ⟨fl _ (by decide +kernel), fit_slot (by decide +kernel), fit_slot (by decide +kernel), fl _ (by decide +kernel), fit_slot (by decide +kernel)⟩
  | there x k =>
    refine parts_ok (fs := [["there", "NAME", "else", "K"]]) (f := ["there", "NAME", "else", "K"]) (by show unitG.forms.lookup ("there" : Str) = _; decide +kernel) (slots_fst rfl (fz ?_)) (go_cons (pl _ (by decide +kernel)) (go_cons (part_name h.1) (go_cons (pl _ (by decide +kernel)) (go_cons (part_num (.inr rfl) h.2) rfl))))
    simp only [Rw.words, List.zip_cons_cons, List.zip_nil_right, List.all_cons, List.all_nil, Bool.and_true, Bool.and_eq_true]
    exact ⟨fl _ (by decide +kernel), fit_slot (by decide +kernel), fl _ (by decide +kernel), fit_slot (by decide +kernel)⟩
  | call x v t =>
    rw [wd_call, pt_call]
    by_cases z : t = 0
    · rw [if_pos z, if_pos z]
      refine parts_ok (fs := [["call", "NAME", "V"], ["call", "NAME", "V", "at", "T"]]) (f := ["call", "NAME", "V"]) (by show unitG.forms.lookup ("call" : Str) = _; decide +kernel) (slots_fst rfl (fz ?_)) (go_cons (pl _ (by decide +kernel)) (go_cons (part_name h.1) (go_cons (part_val h.2.1) rfl)))
      simp only [List.zip_cons_cons, List.zip_nil_right, List.all_cons, List.all_nil, Bool.and_true, Bool.and_eq_true]
      exact ⟨fl _ (by decide +kernel), fit_slot (by decide +kernel), fit_slot (by decide +kernel)⟩
    · rw [if_neg z, if_neg z]
      refine parts_ok (fs := [["call", "NAME", "V"], ["call", "NAME", "V", "at", "T"]]) (f := ["call", "NAME", "V", "at", "T"]) (by show unitG.forms.lookup ("call" : Str) = _; decide +kernel) (slots_snd (by show (3 : Nat) ≠ 5; decide) rfl (fz ?_)) (go_cons (pl _ (by decide +kernel)) (go_cons (part_name h.1) (go_cons (part_val h.2.1) (go_cons (pl _ (by decide +kernel)) (go_cons (part_tag (by have := h.2.2.1; omega) h.2.2.2) rfl)))))
      simp only [List.zip_cons_cons, List.zip_nil_right, List.all_cons, List.all_nil, Bool.and_true, Bool.and_eq_true]
      exact ⟨fl _ (by decide +kernel), fit_slot (by decide +kernel), fit_slot (by decide +kernel), fl _ (by decide +kernel), fit_slot (by decide +kernel)⟩
  | fin => exact parts_ok (fs := [["end"]]) (f := ["end"]) (by decide +kernel) (slots_fst rfl (fz (by decide +kernel))) (go_cons (pl _ (by decide +kernel)) rfl)
theorem row_line {r : Rw} (h : RwFit r) : LnOk r.tx r.words r.parts := by
  rw [row_join]; exact ln_of (words_ne r) (row_plain h) (row_parts h)
/-! ### lines read one behind the other -/
theorem line_next {i : Nat} {rank : Int} {line : Str} {r : List Str} {ws : List Str} {ps : List Pt} {L : List (List Pt)} (l : LnOk line ws ps) (m : mayStand unitG (headW ws) i rank = true) (h : parseL unitG (i + 1) (min (rankOf unitG (headW ws)) 2) r = .inr L) :
    parseL unitG i rank (line :: r) = .inr (ps :: L) := by
  have := parseL_ok (G := unitG) (i := i) (rank := rank) (line := line) (r := r) (ps := ps) (done := []) (by rw [l.split]; exact l.ne) (by rw [l.split]; exact m) (by rw [l.split]; exact l.parts)
  rw [thenL_nil, l.split] at this
  rw [this]
  show thenL _ (parseL unitG (i + 1) (min (rankOf unitG (headW ws)) 2) r) = _
  rw [h]; rfl
theorem rank_row : ∀ h ∈ [("tell" : Str), "set", "same", "there", "call", "end"], rankOf unitG h = 3 := by decide +kernel
theorem rank_head : ∀ h ∈ unitH, rankOf unitG h = 2 := by decide +kernel
theorem row_head (r : Rw) : headW r.words ∈ [("tell" : Str), "set", "same", "there", "call", "end"] := by
  cases r with
  | call x v t => rw [wd_call]; by_cases z : t = 0 <;> simp [z, headW]
  | _ => simp [Rw.words, headW]
theorem row_headP (r : Rw) : headP r.parts ∉ unitH := by
  cases r with
  | call x v t => rw [pt_call]; by_cases z : t = 0 <;> simp only [z, if_true, if_false, headP] <;> decide +kernel
  | _ => simp only [Rw.parts, headP]; decide +kernel
theorem row_lineP (r : Rw) : LineP r.parts := by
  cases r with
  | call x v t => rw [pt_call]; by_cases z : t = 0 <;> simp only [z, if_true, if_false] <;> exact ⟨_, _, rfl⟩
  | _ => exact ⟨_, _, rfl⟩
theorem may_row {h : Str} {i : Nat} (hh : h ∈ [("tell" : Str), "set", "same", "there", "call", "end"]) (hi : 0 < i) : mayStand unitG h i 2 = true := by
  unfold mayStand
  rw [rank_row h hh, if_neg (by omega), if_pos (by decide +kernel)]
  decide +kernel
theorem may_head {h : Str} {i : Nat} {rank : Int} (hh : h ∈ unitH) (hi : 0 < i) (hr : rank ≤ 2) : mayStand unitG h i rank = true := by
  unfold mayStand
  rw [rank_head h hh, if_neg (by omega), if_neg (by decide +kernel)]
  exact decide_eq_true hr
theorem may_cell {i : Nat} {rank : Int} (hi : 0 < i) (hr : rank ≤ 1) : mayStand unitG "cell" i rank = true := by
  have : rankOf unitG "cell" = 1 := by decide +kernel
  unfold mayStand
  rw [this, if_neg (by omega), if_neg (by decide +kernel)]
  exact decide_eq_true hr
theorem rows_next : ∀ (rows : List Rw) {i : Nat} {r : List Str} {L : List (List Pt)}, (∀ x ∈ rows, RwFit x) → 0 < i → parseL unitG (i + rows.length) 2 r = .inr L → parseL unitG i 2 (rows.map Rw.tx ++ r) = .inr (rows.map Rw.parts ++ L)
  | [], i, r, L, _, _, h => h
  | x :: rows, i, r, L, hf, hi, h => by
    refine line_next (row_line (hf x List.mem_cons_self)) (may_row (row_head x) hi) ?_
    rw [rank_row _ (row_head x)]
    refine rows_next rows (fun y hy => hf y (List.mem_cons_of_mem _ hy)) (by omega) ?_
    rw [show i + 1 + rows.length = i + (x :: rows).length by rw [List.length_cons]; omega]
    exact h
/-! ### sections out of parts -/
def numb : Nat → List (List Pt) → List (Nat × List Pt)
  | _, [] => []
  | i, p :: r => (i, p) :: numb (i + 1) r
def secB : Nat → List (List Pt × List Rw) → List (Nat × List Pt × List Rw)
  | _, [] => []
  | i, b :: r => (i, b.1, b.2) :: secB (i + 1 + b.2.length) r
theorem numb_snd : ∀ (l : List (List Pt)) (i : Nat), (numb i l).map (·.2) = l
  | [], _ => rfl
  | p :: r, i => by rw [numb, List.map_cons, numb_snd r]
theorem numb_mem : ∀ {l : List (List Pt)} {i : Nat} {e : Nat × List Pt}, e ∈ numb i l → e.2 ∈ l ∧ e.1 < i + l.length
  | p :: r, i, e, h => by
    rw [numb] at h
    rcases List.mem_cons.mp h with rfl | h
    · exact ⟨List.mem_cons_self, by rw [List.length_cons]; show i < _; omega⟩
    · obtain ⟨h1, h2⟩ := numb_mem h
      exact ⟨List.mem_cons_of_mem _ h1, by rw [List.length_cons]; omega⟩
theorem secB_snd : ∀ (l : List (List Pt × List Rw)) (i : Nat), (secB i l).map (·.2) = l
  | [], _ => rfl
  | p :: r, i => by rw [secB, List.map_cons, secB_snd r]
def wide (l : List (List Pt × List Rw)) : Nat := (l.map fun b => b.2.length + 1).sum
theorem secB_mem : ∀ {l : List (List Pt × List Rw)} {i : Nat} {e : Nat × List Pt × List Rw}, e ∈ secB i l → e.2 ∈ l ∧ e.1 < i + wide l
  | p :: r, i, e, h => by
    rw [secB] at h
    have w : wide (p :: r) = p.2.length + 1 + wide r := by unfold wide; rw [List.map_cons, List.sum_cons]
    rcases List.mem_cons.mp h with rfl | h
    · exact ⟨List.mem_cons_self, by rw [w]; show i < _; omega⟩
    · obtain ⟨h1, h2⟩ := secB_mem h
      exact ⟨List.mem_cons_of_mem _ h1, by rw [w]; omega⟩
theorem sec_ahead : ∀ (ah : List (List Pt)) {i : Nat} {a : List (Nat × List Pt)} {ls : List (List Pt)} {e : Sec}, (∀ p ∈ ah, headP p ∉ unitH) → SecR unitH (i + ah.length) ⟨a ++ numb i ah, []⟩ ls e → SecR unitH i ⟨a, []⟩ (ah ++ ls) e
  | [], i, a, ls, e, _, h => by rw [numb, List.append_nil] at h; exact h
  | p :: ah, i, a, ls, e, hp, h => by
    refine .ahead (hp p List.mem_cons_self) rfl ?_
    refine sec_ahead ah (fun q hq => hp q (List.mem_cons_of_mem _ hq)) ?_
    rw [numb] at h
    rw [List.append_assoc, show i + 1 + ah.length = i + (p :: ah).length by rw [List.length_cons]; omega]
    exact h
theorem sec_rows : ∀ (rows : List Rw) {i j : Nat} {ps : List Pt} {rs : List Rw} {a : List (Nat × List Pt)} {done : List (Nat × List Pt × List Rw)} {ls : List (List Pt)} {e : Sec}, (∀ x ∈ rows, RwFit x) →
    SecR unitH (i + rows.length) ⟨a, done ++ [(j, ps, rs ++ rows)]⟩ ls e → SecR unitH i ⟨a, done ++ [(j, ps, rs)]⟩ (rows.map Rw.parts ++ ls) e
  | [], i, j, ps, rs, a, done, ls, e, _, h => by rw [List.append_nil] at h; exact h
  | x :: rows, i, j, ps, rs, a, done, ls, e, hf, h => by
    refine .row (row_headP x) (by simp) (rowP_parts (hf x List.mem_cons_self)) ?_
    rw [addRow_snoc]
    refine sec_rows rows (fun y hy => hf y (List.mem_cons_of_mem _ hy)) ?_
    rw [List.append_assoc, show i + 1 + rows.length = i + (x :: rows).length by rw [List.length_cons]; omega]
    exact h
theorem sec_blocks : ∀ (bs : List (List Pt × List Rw)) {i : Nat} {a : List (Nat × List Pt)} {done : List (Nat × List Pt × List Rw)}, (∀ b ∈ bs, headP b.1 ∈ unitH ∧ ∀ x ∈ b.2, RwFit x) → SecR unitH i ⟨a, done⟩ (bs.flatMap fun b => b.1 :: b.2.map Rw.parts) ⟨a, done ++ secB i bs⟩
  | [], i, a, done, _ => by rw [secB, List.append_nil]; exact .nil
  | b :: bs, i, a, done, h => by
    obtain ⟨h1, h2⟩ := h b List.mem_cons_self
    rw [List.flatMap_cons]
    refine .block h1 ?_
    refine sec_rows b.2 h2 ?_
    rw [List.nil_append]
    have := sec_blocks bs (i := i + 1 + b.2.length) (a := a) (done := done ++ [(i, b.1, b.2)]) fun c hc => h c (List.mem_cons_of_mem _ hc)
    rw [secB]
    rw [List.append_assoc] at this
    exact this
end Um
namespace K88
open PySem PySem.Spec PyProof.Rows Cm Um TL
open L2 hiding Same
/-! ### a sound unit's text is read back -/
def Bk.headP (B : Bk) : List Pt := if B.kind = "start" then [.w "start"] else [.w (headTx B.kind), .w B.name]
def Bk.words (B : Bk) : List Str := if B.kind = "start" then ["start"] else [headTx B.kind, B.name]
def Un.headP (U : Un) : List Pt := if U.late = true then [.w "unit", .w U.name, .w "late"] else [.w "unit", .w U.name]
def Un.words (U : Un) : List Str := if U.late = true then ["unit", U.name, "late"] else ["unit", U.name]
def cellP (p : Str × Int) : List Pt := [.w "cell", .w p.1, .n p.2]
def Un.bps (U : Un) : List (List Pt × List Rw) := U.blocks.map fun B => (B.headP, B.rows)
def Un.parts (U : Un) : List (List Pt) := (U.headP :: U.cells.map cellP) ++ U.bps.flatMap fun b => b.1 :: b.2.map Rw.parts
def Un.sec (U : Un) : Sec := ⟨numb 0 (U.headP :: U.cells.map cellP), secB (1 + U.cells.length) U.bps⟩
structure BkS (cells : List Str) (B : Bk) : Prop where
  kind : B.kind ∈ kindW
  name : (B.kind = "start" ∧ B.name = "") ∨ (B.kind ≠ "start" ∧ isName B.name = true)
  ne : B.rows ≠ []
  many : B.rows.length ≤ 600
  fit : ∀ r ∈ B.rows, RwFit r
  ops : ∀ r ∈ B.rows, opFault cells (decide (B.kind ≠ "start")) r.ops = ""
  skip : ∀ (i : Nat) (r : Rw), B.rows[i]? = some r → wrongSkip r ((B.rows.length : Int) - 1 - i) = false
structure UnS (U : Un) : Prop where
  name : isName U.name = true
  nc : U.cells.length ≤ 9
  cn : (U.cells.map (·.1)).Nodup
  cell : ∀ p ∈ U.cells, isName p.1 = true ∧ p.2.natAbs ≤ 999999999
  nb : U.blocks.length ≤ 20
  bn : (U.blocks.map Bk.name).Nodup
  bk : ∀ B ∈ U.blocks, BkS (U.cells.map (·.1)) B
structure BkF (B : Bk) : Prop where
  kind : B.kind ∈ kindW
  name : (B.kind = "start" ∧ B.name = "") ∨ (B.kind ≠ "start" ∧ isName B.name = true)
  many : B.rows.length ≤ 900
  fit : ∀ r ∈ B.rows, RwFit r
/-- a unit whose lines all have their form -/
structure UnF (U : Un) : Prop where
  name : isName U.name = true
  nc : U.cells.length ≤ 9
  cell : ∀ p ∈ U.cells, isName p.1 = true ∧ p.2.natAbs ≤ 999999999
  nb : U.blocks.length ≤ 20
  bk : ∀ B ∈ U.blocks, BkF B
theorem UnS.f {U : Un} (h : UnS U) : UnF U := ⟨h.name, h.nc, h.cell, h.nb, fun B hB => let b := h.bk B hB; ⟨b.kind, b.name, Nat.le_trans b.many (by decide), b.fit⟩⟩
theorem kind_cases {k : Str} (h : k ∈ kindW) : (k = "start") ∨ (k ≠ "start" ∧ headTx k ∈ [("routine" : Str), "inner"] ∧ (if headTx k = "routine" then ("shared" : Str) else headTx k) = k) := by
  simp only [kindW, List.mem_cons, List.not_mem_nil, or_false] at h
  rcases h with rfl | rfl | rfl
  · exact .inr (by decide +kernel)
  · exact .inr (by decide +kernel)
  · exact .inl rfl
theorem head_line {B : Bk} (k : B.kind ∈ kindW) (n : (B.kind = "start" ∧ B.name = "") ∨ (B.kind ≠ "start" ∧ isName B.name = true)) : LnOk B.head B.words B.headP ∧ headW B.words ∈ unitH ∧ Um.headP B.headP ∈ unitH := by
  unfold Bk.head Bk.words Bk.headP
  rcases kind_cases k with h | ⟨h, h2, _⟩
  · rw [if_pos h, if_pos h, if_pos h]
    refine ⟨?_, by decide +kernel, by decide +kernel⟩
    exact ln_of (ws := ["start"]) (by simp) (fun w hw => plain_lit _ (by rw [List.mem_singleton.mp hw]; decide +kernel)) (parts_ok (fs := [["start"]]) (f := ["start"]) (by decide +kernel) (slots_fst rfl (fz (by decide +kernel))) (go_cons (part_lit _ (by decide +kernel)) rfl))
  · rw [if_neg h, if_neg h, if_neg h]
    have hn : isName B.name = true := by
      rcases n with ⟨z, _⟩ | ⟨_, z⟩
      · exact absurd z h
      · exact z
    have e : headTx B.kind ++ " " ++ B.name = Txt.join " " [headTx B.kind, B.name] := by rw [join_eq]; rfl
    rw [e]
    simp only [List.mem_cons, List.not_mem_nil, or_false] at h2
    have hu : headTx B.kind ∈ unitH := by rcases h2 with z | z <;> rw [z] <;> decide +kernel
    refine ⟨ln_of (by simp) (fun w hw => ?_) ?_, hu, hu⟩
    · simp only [List.mem_cons, List.not_mem_nil, or_false] at hw
      rcases hw with rfl | rfl
      · exact plain_lit _ (by rcases h2 with z | z <;> rw [z] <;> decide +kernel)
      · exact plain_name hn
    · have f1 : fitsW B.name "NAME" = true := fit_slot (by decide +kernel)
      rcases h2 with z | z <;> rw [z]
      · exact parts_ok (fs := [["routine", "NAME"]]) (f := ["routine", "NAME"]) (by show unitG.forms.lookup ("routine" : Str) = _; decide +kernel) (slots_fst rfl (fz (by
          simp only [List.zip_cons_cons, List.zip_nil_right, List.all_cons, List.all_nil, Bool.and_true, Bool.and_eq_true]
          exact ⟨fit_lit _ (by decide +kernel), f1⟩))) (go_cons (part_lit _ (by decide +kernel)) (go_cons (part_name hn) rfl))
      · exact parts_ok (fs := [["inner", "NAME"]]) (f := ["inner", "NAME"]) (by show unitG.forms.lookup ("inner" : Str) = _; decide +kernel) (slots_fst rfl (fz (by
          simp only [List.zip_cons_cons, List.zip_nil_right, List.all_cons, List.all_nil, Bool.and_true, Bool.and_eq_true]
          exact ⟨fit_lit _ (by decide +kernel), f1⟩))) (go_cons (part_lit _ (by decide +kernel)) (go_cons (part_name hn) rfl))
theorem unit_line {U : Un} (h : isName U.name = true) : LnOk (unitLine U) U.words U.headP ∧ headW U.words = "unit" ∧ Um.headP U.headP = "unit" := by
  have l1 : ("unit " : Str) = "unit" ++ " " := by decide +kernel
  have l2 : (" late" : Str) = " " ++ "late" := by decide +kernel
  have f1 : fitsW U.name "NAME" = true := fit_slot (by decide +kernel)
  unfold unitLine Un.words Un.headP
  by_cases c : U.late = true
  · rw [if_pos c, if_pos c, if_pos c]
    refine ⟨?_, rfl, rfl⟩
    have e : "unit " ++ U.name ++ " late" = Txt.join " " ["unit", U.name, "late"] := by rw [join_eq, sj2, sj2, sj1, l1, l2]; simp only [app_assoc]
    rw [e]
    refine ln_of (by simp) (fun w hw => ?_) ?_
    · simp only [List.mem_cons, List.not_mem_nil, or_false] at hw
      rcases hw with rfl | rfl | rfl
      · exact plain_lit _ (by decide +kernel)
      · exact plain_name h
      · exact plain_lit _ (by decide +kernel)
    · exact parts_ok (fs := [["unit", "NAME"], ["unit", "NAME", "late"]]) (f := ["unit", "NAME", "late"]) (by show unitG.forms.lookup ("unit" : Str) = _; decide +kernel) (slots_snd (by show (2 : Nat) ≠ 3; decide) rfl (fz (by
          simp only [List.zip_cons_cons, List.zip_nil_right, List.all_cons, List.all_nil, Bool.and_true, Bool.and_eq_true]
          exact ⟨fit_lit _ (by decide +kernel), f1, fit_lit _ (by decide +kernel)⟩))) (go_cons (part_lit _ (by decide +kernel)) (go_cons (part_name h) (go_cons (part_lit _ (by decide +kernel)) rfl)))
  · rw [if_neg c, if_neg c, if_neg c]
    refine ⟨?_, rfl, rfl⟩
    have e : "unit " ++ U.name = Txt.join " " ["unit", U.name] := by rw [join_eq, sj2, sj1, l1]
    rw [e]
    refine ln_of (by simp) (fun w hw => ?_) ?_
    · simp only [List.mem_cons, List.not_mem_nil, or_false] at hw
      rcases hw with rfl | rfl
      · exact plain_lit _ (by decide +kernel)
      · exact plain_name h
    · exact parts_ok (fs := [["unit", "NAME"], ["unit", "NAME", "late"]]) (f := ["unit", "NAME"]) (by show unitG.forms.lookup ("unit" : Str) = _; decide +kernel) (slots_fst rfl (fz (by
          simp only [List.zip_cons_cons, List.zip_nil_right, List.all_cons, List.all_nil, Bool.and_true, Bool.and_eq_true]
          exact ⟨fit_lit _ (by decide +kernel), f1⟩))) (go_cons (part_lit _ (by decide +kernel)) (go_cons (part_name h) rfl))
theorem cell_line {p : Str × Int} (h : isName p.1 = true ∧ p.2.natAbs ≤ 999999999) : LnOk (cellLine p) ["cell", p.1, nt p.2] (cellP p) := by
  have l1 : ("cell " : Str) = "cell" ++ " " := by decide +kernel
  have e : cellLine p = Txt.join " " ["cell", p.1, nt p.2] := by unfold cellLine; rw [join_eq, sj2, sj2, sj1, l1]; simp only [app_assoc]
  rw [e]
  refine ln_of (by simp) (fun w hw => ?_) ?_
  · simp only [List.mem_cons, List.not_mem_nil, or_false] at hw
    rcases hw with rfl | rfl | rfl
    · exact plain_lit _ (by decide +kernel)
    · exact plain_name h.1
    · exact plain_nt _
  · exact parts_ok (fs := [["cell", "NAME", "N"]]) (f := ["cell", "NAME", "N"]) (by show unitG.forms.lookup ("cell" : Str) = _; decide +kernel) (slots_fst rfl (fz (by
          simp only [List.zip_cons_cons, List.zip_nil_right, List.all_cons, List.all_nil, Bool.and_true, Bool.and_eq_true]
          exact ⟨fit_lit _ (by decide +kernel), fit_slot (by decide +kernel), fit_slot (by decide +kernel)⟩))) (go_cons (part_lit _ (by decide +kernel)) (go_cons (part_name h.1) (go_cons (part_num (.inl rfl) h.2) rfl)))
theorem blocks_next : ∀ (bs : List Bk) {i : Nat} {rank : Int}, (∀ B ∈ bs, B.kind ∈ kindW ∧ ((B.kind = "start" ∧ B.name = "") ∨ (B.kind ≠ "start" ∧ isName B.name = true)) ∧ ∀ r ∈ B.rows, RwFit r) → 0 < i → rank ≤ 2 →
    parseL unitG i rank (bs.flatMap Bk.lines) = .inr ((bs.map fun B => (B.headP, B.rows)).flatMap fun b => b.1 :: b.2.map Rw.parts)
  | [], _, _, _, _, _ => rfl
  | B :: bs, i, rank, h, hi, hr => by
    obtain ⟨h1, h2, h3⟩ := h B List.mem_cons_self
    obtain ⟨l, m, _⟩ := head_line h1 h2
    rw [List.flatMap_cons, List.map_cons, List.flatMap_cons]
    refine line_next l (may_head m hi hr) ?_
    rw [rank_head _ m]
    exact rows_next B.rows h3 (by omega) (blocks_next bs (fun C hC => h C (List.mem_cons_of_mem _ hC)) (by omega) (by decide))
theorem cells_next : ∀ (cs : List (Str × Int)) {i : Nat} {rank : Int} {r : List Str} {L : List (List Pt)}, (∀ p ∈ cs, isName p.1 = true ∧ p.2.natAbs ≤ 999999999) → 0 < i → rank ≤ 1 → (∀ rk : Int, rk ≤ 1 → parseL unitG (i + cs.length) rk r = .inr L) →
    parseL unitG i rank (cs.map cellLine ++ r) = .inr (cs.map cellP ++ L)
  | [], _, rank, _, _, _, _, hr, h => h rank hr
  | p :: cs, i, rank, r, L, hc, hi, hr, h => by
    refine line_next (cell_line (hc p List.mem_cons_self)) (may_cell hi hr) ?_
    have e : rankOf unitG (headW ["cell", p.1, nt p.2]) = 1 := by show rankOf unitG "cell" = 1; decide +kernel
    rw [e]
    refine cells_next cs (fun q hq => hc q (List.mem_cons_of_mem _ hq)) (by omega) (by decide) (fun rk hk => ?_)
    rw [show i + 1 + cs.length = i + (p :: cs).length by rw [List.length_cons]; omega]
    exact h rk hk
theorem UnF.blk {U : Un} (h : UnF U) : ∀ B ∈ U.blocks, B.kind ∈ kindW ∧ ((B.kind = "start" ∧ B.name = "") ∨ (B.kind ≠ "start" ∧ isName B.name = true)) ∧ ∀ r ∈ B.rows, RwFit r := fun B hB => ⟨(h.bk B hB).kind, (h.bk B hB).name, (h.bk B hB).fit⟩
theorem lines_free {U : Un} (h : UnF U) : ∀ z ∈ U.lines, 10 ∉ tl z := fun z hz => by
  unfold Un.lines at hz
  rcases List.mem_cons.mp hz with rfl | hz
  · exact (unit_line h.name).1.free
  rcases List.mem_append.mp hz with hz | hz
  · obtain ⟨p, hp, rfl⟩ := List.mem_map.mp hz
    exact (cell_line (h.cell p hp)).free
  · obtain ⟨B, hB, hz⟩ := List.mem_flatMap.mp hz
    obtain ⟨h1, h2, h3⟩ := h.blk B hB
    unfold Bk.lines at hz
    rcases List.mem_cons.mp hz with rfl | hz
    · exact (head_line h1 h2).1.free
    · obtain ⟨r, hr, rfl⟩ := List.mem_map.mp hz
      exact (row_line (h3 r hr)).free
theorem parse_unit {U : Un} (h : UnF U) : parseT unitG U.text = .inr U.parts := by
  unfold parseT Un.text
  rw [split_join (s := 10) (S := []) (by decide +kernel) (by decide +kernel) (by unfold Un.lines; simp) (lines_free h)]
  obtain ⟨l, m, _⟩ := unit_line h.name
  unfold Un.lines
  refine line_next l (by rw [m]; decide +kernel) ?_
  have e : min (rankOf unitG (headW U.words)) 2 = 0 := by rw [m]; decide +kernel
  rw [e]
  exact cells_next U.cells h.cell (by decide) (by decide) fun rk hk => blocks_next U.blocks h.blk (by omega) (by omega)
theorem unit_headP (U : Un) : Um.headP U.headP = "unit" := by unfold Un.headP; by_cases c : U.late = true <;> simp [c, Um.headP]
theorem sec_unit {U : Un} (h : UnF U) : SecR unitH 0 ⟨[], []⟩ U.parts U.sec := by
  unfold Un.parts
  refine sec_ahead (U.headP :: U.cells.map cellP) (fun p hp => ?_) ?_
  · rcases List.mem_cons.mp hp with rfl | hp
    · rw [unit_headP]; decide +kernel
    · obtain ⟨q, hq, rfl⟩ := List.mem_map.mp hp
      show ("cell" : Str) ∉ unitH
      decide +kernel
  · rw [List.nil_append, show 0 + (U.headP :: U.cells.map cellP).length = 1 + U.cells.length by rw [List.length_cons, List.length_map]; omega]
    have := sec_blocks U.bps (i := 1 + U.cells.length) (a := numb 0 (U.headP :: U.cells.map cellP)) (done := []) fun b hb => by
      obtain ⟨B, hB, rfl⟩ := List.mem_map.mp hb
      obtain ⟨h1, h2, h3⟩ := h.blk B hB
      exact ⟨(head_line h1 h2).2.2, h3⟩
    rw [List.nil_append] at this
    exact this
theorem parts_lineP {U : Un} : ∀ ps ∈ U.parts, LineP ps := fun ps hp => by
  unfold Un.parts at hp
  rcases List.mem_append.mp hp with hp | hp
  · rcases List.mem_cons.mp hp with rfl | hp
    · unfold Un.headP; by_cases c : U.late = true <;> simp only [c, if_true, if_false] <;> exact ⟨_, _, rfl⟩
    · obtain ⟨q, hq, rfl⟩ := List.mem_map.mp hp
      exact ⟨_, _, rfl⟩
  · obtain ⟨b, hb, hp⟩ := List.mem_flatMap.mp hp
    obtain ⟨B, hB, rfl⟩ := List.mem_map.mp hb
    rcases List.mem_cons.mp hp with rfl | hp
    · show LineP B.headP
      unfold Bk.headP
      by_cases c : B.kind = "start"
      · rw [if_pos c]; exact ⟨_, _, rfl⟩
      · rw [if_neg c]; exact ⟨_, _, rfl⟩
    · obtain ⟨r, hr, rfl⟩ := List.mem_map.mp hp
      exact row_lineP r
theorem cells_sec (U : Un) : U.sec.cells = numb 1 (U.cells.map cellP) := by
  unfold Sec.cells Un.sec
  show (numb 0 (U.headP :: U.cells.map cellP)).filter _ = _
  rw [numb, List.filter_cons, if_neg (by show ¬ decide (Um.headP U.headP = "cell") = true; rw [unit_headP]; decide +kernel)]
  rw [List.filter_eq_self]
  intro e he
  obtain ⟨q, hq, z⟩ := List.mem_map.mp (numb_mem he).1
  rw [← z]
  exact decide_eq_true (show ("cell" : Str) = "cell" from rfl)
theorem names_sec (U : Un) : U.sec.names = U.cells.map (·.1) := by
  unfold Sec.names
  rw [cells_sec]
  have : (numb 1 (U.cells.map cellP)).map (fun e => nameP e.2) = ((numb 1 (U.cells.map cellP)).map (·.2)).map nameP := by rw [List.map_map]; rfl
  rw [this, numb_snd, List.map_map]
  rfl
theorem wide_le {U : Un} (h : UnF U) : wide U.bps ≤ 20 * 901 := by
  unfold wide
  have h1 : ∀ n ∈ U.bps.map (fun b => b.2.length + 1), n ≤ 901 := fun n hn => by
    obtain ⟨b, hb, rfl⟩ := List.mem_map.mp hn
    obtain ⟨B, hB, rfl⟩ := List.mem_map.mp hb
    have := (h.bk B hB).many
    show B.rows.length + 1 ≤ 901; omega
  have h2 := sum_le h1
  have h3 : (U.bps.map fun b => b.2.length + 1).length ≤ 20 := by unfold Un.bps; rw [List.length_map, List.length_map]; exact h.nb
  exact Nat.le_trans h2 (Nat.mul_le_mul_right _ h3)
theorem secOk_unit {U : Un} (h : UnF U) : SecOk U.sec where
  cells := fun e he => by
    rw [cells_sec] at he
    obtain ⟨q, hq, z⟩ := List.mem_map.mp (numb_mem he).1
    exact ⟨q.1, q.2, z.symm⟩
  lines := fun e he => parts_lineP (U := U) _ (List.mem_append_left _ (numb_mem he).1)
  la := by
    have e := congrArg List.length (numb_snd (U.headP :: U.cells.map cellP) 0)
    rw [List.length_map, List.length_cons, List.length_map] at e
    show (numb 0 _).length ≤ _
    have := h.nc
    omega
  ia := fun e he => by
    have h1 := (numb_mem he).2
    rw [List.length_cons, List.length_map] at h1
    have := h.nc
    omega
  lb := by
    have e := congrArg List.length (secB_snd U.bps (1 + U.cells.length))
    have e2 : U.bps.length = U.blocks.length := List.length_map ..
    rw [List.length_map] at e
    show (secB _ _).length ≤ _
    have := h.nb
    omega
  ib := fun b hb => by
    obtain ⟨h1, h2⟩ := secB_mem hb
    obtain ⟨B, hB, z⟩ := List.mem_map.mp h1
    have h3 := wide_le h
    have h4 := h.nc
    have h5 := (h.bk B hB).many
    rw [← z]
    exact ⟨by omega, Nat.le_trans h5 (by decide)⟩
theorem headOk_bk {B : Bk} (k : B.kind ∈ kindW) : HeadOk B.headP := by
  unfold Bk.headP
  rcases kind_cases k with z | ⟨z, h2, _⟩
  · rw [if_pos z]; exact .inr ⟨_, rfl⟩
  · rw [if_neg z]
    exact .inl ⟨_, _, _, rfl, fun e => by rw [e] at h2; exact absurd h2 (by decide +kernel)⟩
theorem key_bk {B : Bk} (k : B.kind ∈ kindW) (n : (B.kind = "start" ∧ B.name = "") ∨ (B.kind ≠ "start" ∧ isName B.name = true)) : keyOf B.headP = B.name := by
  unfold Bk.headP
  rcases kind_cases k with z | ⟨z, h2, _⟩
  · rw [if_pos z]
    rcases n with ⟨_, n⟩ | ⟨n, _⟩
    · rw [n]; rfl
    · exact absurd z n
  · rw [if_neg z]
    show (if headTx B.kind ≠ "start" then B.name else "") = B.name
    rw [if_pos (fun e => by rw [e] at h2; exact absurd h2 (by decide +kernel))]
theorem start_bk {B : Bk} (k : B.kind ∈ kindW) : decide (Um.headP B.headP ≠ "start") = decide (B.kind ≠ "start") := by
  unfold Bk.headP
  rcases kind_cases k with z | ⟨z, h2, _⟩
  · rw [if_pos z, z]; rfl
  · rw [if_neg z]
    show decide (headTx B.kind ≠ "start") = _
    rw [decide_eq_true z]
    exact decide_eq_true (fun e => by rw [e] at h2; exact absurd h2 (by decide +kernel))
theorem declF_none {most : Int} : ∀ {l : List De} {t : Int} {seen : List Str}, (∀ d ∈ l, d.n = 1) → t + l.length ≤ most → (seen ++ l.map De.name).Nodup → declF most t seen l = none
  | [], _, _, _, _, _ => rfl
  | d :: r, t, seen, h1, h2, h3 => by
    have hd := h1 d List.mem_cons_self
    rw [List.length_cons] at h2
    unfold declF
    rw [hd, if_neg (by omega), if_neg (fun z => by
      have := (List.nodup_append.mp h3).2.2 d.name z d.name (by rw [List.map_cons]; exact List.mem_cons_self)
      exact this rfl)]
    exact declF_none (fun e he => h1 e (List.mem_cons_of_mem _ he)) (by omega) (by rw [List.append_assoc]; exact h3)
theorem rowsFault_none {cells : List Str} {arg : Bool} {rows : List Rw} : ∀ {l : List Rw} {i : Nat}, (∀ j r, l[j]? = some r → rowFault cells arg rows (i + j) r = "") → rowsFault cells arg rows i l = none
  | [], _, _ => rfl
  | r :: l, i, h => by
    have h0 := h 0 r rfl
    rw [Nat.add_zero] at h0
    unfold rowsFault
    rw [if_neg (fun z => z h0)]
    exact rowsFault_none fun j x hx => by
      have := h (j + 1) x hx
      rw [show i + 1 + j = i + (j + 1) by omega]; exact this
theorem blocksFault_none {cells : List Str} : ∀ {l : List Bk} {i c : Nat} {seen : List Str}, (∀ B ∈ l, BkS cells B) → c + l.length ≤ 20 → (seen ++ l.map Bk.name).Nodup → blocksFault cells c seen (secB i (l.map fun B => (B.headP, B.rows))) = none
  | [], _, _, _, _, _, _ => rfl
  | B :: l, i, c, seen, h1, h2, h3 => by
    have hb := h1 B List.mem_cons_self
    rw [List.length_cons] at h2
    rw [List.map_cons, secB]
    unfold blocksFault
    show (if 20 ≤ c then _ else if keyOf B.headP ∈ seen then _ else if B.rows = [] then _ else _) = none
    rw [if_neg (by omega), key_bk hb.kind hb.name, if_neg (fun z => (List.nodup_append.mp h3).2.2 B.name z B.name (by rw [List.map_cons]; exact List.mem_cons_self) rfl), if_neg hb.ne]
    have e : rowsFault cells (decide (Um.headP B.headP ≠ "start")) B.rows 0 B.rows = none := rowsFault_none fun j r hr => by
      have hj : j < B.rows.length := (List.getElem?_eq_some_iff.mp hr).1
      have := hb.many
      unfold rowFault
      rw [Nat.zero_add, if_neg (by omega), start_bk hb.kind, hb.ops r (List.mem_of_getElem? hr), if_neg (fun z => z rfl), hb.skip j r hr]
      rfl
    show (match rowsFault cells (decide (Um.headP B.headP ≠ "start")) B.rows 0 B.rows with | some (j, f) => some (i + 1 + j, f) | none => _) = none
    rw [e]
    exact blocksFault_none (fun C hC => h1 C (List.mem_cons_of_mem _ hC)) (by omega) (by rw [List.append_assoc]; exact h3)
theorem fault_unit {U : Un} (h : UnS U) : unitFault U.sec = none := by
  unfold unitFault
  have e : declF 9 0 [] U.sec.decl = none := by
    refine declF_none (fun d hd => ?_) ?_ ?_
    · obtain ⟨e, he, rfl⟩ := List.mem_map.mp hd; rfl
    · unfold Sec.decl
      rw [cells_sec, List.length_map]
      have e := congrArg List.length (numb_snd (U.cells.map cellP) 1)
      rw [List.length_map, List.length_map] at e
      have := h.nc
      omega
    · rw [List.nil_append]
      have : U.sec.decl.map De.name = U.sec.names := by unfold Sec.decl Sec.names; rw [List.map_map]; rfl
      rw [this, names_sec]
      exact h.cn
  rw [e, names_sec]
  exact blocksFault_none h.bk (by have := h.nb; omega) (by rw [List.nil_append]; exact h.bn)
theorem unOf_unit {U : Un} (h : UnS U) : unOf U.sec = U := by
  obtain ⟨n, lt, cs, bs⟩ := U
  unfold unOf
  have e1 : (Un.sec ⟨n, lt, cs, bs⟩).headP = Un.headP ⟨n, lt, cs, bs⟩ := rfl
  rw [e1]
  have e2 : nameP (Un.headP ⟨n, lt, cs, bs⟩) = n := by unfold Un.headP; cases lt <;> rfl
  have e3 : decide ((Un.headP ⟨n, lt, cs, bs⟩).length = 3) = lt := by unfold Un.headP; cases lt <;> rfl
  have e4 : (Un.sec ⟨n, lt, cs, bs⟩).cells.map (fun e => cellOf e.2) = cs := by
    rw [cells_sec]
    have : (numb 1 (cs.map cellP)).map (fun e => cellOf e.2) = ((numb 1 (cs.map cellP)).map (·.2)).map cellOf := by rw [List.map_map]; rfl
    show (numb 1 (cs.map cellP)).map (fun e => cellOf e.2) = cs
    rw [this, numb_snd, List.map_map]
    exact (List.map_congr_left fun p _ => rfl).trans (List.map_id _)
  have e5 : (Un.sec ⟨n, lt, cs, bs⟩).blocks.map (fun b => bkOf b.2.1 b.2.2) = bs := by
    show (secB (1 + cs.length) (bs.map fun B => (B.headP, B.rows))).map (fun b => bkOf b.2.1 b.2.2) = bs
    have : ∀ l : List (Nat × List Pt × List Rw), l.map (fun b => bkOf b.2.1 b.2.2) = (l.map (·.2)).map (fun b => bkOf b.1 b.2) := fun l => by rw [List.map_map]; rfl
    rw [this, secB_snd, List.map_map]
    refine (List.map_congr_left fun B hB => ?_).trans (List.map_id _)
    have hb := h.bk B hB
    obtain ⟨k, x, rs⟩ := B
    show bkOf (Bk.headP ⟨k, x, rs⟩) rs = ⟨k, x, rs⟩
    unfold bkOf
    rw [key_bk hb.kind hb.name]
    have : (if Um.headP (Bk.headP ⟨k, x, rs⟩) = "routine" then ("shared" : Str) else Um.headP (Bk.headP ⟨k, x, rs⟩)) = k := by
      unfold Bk.headP
      rcases kind_cases hb.kind with z | ⟨z, _, h3⟩
      · have z : k = "start" := z
        subst z
        show (if Um.headP (if ("start" : Str) = "start" then [Pt.w "start"] else _) = "routine" then ("shared" : Str) else Um.headP (if ("start" : Str) = "start" then [Pt.w "start"] else _)) = "start"
        rw [if_pos (show ("start" : Str) = "start" from rfl)]
        exact if_neg (show ¬ ("start" : Str) = "routine" by decide +kernel)
      · have z : k ≠ "start" := z
        show (if Um.headP (if k = "start" then _ else _) = "routine" then _ else Um.headP (if k = "start" then _ else _)) = k
        rw [if_neg z]; exact h3
    rw [this]
  rw [e2, e3, e4, e5]
theorem parts_len {U : Un} (h : UnF U) : U.parts.length ≤ 100000 := by
  unfold Un.parts
  rw [List.length_append, List.length_cons, List.length_map, List.length_flatMap]
  have h1 := wide_le h
  have h2 := h.nc
  have e : (U.bps.map fun b => (b.1 :: b.2.map Rw.parts).length) = U.bps.map fun b => b.2.length + 1 := List.map_congr_left fun b _ => by rw [List.length_cons, List.length_map]
  rw [e]
  unfold wide at h1
  omega
/-- Unit.read of a sound unit's text -/
theorem spRead_of {K : PySem.W.Frag} {H : Hp} {Q : VK} {E : XK} {U : Un} (h : UnS U) (lt : U.text.length ≤ 99000) (q : ∀ u H', Same H H' → UnAt K H' u U → Q (.ref u) H') : spRead K [.ref (UC K), .str U.text] H Q E := by
  refine ⟨U.text, rfl, lt, fun i c e => ?_, fun ls e => ?_⟩
  · rw [parse_unit h.f] at e; cases e
  · rw [parse_unit h.f] at e
    cases e
    refine ⟨U.sec, sec_unit h.f, parts_lineP, parts_len h.f, secOk_unit h.f, fun b hb => ?_, fun i c e => ?_, fun _ => ⟨?_, fun u H' s a => q u H' s (by rw [unOf_unit h] at a; exact a)⟩⟩
    · obtain ⟨h1, _⟩ := secB_mem hb
      obtain ⟨B, hB, z⟩ := List.mem_map.mp h1
      rw [← z]; exact headOk_bk (h.bk B hB).kind
    · rw [fault_unit h] at e; cases e
    · have : ∃ x r, U.headP = .w "unit" :: .w x :: r ∧ r.length ≤ 1000 := by
        unfold Un.headP
        by_cases c : U.late = true
        · rw [if_pos c]; exact ⟨_, _, rfl, by decide⟩
        · rw [if_neg c]; exact ⟨_, _, rfl, by decide⟩
      obtain ⟨x, r, e, l⟩ := this
      exact ⟨0, "unit", x, r, _, by unfold Un.sec; rw [e]; rfl, l⟩
/-- Unit.read of a unit's text that has a fault -/
theorem spRead_fault {K : PySem.W.Frag} {H : Hp} {Q : VK} {E : XK} {U : Un} {i : Nat} {c : Str} (h : UnF U) (lt : U.text.length ≤ 99000) (hf : unitFault U.sec = some (i, c)) (qe : ∀ H' d, Same H H' → H' d = some (.xd [("cause", .str c), ("row", .int (i : Nat))]) → E (.ref (BT K)) (some d) H') :
    spRead K [.ref (UC K), .str U.text] H Q E := by
  refine ⟨U.text, rfl, lt, fun j z e => ?_, fun ls e => ?_⟩
  · rw [parse_unit h] at e; cases e
  · rw [parse_unit h] at e
    cases e
    refine ⟨U.sec, sec_unit h, parts_lineP, parts_len h, secOk_unit h, fun b hb => ?_, fun j z e => ?_, fun e => ?_⟩
    · obtain ⟨h1, _⟩ := secB_mem hb
      obtain ⟨B, hB, z⟩ := List.mem_map.mp h1
      rw [← z]; exact headOk_bk (h.bk B hB).kind
    · rw [hf] at e; cases e; exact qe
    · rw [hf] at e; cases e
end K88
namespace K88
open PySem PySem.Spec PyProof.Rows Cm Um TL
open L2 hiding Same
/-! ### sizes and signs of what is written -/
def Asc (x : Str) : Prop := ∀ c ∈ tl x, c < 128
theorem asc_app {a b : Str} (h : Asc a) (g : Asc b) : Asc (a ++ b) := fun c hc => by
  rw [tl_append] at hc
  exact (List.mem_append.mp hc).elim (h c) (g c)
theorem asc_name {x : Str} (h : isName x = true) : Asc x := fun c hc => by
  obtain ⟨a, r, e, _, _, h3⟩ := isName_iff.mp h
  rw [e] at hc
  rcases h3 c hc with z | z <;> omega
theorem asc_nt (n : Int) : Asc (nt n) := fun c hc => by
  by_cases hn : n < 0
  · rw [tl_nt_neg hn] at hc
    rcases List.mem_cons.mp hc with rfl | hc
    · decide
    · have := numL_digits _ c hc; omega
  · obtain ⟨m, rfl⟩ : ∃ m : Nat, n = m := ⟨n.natAbs, by omega⟩
    rw [tl_nt_nat] at hc
    have := numL_digits _ c hc; omega
theorem strOk_asc {x : Str} (h : Asc x) : PyData.strOk x = true := by
  unfold PyData.strOk
  rw [← Array.all_toList, List.all_eq_true]
  intro c hc
  have := h c hc
  exact decide_eq_true (by omega)
theorem asc_join {y : Str} (hy : Asc y) : ∀ {ws : List Str}, (∀ w ∈ ws, Asc w) → Asc (Str.join y ws)
  | [], _ => by intro c z; cases z
  | [x], h => h x List.mem_cons_self
  | x :: z :: r, h => by
    rw [sj2]
    exact asc_app (asc_app (h x List.mem_cons_self) hy) (asc_join hy fun w hw => h w (List.mem_cons_of_mem _ hw))
theorem name_len {x : Str} (h : isName x = true) : x.length ≤ 12 := by
  obtain ⟨a, r, e, h2, _⟩ := isName_iff.mp h
  rw [len_tl, e]; exact h2
theorem nt_len10 {n : Int} (h : n.natAbs ≤ 999999999) : (nt n).length ≤ 10 := (numeral_text (numeral_nt h).1).2.2
theorem val_len {v : Val} (h : v.fit) : v.tx.length ≤ 30 ∧ Asc v.tx := by
  cases v with
  | num n => exact ⟨Nat.le_trans (nt_len10 h) (by decide), asc_nt n⟩
  | arg => exact ⟨by decide +kernel, by unfold Asc; decide +kernel⟩
  | place x k =>
    have h1 := name_len h.1
    have h2 := nt_len10 (n := k) (by have := h.2; omega)
    have e : (Val.place x k).tx.length = x.length + (("." : Str).length + (nt k).length) := by show (x ++ ("." ++ nt k)).length = _; rw [app_len, app_len]
    have e2 : (("." : Str).length) = 1 := by decide +kernel
    exact ⟨by omega, asc_app (asc_name h.1) (asc_app (by unfold Asc; decide +kernel) (asc_nt k))⟩
  | own x =>
    have h1 := name_len h
    have e : (Val.own x).tx.length = ("$" : Str).length + x.length := app_len _ _
    have e2 : (("$" : Str).length) = 1 := by decide +kernel
    exact ⟨by omega, asc_app (by unfold Asc; decide +kernel) (asc_name h)⟩
  | named x =>
    have h1 := name_len h
    have e : (Val.named x).tx.length = ("#" : Str).length + x.length := app_len _ _
    have e2 : (("#" : Str).length) = 1 := by decide +kernel
    exact ⟨by omega, asc_app (by unfold Asc; decide +kernel) (asc_name h)⟩
theorem word_len {r : Rw} (h : RwFit r) : ∀ w ∈ r.words, w.length ≤ 30 ∧ Asc w := by
  have pl : ∀ s ∈ [("tell" : Str), "set", "same", "there", "call", "end", "else", "at"], s.length ≤ 30 ∧ Asc s := by unfold Asc; decide +kernel
  have nm : ∀ {x : Str}, isName x = true → x.length ≤ 30 ∧ Asc x := fun h => ⟨Nat.le_trans (name_len h) (by decide), asc_name h⟩
  have nn : ∀ {k : Int}, k.natAbs ≤ 999999999 → (nt k).length ≤ 30 ∧ Asc (nt k) := fun h => ⟨Nat.le_trans (nt_len10 h) (by decide), asc_nt _⟩
  intro w hw
  cases r with
  | tell v =>
    simp only [Rw.words, List.mem_cons, List.not_mem_nil, or_false] at hw
    rcases hw with rfl | rfl
    · exact pl _ (by decide +kernel)
    · exact val_len h
  | set p v =>
    simp only [Rw.words, List.mem_cons, List.not_mem_nil, or_false] at hw
    rcases hw with rfl | rfl | rfl
    · exact pl _ (by decide +kernel)
    · exact val_len h.1
    · exact val_len h.2.2
  | same a b k =>
    simp only [Rw.words, List.mem_cons, List.not_mem_nil, or_false] at hw
    rcases hw with rfl | rfl | rfl | rfl | rfl
    · exact pl _ (by decide +kernel)
    · exact val_len h.1
    · exact val_len h.2.1
    · exact pl _ (by decide +kernel)
    · exact nn h.2.2
  | there x k =>
    simp only [Rw.words, List.mem_cons, List.not_mem_nil, or_false] at hw
    rcases hw with rfl | rfl | rfl | rfl
    · exact pl _ (by decide +kernel)
    · exact nm h.1
    · exact pl _ (by decide +kernel)
    · exact nn h.2
  | call x v t =>
    rw [wd_call] at hw
    by_cases z : t = 0
    · rw [if_pos z] at hw
      simp only [List.mem_cons, List.not_mem_nil, or_false] at hw
      rcases hw with rfl | rfl | rfl
      · exact pl _ (by decide +kernel)
      · exact nm h.1
      · exact val_len h.2.1
    · rw [if_neg z] at hw
      simp only [List.mem_cons, List.not_mem_nil, or_false] at hw
      rcases hw with rfl | rfl | rfl | rfl | rfl
      · exact pl _ (by decide +kernel)
      · exact nm h.1
      · exact val_len h.2.1
      · exact pl _ (by decide +kernel)
      · exact nn (by have := h.2.2; omega)
  | fin =>
    simp only [Rw.words, List.mem_cons, List.not_mem_nil, or_false] at hw
    rw [hw]; exact pl _ (by decide +kernel)
theorem join_len {y : Str} {n : Nat} (hy : y.length = 1) {ws : List Str} (h : ∀ w ∈ ws, w.length ≤ n) : (Txt.join y ws).length ≤ ws.length * (n + 1) := by
  rw [join_eq]
  have h1 := StrLaws.join_length_le y ws
  have h2 : (ws.map (·.length)).sum ≤ (ws.map (·.length)).length * n := sum_le fun k hk => by
    obtain ⟨w, hw, rfl⟩ := List.mem_map.mp hk
    exact h w hw
  rw [List.length_map] at h2
  rw [hy] at h1
  rw [Nat.mul_add]; omega
theorem words_len (r : Rw) : r.words.length ≤ 5 := by
  cases r with
  | call x v t => rw [wd_call]; split <;> simp
  | _ => simp [Rw.words]
theorem row_len {r : Rw} (h : RwFit r) : r.tx.length ≤ 155 ∧ Asc r.tx := by
  have e : ((" " : Str)).length = 1 := by decide +kernel
  rw [row_join]
  refine ⟨Nat.le_trans (join_len e fun w hw => (word_len h w hw).1) (Nat.mul_le_mul_right _ (words_len r)), ?_⟩
  rw [join_eq]
  exact asc_join (by unfold Asc; decide +kernel) fun w hw => (word_len h w hw).2
structure BkW (B : Bk) : Prop where
  kind : B.kind ∈ kindW
  name : B.kind ≠ "start" → isName B.name = true
  start : B.kind = "start" → B.name = ""
  many : B.rows.length ≤ 600
  fit : ∀ r ∈ B.rows, RwFit r
structure UnW (U : Un) : Prop where
  name : isName U.name = true
  nc : U.cells.length ≤ 9
  cell : ∀ p ∈ U.cells, isName p.1 = true ∧ p.2.natAbs ≤ 999999999
  nb : U.blocks.length ≤ 20
  bk : ∀ B ∈ U.blocks, BkW B
theorem UnS.w {U : Un} (h : UnS U) : UnW U where
  name := h.name
  nc := h.nc
  cell := h.cell
  nb := h.nb
  bk := fun B hB => by
    have b := h.bk B hB
    refine ⟨b.kind, fun z => ?_, fun z => ?_, b.many, b.fit⟩
    · rcases b.name with ⟨y, _⟩ | ⟨_, y⟩
      · exact absurd y z
      · exact y
    · rcases b.name with ⟨_, y⟩ | ⟨y, _⟩
      · exact y
      · exact absurd z y
theorem bk_len {B : Bk} (h : BkW B) : ∀ z ∈ B.lines, z.length ≤ 155 ∧ Asc z := fun z hz => by
  unfold Bk.lines at hz
  rcases List.mem_cons.mp hz with rfl | hz
  · unfold Bk.head
    by_cases c : B.kind = "start"
    · rw [if_pos c]; exact ⟨by decide +kernel, by unfold Asc; decide +kernel⟩
    · rw [if_neg c]
      have h1 := name_len (h.name c)
      have h2 : ((" " : Str)).length = 1 := by decide +kernel
      have h3 := headTx_len h.kind
      refine ⟨by rw [app_len, app_len]; omega, asc_app (asc_app ?_ (by unfold Asc; decide +kernel)) (asc_name (h.name c))⟩
      have : ∀ k ∈ kindW, Asc (headTx k) := by unfold Asc; decide +kernel
      exact this _ h.kind
  · obtain ⟨r, hr, rfl⟩ := List.mem_map.mp hz
    exact row_len (h.fit r hr)
theorem line_len {U : Un} (h : UnW U) : ∀ z ∈ U.lines, z.length ≤ 155 ∧ Asc z := fun z hz => by
  have l1 : (("unit " : Str)).length = 5 := by decide +kernel
  have l2 : ((" late" : Str)).length = 5 := by decide +kernel
  have l4 : (("cell " : Str)).length = 5 := by decide +kernel
  have l5 : ((" " : Str)).length = 1 := by decide +kernel
  have a1 : Asc ("unit " : Str) ∧ Asc (" late" : Str) ∧ Asc ("cell " : Str) ∧ Asc (" " : Str) := by unfold Asc; decide +kernel
  have hn := name_len h.name
  unfold Un.lines at hz
  rcases List.mem_cons.mp hz with rfl | hz
  · unfold unitLine
    by_cases c : U.late = true
    · rw [if_pos c]; exact ⟨by rw [app_len, app_len]; omega, asc_app (asc_app a1.1 (asc_name h.name)) a1.2.1⟩
    · rw [if_neg c]; exact ⟨by rw [app_len]; omega, asc_app a1.1 (asc_name h.name)⟩
  · rcases List.mem_append.mp hz with hz | hz
    · obtain ⟨p, hp, rfl⟩ := List.mem_map.mp hz
      obtain ⟨h1, h2⟩ := h.cell p hp
      have := name_len h1
      have := nt_len10 h2
      unfold cellLine
      exact ⟨by rw [app_len, app_len, app_len]; omega, asc_app (asc_app (asc_app a1.2.2.1 (asc_name h1)) a1.2.2.2) (asc_nt _)⟩
    · obtain ⟨B, hB, hz⟩ := List.mem_flatMap.mp hz
      exact bk_len (h.bk B hB) z hz
theorem text_len {U : Un} (h : UnW U) : U.text.length ≤ U.lines.length * 156 := join_len (by decide +kernel) fun z hz => (line_len h z hz).1
theorem lines_num {U : Un} {n : Nat} (h : ∀ B ∈ U.blocks, B.rows.length ≤ n) : U.lines.length ≤ 1 + U.cells.length + U.blocks.length * (n + 1) := by
  unfold Un.lines
  rw [List.length_cons, List.length_append, List.length_map, List.length_flatMap]
  have h1 : (U.blocks.map fun B => B.lines.length).sum ≤ (U.blocks.map fun B => B.lines.length).length * (n + 1) := sum_le fun k hk => by
    obtain ⟨B, hB, rfl⟩ := List.mem_map.mp hk
    have := h B hB
    unfold Bk.lines
    rw [List.length_cons, List.length_map]; omega
  rw [List.length_map] at h1
  omega
theorem UnW.ok {U : Un} (h : UnW U) : UnOk U where
  name := Nat.le_trans (name_len h.name) (by decide)
  cells := Nat.le_trans h.nc (by decide)
  cell := fun p hp => ⟨Nat.le_trans (name_len (h.cell p hp).1) (by decide), (h.cell p hp).2⟩
  nb := Nat.le_trans h.nb (by decide)
  bk := fun B hB => by
    have b := h.bk B hB
    refine ⟨b.kind, ?_, Nat.le_trans b.many (by decide), fun r hr => Nat.le_trans (row_len (b.fit r hr)).1 (by decide)⟩
    by_cases c : B.kind = "start"
    · rw [b.start c]; decide +kernel
    · exact Nat.le_trans (name_len (b.name c)) (by decide)
  sz := by
    have h1 := lines_num (U := U) (n := 600) fun B hB => (h.bk B hB).many
    have h2 : (U.lines.map (·.length)).sum ≤ (U.lines.map (·.length)).length * 155 := sum_le fun k hk => by
      obtain ⟨z, hz, rfl⟩ := List.mem_map.mp hk
      exact (line_len h z hz).1
    rw [List.length_map] at h2
    have h3 := h.nc
    have h4 : U.blocks.length * (600 + 1) ≤ 20 * (600 + 1) := Nat.mul_le_mul_right _ h.nb
    have h5 : U.lines.length * 155 ≤ 12030 * 155 := Nat.mul_le_mul_right _ (by omega)
    omega
  tok := by
    refine strOk_asc ?_
    unfold Un.text
    rw [join_eq]
    exact asc_join (by unfold Asc; decide +kernel) fun z hz => (line_len h z hz).2
/-! ### what is left when a part is taken -/
end K88
namespace K88
open PySem PySem.Spec PyProof.Rows Cm Um TL
open L2 hiding Same
/-! ### reading a text of lines -/
theorem takesF {X : Cx} : Takes X (fun _ _ _ _ => False) := fun u s' ⟨a, B, sI, pins, σ, H, cls, d, e, I, nb, up, sky, na, os, ag, w⟩ => w.elim
def spLRead : Sp := fun vs H Q _ => ∃ (a : Addr) (U : Un), vs = [.ref a] ∧ H a = some (.lst (U.lines.map V.str)) ∧ UnF U ∧ U.text.length ≤ 99000 ∧
  ((UnS U ∧ ∀ H', Same H H' → Q (.bl true) H') ∨ ∃ (i : Nat) (c : Str), unitFault U.sec = some (i, c) ∧ ∀ t H', Same H H' → H' t = some (.tup [.int i, .str c]) → Q (.ref t) H')
theorem join_sum : ∀ l : List Str, (l.map (·.length)).sum ≤ (Txt.join "\n" l).length := fun l => by
  rw [join_eq]
  induction l with
  | nil => exact Nat.le_refl _
  | cons a l ih =>
    cases l with
    | nil => show a.length + 0 ≤ a.length; omega
    | cons b l =>
      rw [sj2, app_len, app_len, List.map_cons, List.sum_cons]
      omega
theorem uf_lines {U : Un} (h : UnF U) : U.lines.length ≤ 20000 := by
  unfold Un.lines
  rw [List.length_cons, List.length_append, List.length_map, List.length_flatMap]
  have h1 : ∀ k ∈ U.blocks.map (fun B => B.lines.length), k ≤ 901 := fun k hk => by
    obtain ⟨B, hB, rfl⟩ := List.mem_map.mp hk
    have := (h.bk B hB).many
    unfold Bk.lines
    rw [List.length_cons, List.length_map]; omega
  have h2 := K88.sum_le h1
  rw [List.length_map] at h2
  have h3 := h.nb
  have h4 := h.nc
  have h5 : U.blocks.length * 901 ≤ 20 * 901 := Nat.mul_le_mul_right _ h3
  omega
section
variable {P : Program} {w : World} {K : PySem.W.Frag} {mg : Str → Option Value} {base : Heap} {sa : Addr} {sx : List Int}
theorem ok_Unit_str (T : Tx K mg sa sx) (W : Wx K w) : MCal P w K mg base 5 (UC K) "__str__" (spUTx K) := by
  obtain ⟨fd, F⟩ := f_Unit_str T
  refine ⟨c_Unit T, _, fd, ["self"], fnok F sc_Unit_str (fun vs H Q E h => ?_) (fun cdv A outer s H vs Q E hr h => ?_), F.bindsN fun _ _ _ _ _ _ us hl => match us, hl with | [_], _ => rfl, me_Unit_str T⟩
  · obtain ⟨u, U, rfl, _⟩ := h; rfl
  · obtain ⟨u, U, rfl, hu, ok, q⟩ := h
    refine ⟨_, (pss_one (ps_ret (pe_callTy (T := "str") SkE.call_str_str rfl (n_str T) (by decide +kernel) (pa_cons (pe_mcal0 (ok_Unit_text T W) hr (by decide) (pv 0)) pa_nil)))), ?_⟩
    obtain ⟨dx, cd, bt, h1, h2⟩ := id hu
    exact ⟨_, rfl, u, dx, _, rfl, h1, rfl, u, U, rfl, hu, ok, fun H' s => ⟨_, rfl, q H' s⟩⟩
theorem ok_l_read (T : Tx K mg sa sx) (W : Wx K w) (hP : PF P) : Cal P w K mg base 13 "_law_read" spLRead := by
  obtain ⟨fd, F⟩ := f_l_read T
  refine ⟨_, fd, ["_law_lines"], fnok F sc_l_read (fun vs H Q E h => ?_) (fun cdv A outer s H vs Q E hr h => ?_), F.bindsN fun _ _ _ _ _ _ us hl => match us, hl with | [_], _ => rfl, g__law_read T, F.kp⟩
  · obtain ⟨a, U, rfl, _⟩ := h; rfl
  · obtain ⟨a, U, rfl, ha, uf, lt, q⟩ := h
    refine ⟨_, (pss_cons (ps_set (i := 1) sc_l_read.nd rfl (by first | exact Or.inl rfl | exact Or.inr rfl) (pe_join pe_str (pv 0)))
      (pss_cons (ps_try_as (i := 3) (c := .ref (BT K)) rfl rfl sc_l_read.nd rfl rfl ⟨rfl, by decide, .inl (g_BadText T)⟩ takesF
      (fun W' pn xe tk pw => pss_one (ps_set (i := 2) sc_l_read.nd rfl (by first | exact Or.inl rfl | exact Or.inr rfl) (ClX.pe_cmeth (pe_glob (v := .ref _) rfl (g_Unit T) rfl) (cr T) (ofc T) (ok_read T W hP) (hr.mono (by decide)) (E := fun cls d H => ∀ σ : L2.St, σ.length = 4 → W' cls d σ H) (passes_len tk (fun cls d σ H l h => h σ l)) (pa_cons (pv 1) pa_nil))))
      (fun a oe cls d pn hz hf => pss_one (ps_ret (pe_tup (pa_cons (pe_xf (xfB_ok (exT T).xf) (x_noRow T) hz hf (pv 3)) (pa_cons (pe_xf (xfB_ok (exT T).xf) (x_noCause T) hz hf (pv 3)) pa_nil))))))
      (pss_one (ps_ret (pe_and (pe_cmpR op_eq (pe_mcal0 (ok_Unit_text T W) hr (by decide) (pv 2)) (pv 1) (nomark _)) (pe_one (pe_cmpR op_eq (pe_callTy (T := "str") (call_ownStr (k := 5) hr (by decide)) rfl (n_str T) (by decide +kernel) (pa_cons (pv 2) pa_nil)) (pv 1) (nomark _)))))))), ?_⟩
    have szT : U.text.length ≤ 99000 := lt
    refine ⟨⟨_, rfl⟩, _, rfl, "\n", a, U.lines, rfl, rfl, .inl (SqL.of ha), ?_, ?_⟩
    · have l3 : (("\n" : Str)).length = 1 := by decide +kernel
      rw [l3]
      have := join_sum U.lines
      have h1 := uf_lines uf
      have : (U.lines.map (·.length)).sum ≤ U.text.length := join_sum U.lines
      omega
    show tSeq _ _ _ (([some (.ref a), some (.str U.text), none, none] : L2.St)) H
    refine ⟨rfl, _, rfl, ?_⟩
    dsimp only [tNil]
    rcases q with ⟨us, q⟩ | ⟨i, c, hf, q⟩
    · refine spRead_of us lt fun u H1 s1 hu => ?_
      obtain ⟨dx, cd, bt, h1, h2⟩ := id hu
      refine ⟨_, rfl, u, dx, _, rfl, h1, rfl, u, U, rfl, hu, us.w.ok, fun H2 s2 => ⟨_, rfl, rfl, ?_⟩⟩
      refine ⟨_, rfl, tT rfl ?_⟩
      refine ⟨_, rfl, u, _, dx, _, spUTx K, rfl, s2 _ _ h1, ok_Unit_str T W, u, U, rfl, hu.same s2, us.w.ok, fun H3 s3 => ⟨_, rfl, _, rfl, rfl, ?_⟩⟩
      rw [decide_eq_true rfl]
      exact q _ ((s1.trans s2).trans s3)
    · refine spRead_fault uf lt hf fun H1 d s1 hd σ hl => ⟨true, (exT T).em, fun _ e he => ?_, fun z => by cases z⟩
      match σ, hl with
      | [x0, x1, x2, x3], _ =>
        refine ⟨_, rfl, rfl, rfl, d, _, .int i, rfl, hd, rfl, _, rfl, rfl, rfl, d, _, .str c, rfl, hd, rfl, sz1 (by simp), fun t ht => ?_⟩
        exact q t _ (s1.trans (Same.new ht)) upd_same
end
end K88
namespace K88
open PySem PySem.Spec PyProof.Rows Cm Um TL
open L2 hiding Same
/-! ### names and blocks that are drawn -/
def alnum (c : Nat) : Prop := (97 ≤ c ∧ c ≤ 122) ∨ (48 ≤ c ∧ c ≤ 57)
theorem signs_at {r : Nat} (h : r < 36) : ∃ c, (("abcdefghijklmnopqrstuvwxyz0123456789" : Str).cps.toList)[r]? = some c ∧ alnum c := by
  have : ∀ r, r < 36 → ((("abcdefghijklmnopqrstuvwxyz0123456789" : Str).cps.toList)[r]?).any (fun c => decide ((97 ≤ c ∧ c ≤ 122) ∨ (48 ≤ c ∧ c ≤ 57))) = true := by decide +kernel
  have := this r h
  cases e : (("abcdefghijklmnopqrstuvwxyz0123456789" : Str).cps.toList)[r]? with
  | none => rw [e] at this; cases this
  | some c => rw [e] at this; exact ⟨c, rfl, of_decide_eq_true (p := (97 ≤ c ∧ c ≤ 122) ∨ (48 ≤ c ∧ c ≤ 57)) this⟩
theorem lets_at {r : Nat} (h : r < 26) : (("abcdefghijklmnopqrstuvwxyz" : Str).cps.toList)[r]? = some (97 + r) := by
  rw [lets_eq, List.getElem?_map, List.getElem?_range h]; rfl
theorem digit_at {k : Nat} (h : k < 10) : tl (nt (k : Int)) = [48 + k] := by
  have : ∀ k, k < 10 → tl (nt ((k : Nat) : Int)) = [48 + k] := by decide +kernel
  exact this k h
def spName (K : PySem.W.Frag) (sa : Addr) (sx : List Int) : Sp := fun vs H Q _ => ∃ (p : Addr) (k : Nat), vs = [.ref p, .int k] ∧ k < 10 ∧ PoolAt K sa sx H p ∧ ∀ x H', isName x = true → (∃ l, tl x = l ++ [48 + k]) → Kp p H H' → PoolAt K sa sx H' p → Q (.str x) H'
section
variable {P : Program} {w : World} {K : PySem.W.Frag} {mg : Str → Option Value} {base : Heap} {sa : Addr} {sx : List Int}
theorem ok_l_name (T : Tx K mg sa sx) : Cal P w K mg base 2 "_law_name" (spName K sa sx) := by
  obtain ⟨fd, F⟩ := f_l_name T
  refine ⟨_, fd, ["_law_pool", "_law_k"], fnok F sc_l_name (fun vs H Q E h => ?_) (fun cdv A outer s H vs Q E hr h => ?_), F.bindsN fun _ _ _ _ _ _ us hl => match us, hl with | [_, _], _ => rfl, g__law_name T, F.kp⟩
  · obtain ⟨p, k, rfl, _⟩ := h; rfl
  · obtain ⟨p, k, rfl, hk, hP, q⟩ := h
    refine ⟨_, (pss_cons (ps_set (i := 2) sc_l_name.nd rfl (by first | exact Or.inl rfl | exact Or.inr rfl) pe_str)
    (pss_cons (ps_set (i := 3) sc_l_name.nd rfl (by first | exact Or.inl rfl | exact Or.inr rfl) (pe_ix ix_str (pv 2) (pe_cal (ok_l_draw T) hr (by decide) (pa_cons (pv 0) (pa_cons pe_int pa_nil))) (fun _ _ => rfl)))
    (pss_cons (ps_for PassesOwn.never rfl (pi_range1 rfl (n_range T) (pa_cons (pe_cal (ok_l_draw T) hr (by decide) (pa_cons (pv 0) (pa_cons pe_int pa_nil))) pa_nil)) (pg_name (i := 4) sc_l_name.nd rfl (by first | exact Or.inl rfl | exact Or.inr rfl))
      (pss_one (ps_set (i := 3) sc_l_name.nd rfl (by first | exact Or.inl rfl | exact Or.inr rfl) (pe_op op_add_str (pv 3) (pe_ix ix_str (pe_op op_add_str (pv 2) pe_str) (pe_cal (ok_l_draw T) hr (by decide) (pa_cons (pv 0) (pa_cons pe_int pa_nil))) (fun _ _ => rfl))))))
    (pss_one (ps_ret (pe_op op_add_str (pv 3) (pe_callTy (T := "str") call_str_int rfl (n_str T) (by decide +kernel) (pa_cons (pv 1) pa_nil)))))))), ?_⟩
    refine ⟨_, rfl, _, rfl, p, 26, rfl, by decide, io (by decide), hP, fun r H1 r0 r1 k1 p1 => ?_⟩
    obtain ⟨r, rfl⟩ : ∃ n : Nat, r = n := ⟨r.toNat, by omega⟩
    have r1 : r < 26 := by omega
    refine ⟨_, _, 97 + r, rfl, rfl, sz1 (by decide +kernel), atI_nat (lets_at r1), ?_⟩
    refine ⟨_, rfl, p, 4, rfl, by decide, io (by decide), p1, fun n H2 n0 n1 k2 p2 => ?_⟩
    refine ⟨_, rfl, by omega, by omega, ?_⟩
    refine for_range (lo := 0) (n := n.toNat) (fun i σ H' => ∃ (v4 : Option V) (x : Str) (t : List Nat), σ = [some (.ref p), some (.int (k : Nat)), some (.str "abcdefghijklmnopqrstuvwxyz"), some (.str x), v4] ∧ Kp p H H' ∧ PoolAt K sa sx H' p ∧ tl x = (97 + r) :: t ∧ t.length = i ∧ ∀ c ∈ t, alnum c) ⟨_, _, [], rfl, k1.trans k2, p2, rfl, rfl, fun c hc => (by cases hc)⟩ ?_ ?_
    · rintro i σ H3 hi ⟨v4, x, t, rfl, k3, p3, ex, lt, ht⟩
      have lx : x.length ≤ 5 := by rw [len_tl, ex, List.length_cons]; omega
      refine ⟨_, rfl, _, rfl, _, _, rfl, rfl, sz1 (by decide +kernel), _, rfl, p, 36, rfl, by decide, io (by decide), p3, fun u H4 u0 u1 k4 p4 => ?_⟩
      obtain ⟨u, rfl⟩ : ∃ n : Nat, u = n := ⟨u.toNat, by omega⟩
      obtain ⟨c, hc, ha⟩ := signs_at (r := u) (by omega)
      refine ⟨_, _, c, rfl, rfl, sz1 (by decide +kernel), atI_nat (by rw [← hc]; congr 1), ?_⟩
      refine ⟨_, _, rfl, rfl, sz1 (by show x.length + 1 ≤ _; omega), ?_⟩
      refine ⟨_, _, t ++ [c], rfl, k3.trans k4, p4, ?_, by rw [List.length_append, lt]; rfl, fun d hd => ?_⟩
      · rw [tl_append, ex]; rfl
      · rcases List.mem_append.mp hd with hd | hd
        · exact ht d hd
        · rw [List.mem_singleton.mp hd]; exact ha
    · rintro σ H3 ⟨v4, x, t, rfl, k3, p3, ex, lt, ht⟩
      have lx : x.length ≤ 5 := by rw [len_tl, ex, List.length_cons]; omega
      have l9 : (nt (k : Int)).length = 1 := by rw [len_tl, digit_at hk]; rfl
      refine ⟨_, rfl, _, rfl, (k : Int), rfl, log_of (Nat.lt_of_lt_of_le (show (k : Int).natAbs < 10 by omega) (by decide +kernel)), _, _, rfl, rfl, sz1 (by show x.length + (nt (k : Int)).length ≤ _; omega), ?_⟩
      have e : tl (x ++ nt (k : Int)) = ((97 + r) :: t) ++ [48 + k] := by rw [tl_append, ex, digit_at hk]
      refine q _ H3 ?_ ⟨_, e⟩ k3 p3
      refine isName_iff.mpr ⟨97 + r, t ++ [48 + k], e, ?_, by omega, fun d hd => ?_⟩
      · rw [List.length_cons, List.length_append, List.length_singleton]; omega
      · rcases List.mem_cons.mp hd with rfl | hd
        · exact .inl (by omega)
        · rcases List.mem_append.mp hd with hd | hd
          · exact ht d hd
          · rw [List.mem_singleton.mp hd]; exact .inr (by omega)
/-! a block's rows -/
structure RwB (skip : Int) (i : Nat) (r : Rw) : Prop where
  fit : RwFit r
  ops : opFault ["x"] true r.ops = ""
  zero : i = 0 → ∀ b, wrongSkip r b = (decide (skip < 1) || decide (b < skip))
  rest : i ≠ 0 → ∀ b, wrongSkip r b = false
  len : r.tx.length ≤ 100
theorem tx_same (n : Int) : ("same 1 1 else " : Str) ++ nt n = Rw.tx (.same (.num 1) (.num 1) n) := by
  show _ = "same " ++ (nt 1 ++ (" " ++ (nt 1 ++ (" else " ++ nt n))))
  rw [← app_assoc, ← app_assoc, ← app_assoc, ← app_assoc]
  have : ("same 1 1 else " : Str) = "same " ++ nt 1 ++ " " ++ nt 1 ++ " else " := by decide +kernel
  rw [this]
theorem tx_there (n : Int) : ("there a else " : Str) ++ nt n = Rw.tx (.there "a" n) := by
  show _ = "there " ++ ("a" ++ (" else " ++ nt n))
  rw [← app_assoc, ← app_assoc]
  have : ("there a else " : Str) = "there " ++ "a" ++ " else " := by decide +kernel
  rw [this]
theorem rb_same {n : Int} (h : n.natAbs ≤ 1000) : RwB n 0 (.same (.num 1) (.num 1) n) := ⟨⟨(show (1 : Int).natAbs ≤ 999999999 by decide), (show (1 : Int).natAbs ≤ 999999999 by decide), Nat.le_trans h (by decide)⟩, rfl, fun _ _ => rfl, fun z => absurd rfl z, by
  have l0 : (("same 1 1 else " : Str)).length = 14 := by decide +kernel
  have := nt_len10 (n := n) (Nat.le_trans h (by decide))
  rw [← tx_same, app_len]; omega⟩
theorem rb_there {n : Int} (h : n.natAbs ≤ 1000) : RwB n 0 (.there "a" n) := ⟨⟨(by decide +kernel), Nat.le_trans h (by decide)⟩, rfl, fun _ _ => rfl, fun z => absurd rfl z, by
  have l0 : (("there a else " : Str)).length = 13 := by decide +kernel
  have := nt_len10 (n := n) (Nat.le_trans h (by decide))
  rw [← tx_there, app_len]; omega⟩
theorem rb_tell {n : Int} {k : Nat} (h : k < 1000) (i : Nat) (hi : i ≠ 0) : RwB n i (.tell (.num (k : Int))) := ⟨(by show (k : Int).natAbs ≤ 999999999; omega), rfl, fun z => absurd z hi, fun _ _ => rfl, by
  have l0 : (("tell " : Str)).length = 5 := by decide +kernel
  have := nt_len10 (n := (k : Int)) (by omega)
  show ("tell " ++ nt (k : Int)).length ≤ 100
  rw [app_len]; omega⟩
/-- a word's row, wherever it stands but first -/
def WordR (x : Str) : Prop := ∃ r : Rw, x = r.tx ∧ x.length ≤ 20 ∧ ∀ (n : Int) (i : Nat), i ≠ 0 → RwB n i r
theorem word_of {v : V} (h : v ∈ [V.str "tell it", V.str "set $x it", V.str "end", V.str "call b it at 3"]) : ∃ x, v = .str x ∧ WordR x := by
  simp only [List.mem_cons, List.not_mem_nil, or_false] at h
  rcases h with rfl | rfl | rfl | rfl
  · exact ⟨_, rfl, .tell .arg, by decide +kernel, by decide +kernel, fun n i hi => ⟨trivial, by decide +kernel, fun z => absurd z hi, fun _ _ => rfl, by decide +kernel⟩⟩
  · exact ⟨_, rfl, .set (.own "x") .arg, by decide +kernel, by decide +kernel, fun n i hi => ⟨⟨(by decide +kernel : isName "x" = true), by decide +kernel, trivial⟩, by decide +kernel, fun z => absurd z hi, fun _ _ => rfl, by decide +kernel⟩⟩
  · exact ⟨_, rfl, .fin, by decide +kernel, by decide +kernel, fun n i hi => ⟨trivial, rfl, fun z => absurd z hi, fun _ _ => rfl, by decide +kernel⟩⟩
  · exact ⟨_, rfl, .call "b" .arg 3, by decide +kernel, by decide +kernel, fun n i hi => ⟨⟨by decide +kernel, trivial, by decide, by decide⟩, by decide +kernel, fun z => absurd z hi, fun _ _ => rfl, by decide +kernel⟩⟩
def txs (rows : List Rw) : List V := (rows.map Rw.tx).map V.str
def spBlock (K : PySem.W.Frag) (sa : Addr) (sx : List Int) : Sp := fun vs H Q _ => ∃ (p : Addr) (size : Nat) (skip : Int), vs = [.ref p, .int size, .int skip] ∧ 1 ≤ size ∧ size ≤ 700 ∧ skip.natAbs ≤ 1000 ∧ PoolAt K sa sx H p ∧
  ∀ q (rows : List Rw) H', q ≠ p → Kp p H H' → PoolAt K sa sx H' p → H' q = some (.lst (txs rows)) → rows.length = size → (∀ (i : Nat) (r : Rw), rows[i]? = some r → RwB skip i r) → Q (.ref q) H'
theorem kp_free {p q : Addr} {H H1 : Hp} (k : Kp p H H1) (n : q ≠ p) (h : H1 q = none) : H q = none := by
  cases e : H q with
  | none => rfl
  | some o =>
    have := k q o n e
    rw [h] at this; cases this
theorem kp_out {p D : Addr} {H H' : Hp} {o : HO} (k : Kp p H H') (hD : H D = none) : Kp p H (upd H' D o) := fun a u n e => by
  rw [upd_ne (ne_of_none e hD)]; exact k a u n e
theorem brS {c : Prop} [Decidable c] {A B : Prop} {G : V → Hp → Prop} (S : V → Hp → Prop) (hT : (∀ v H, S v H → G v H) → c → A) (hF : (∀ v H, S v H → G v H) → ¬ c → B) (fin : ∀ v H, S v H → G v H) : if decide c = true then A else B := dC (hT fin) (hF fin)
theorem ok_l_block (T : Tx K mg sa sx) : Cal P w K mg base 3 "_law_block" (spBlock K sa sx) := by
  obtain ⟨fd, F⟩ := f_l_block T
  refine ⟨_, fd, ["_law_pool", "_law_size", "_law_skip"], fnok F sc_l_block (fun vs H Q E h => ?_) (fun cdv A outer s H vs Q E hr h => ?_), F.bindsN fun _ _ _ _ _ _ us hl => match us, hl with | [_, _, _], _ => rfl, g__law_block T, F.kp⟩
  · obtain ⟨p, z, k, rfl, _⟩ := h; rfl
  · obtain ⟨p, size, skip, rfl, z1, z7, hk, hP, q⟩ := h
    refine ⟨_, (pss_cons (ps_set (i := 3) sc_l_block.nd rfl (by first | exact Or.inl rfl | exact Or.inr rfl) (pe_lst (pa_cons (pe_ifExp (pt_cmpR op_eq (pe_cal (ok_l_draw T) hr (by decide) (pa_cons (pv 0) (pa_cons pe_int pa_nil))) pe_int (nomark _)) (pe_op op_add_str pe_str (pe_callTy (T := "str") call_str_int rfl (n_str T) (by decide +kernel) (pa_cons (pv 2) pa_nil))) (pe_op op_add_str pe_str (pe_callTy (T := "str") call_str_int rfl (n_str T) (by decide +kernel) (pa_cons (pv 2) pa_nil)))) pa_nil)))
    (pss_cons (ps_set (i := 4) sc_l_block.nd rfl (by first | exact Or.inl rfl | exact Or.inr rfl) (pe_cal (ok_l_pick T) hr (by decide) (pa_cons (pv 0) (pa_cons (pe_lst (pa_cons pe_str (pa_cons pe_str (pa_cons pe_str (pa_cons pe_str pa_nil))))) pa_nil))))
    (pss_cons (ps_for PassesOwn.never rfl (pi_range1 rfl (n_range T) (pa_cons (pe_op op_sub (pv 1) pe_int) pa_nil)) (pg_name (i := 5) sc_l_block.nd rfl (by first | exact Or.inl rfl | exact Or.inr rfl))
      (pss_one (ps_expr (pe_bm PySem.F.plainAttrs_list PySem.F.slot_list_append PySem.F.type_list_append mt_append (pv 3) (pa_cons (pe_ifExp (pt_cmpR op_ne (pe_op op_mod (pv 5) pe_int) pe_int (nomark _)) (pv 4) (pe_op op_add_str pe_str (pe_callTy (T := "str") call_str_int rfl (n_str T) (by decide +kernel) (pa_cons (pv 5) pa_nil)))) pa_nil)))))
    (pss_one (ps_ret (pv 3)))))), ?_⟩
    have lg : skip.natAbs.log2 < 1920 := log_of (Nat.lt_of_le_of_lt hk (by decide +kernel))
    have ln : (nt skip).length ≤ 1921 := int_text_len_1921 lg
    refine ⟨_, rfl, p, 2, rfl, by decide, io (by decide), hP, fun d H1 _ _ k1 p1 => ⟨rfl, _, rfl, ?_⟩⟩
    refine' brS (S := fun v H' => H' = H1 ∧ ∃ r : Rw, v = V.str r.tx ∧ r.tx.length ≤ 2000 ∧ RwB skip 0 r) (fun fin _ => ?g1) (fun fin _ => ?g2) ?g3
    case g1 =>
      have l0 : (("same 1 1 else " : Str)).length = 14 := by decide +kernel
      refine ⟨_, rfl, skip, rfl, lg, _, _, rfl, rfl, sz1 (by show _ + (nt skip).length ≤ _; omega), ?_⟩
      generalize hv : V.str (("same 1 1 else " : Str) ++ toString skip) = v
      exact fin v H1 ⟨rfl, _, by rw [← hv, ← tx_same]; rfl, by rw [← tx_same, app_len]; omega, rb_same hk⟩
    case g2 =>
      have l0 : (("there a else " : Str)).length = 13 := by decide +kernel
      refine ⟨_, rfl, skip, rfl, lg, _, _, rfl, rfl, sz1 (by show _ + (nt skip).length ≤ _; omega), ?_⟩
      generalize hv : V.str (("there a else " : Str) ++ toString skip) = v
      exact fin v H1 ⟨rfl, _, by rw [← hv, ← tx_there]; rfl, by rw [← tx_there, app_len]; omega, rb_there hk⟩
    rintro _ HA ⟨eA, r0, rfl, l0, hr0⟩
    rw [← eA] at k1 p1
    clear eA H1
    refine ⟨sz1 (by simp), fun q0 h0 => ?_⟩
    have n0 : q0 ≠ p := pool_ne p1 h0
    have hf := pool_fresh p1 h0
    have h00 : H q0 = none := kp_free k1 n0 h0
    refine ⟨_, rfl, sz1 (by simp), fun q1 h1 => ⟨p, q1, _, rfl, upd_same, by simp, by simp, pool_ne (pool_new p1 h0) h1, pool_new (pool_new p1 h0) h1, fun v H3 hv k3 p3 => ?_⟩⟩
    obtain ⟨wd, rfl, rw, ew, lw, hw⟩ := word_of hv
    have hq3 : H3 q0 = some (.lst (txs [r0])) := k3 _ _ n0 ((Same.new h1) _ _ upd_same)
    have k03 : Kp p H H3 := k1.trans (((Same.new h0).trans (Same.new h1)).kp.trans k3)
    refine ⟨_, rfl, _, _, rfl, rfl, _, rfl, by omega, by omega, ?_⟩
    refine for_range (lo := 0) (n := ((size : Int) - 1).toNat) (fun j σ H' => ∃ (v5 : Option V) (rows : List Rw), σ = [some (.ref p), some (.int (size : Nat)), some (.int skip), some (.ref q0), some (.str wd), v5] ∧ Kp p H H' ∧ PoolAt K sa sx H' p ∧ H' q0 = some (.lst (txs rows)) ∧ rows.length = 1 + j ∧ ∀ (i : Nat) (r : Rw), rows[i]? = some r → RwB skip i r)
      ⟨_, [r0], rfl, k03, p3, hq3, rfl, fun i r hr => ?_⟩ ?_ ?_
    · cases i with
      | zero => cases Option.some.inj hr; exact hr0
      | succ i => simp at hr
    · rintro j σ H4 hj ⟨v5, rows, rfl, k4, p4, h4, lr, hrows⟩
      have fin : ∀ (x : Str) (r : Rw), x = r.tx → RwB skip rows.length r → ∃ (v5 : Option V) (rows' : List Rw), ([some (.ref p), some (.int (size : Nat)), some (.int skip), some (.ref q0), some (.str wd), some (.int (0 + (j : Nat)))] : L2.St) = [some (.ref p), some (.int (size : Nat)), some (.int skip), some (.ref q0), some (.str wd), v5] ∧
          Kp p H (upd H4 q0 (.lst (txs rows ++ [V.str x]))) ∧ PoolAt K sa sx (upd H4 q0 (.lst (txs rows ++ [V.str x]))) p ∧ (upd H4 q0 (.lst (txs rows ++ [V.str x]))) q0 = some (.lst (txs rows')) ∧ rows'.length = 1 + (j + 1) ∧ ∀ (i : Nat) (r : Rw), rows'[i]? = some r → RwB skip i r := fun x r ex hr => by
        refine ⟨_, rows ++ [r], rfl, kp_out k4 h00, pool_upd p4 n0 hf, by rw [upd_same, ex]; unfold txs; rw [List.map_append, List.map_append]; rfl, by rw [List.length_append, lr, List.length_singleton]; omega, fun i r2 hi => ?_⟩
        by_cases c : i < rows.length
        · rw [List.getElem?_append_left c] at hi; exact hrows i r2 hi
        · rw [List.getElem?_append_right (by omega)] at hi
          have : i - rows.length = 0 := by
            have := (List.getElem?_eq_some_iff.mp hi).1
            simp at this; omega
          rw [this] at hi
          cases Option.some.inj hi
          rw [show i = rows.length by omega]; exact hr
      have lt : (txs rows).length < sizeLine := sz2 (by unfold txs; rw [List.length_map, List.length_map]; omega)
      refine ⟨_, rfl, .inl ⟨rfl, _, SqL.of h4⟩, ?_⟩
      refine ⟨_, rfl, _, _, rfl, rfl, (by show (0 : Int) < 7; decide), rfl, _, rfl, ?_⟩
      refine uC (fun c => ?_) (fun c => ?_)
      · refine ⟨_, rfl, q0, _, _, rfl, rfl, h4, lt, fin wd rw ew (hw skip _ (by omega))⟩
      · have lj : ((0 : Int) + (j : Nat)).natAbs.log2 < 1920 := log_of (Nat.lt_of_lt_of_le (show ((0 : Int) + (j : Nat)).natAbs < 1000 by omega) (by decide +kernel))
        have ln2 : (nt ((0 : Int) + (j : Nat))).length ≤ 1921 := int_text_len_1921 lj
        have l5 : (("tell " : Str)).length = 5 := by decide +kernel
        refine ⟨_, rfl, _, rfl, lj, _, _, rfl, rfl, sz1 (by show _ + (nt ((0 : Int) + (j : Nat))).length ≤ _; omega), q0, _, _, rfl, rfl, h4, lt, fin _ (.tell (.num ((j : Nat) : Int))) (by rw [Int.zero_add]; rfl) (rb_tell (by omega) _ (by omega))⟩
    · rintro σ H4 ⟨v5, rows, rfl, k4, p4, h4, lr, hrows⟩
      exact ⟨_, rfl, q q0 rows H4 n0 k4 p4 h4 (by omega) hrows⟩
end
end K88
namespace K88
open PySem PySem.Spec PyProof.Rows Cm Um TL
open L2 hiding Same
/-! ### the units drawn: their lines, their faults -/
def uB (n : Str) (bs : List Bk) : Un := ⟨n, false, [(("x" : Str), (0 : Int))], bs⟩
theorem cell_0 : cellLine (("x" : Str), (0 : Int)) = "cell x 0" := by decide +kernel
theorem uB_lines (n : Str) (bs : List Bk) : (uB n bs).lines = ["unit " ++ n, "cell x 0"] ++ bs.flatMap Bk.lines := by
  show unitLine (uB n bs) :: ([(("x" : Str), (0 : Int))].map cellLine ++ bs.flatMap Bk.lines) = _
  rw [List.map_cons, List.map_nil, cell_0]; rfl
theorem head_k (x : Str) (rows : List Rw) : Bk.head ⟨"shared", x, rows⟩ = "routine " ++ x ∧ Bk.head ⟨"inner", x, rows⟩ = "inner " ++ x := by
  unfold Bk.head
  refine ⟨?_, ?_⟩
  · rw [if_neg (show ¬ ("shared" : Str) = "start" by decide +kernel)]
    show headTx "shared" ++ " " ++ x = _
    rw [show headTx "shared" ++ " " = ("routine " : Str) by decide +kernel]
  · rw [if_neg (show ¬ ("inner" : Str) = "start" by decide +kernel)]
    show headTx "inner" ++ " " ++ x = _
    rw [show headTx "inner" ++ " " = ("inner " : Str) by decide +kernel]
theorem x_cell : ∀ p ∈ [(("x" : Str), (0 : Int))], isName p.1 = true ∧ p.2.natAbs ≤ 999999999 := fun p hp => by
  rw [List.mem_singleton.mp hp]; exact ⟨by decide +kernel, by decide⟩
theorem uB_f {n : Str} {bs : List Bk} (hn : isName n = true) (hb : ∀ B ∈ bs, BkF B) (l : bs.length ≤ 20) : UnF (uB n bs) := ⟨hn, (by show (1 : Nat) ≤ 9; decide), x_cell, l, hb⟩
theorem uB_s {n : Str} {bs : List Bk} (hn : isName n = true) (hb : ∀ B ∈ bs, BkS ["x"] B) (l : bs.length ≤ 20) (nd : (bs.map Bk.name).Nodup) : UnS (uB n bs) := ⟨hn, (by show (1 : Nat) ≤ 9; decide), by simp [uB], x_cell, l, nd, hb⟩
theorem uB_fault (n : Str) (bs : List Bk) : unitFault (uB n bs).sec = blocksFault ["x"] 0 [] (secB 2 (bs.map fun B => (B.headP, B.rows))) := by
  unfold unitFault
  have e : declF 9 0 [] (uB n bs).sec.decl = none := by
    refine declF_none (fun d hd => ?_) ?_ ?_
    · obtain ⟨e, he, rfl⟩ := List.mem_map.mp hd; rfl
    · unfold Sec.decl
      rw [cells_sec, List.length_map]
      show (0 : Int) + ((numb 1 _).length : Nat) ≤ 9
      have e := congrArg List.length (numb_snd ((uB n bs).cells.map cellP) 1)
      rw [List.length_map, List.length_map] at e
      have : (uB n bs).cells.length = 1 := rfl
      omega
    · rw [List.nil_append]
      have : (uB n bs).sec.decl.map De.name = (uB n bs).sec.names := by unfold Sec.decl Sec.names; rw [List.map_map]; rfl
      rw [this, names_sec]
      simp [uB]
  rw [e, names_sec]; rfl
theorem rowsFault_at {cells : List Str} {arg : Bool} {rows : List Rw} {c : Str} (hc : c ≠ "") : ∀ {l : List Rw} {i n : Nat} {r : Rw}, (∀ (j : Nat) (x : Rw), j < n → l[j]? = some x → rowFault cells arg rows (i + j) x = "") → l[n]? = some r → rowFault cells arg rows (i + n) r = c → rowsFault cells arg rows i l = some (i + n, c)
  | [], i, n, r, _, hn, _ => by simp at hn
  | x :: l, i, n, r, h, hn, hr => by
    unfold rowsFault
    cases n with
    | zero =>
      cases Option.some.inj hn
      rw [Nat.add_zero] at hr
      rw [hr, if_pos hc]; rfl
    | succ n =>
      have h0 := h 0 x (Nat.zero_lt_succ _) rfl
      rw [Nat.add_zero] at h0
      rw [h0, if_neg (fun z => z rfl)]
      rw [rowsFault_at hc (i := i + 1) (n := n) (r := r) (fun j y hj hy => by
        have := h (j + 1) y (by omega) hy
        rw [show i + 1 + j = i + (j + 1) by omega]; exact this) hn (by rw [show i + 1 + n = i + (n + 1) by omega]; exact hr)]
      rw [show i + 1 + n = i + (n + 1) by omega]
/-- the rows of a drawn block -/
structure RowsB (size : Nat) (skip : Int) (rows : List Rw) : Prop where
  len : rows.length = size
  one : 1 ≤ size
  big : size ≤ 700
  row : ∀ (i : Nat) (r : Rw), rows[i]? = some r → RwB skip i r
section
variable {size : Nat} {skip : Int} {rows : List Rw} {kd nm : Str}
theorem RowsB.f (h : RowsB size skip rows) (hk : kd ∈ kindW) (hs : kd ≠ "start") (hn : isName nm = true) : BkF ⟨kd, nm, rows⟩ :=
  ⟨hk, .inr ⟨hs, hn⟩, (by show rows.length ≤ 900; have := h.len; have := h.big; omega), fun r hr => by
    obtain ⟨i, hi, e⟩ := List.mem_iff_getElem.mp hr
    exact (h.row i r (by rw [List.getElem?_eq_getElem hi, e])).fit⟩
theorem RowsB.fault0 (h : RowsB size skip rows) {i : Nat} {r : Rw} (hr : rows[i]? = some r) (hi : i < 600) (h0 : i = 0 → (decide (skip < 1) || decide ((size : Int) - 1 < skip)) = false) : rowFault ["x"] true rows i r = "" := by
  have b := h.row i r hr
  unfold rowFault
  rw [if_neg (by omega), b.ops, if_neg (fun z => z rfl)]
  have e : wrongSkip r ((rows.length : Int) - 1 - i) = false := by
    by_cases c : i = 0
    · rw [b.zero c, h.len, c]
      have := h0 c
      rw [show (size : Int) - 1 - ((0 : Nat) : Int) = (size : Int) - 1 by omega]; exact this
    · exact b.rest c _
  rw [e]; rfl
theorem RowsB.good (h : RowsB size skip rows) (hk : kd ∈ kindW) (hs : kd ≠ "start") (hn : isName nm = true) (l6 : size ≤ 600) (h1 : 1 ≤ skip) (h2 : skip ≤ (size : Int) - 1) : BkS ["x"] ⟨kd, nm, rows⟩ where
  kind := hk
  name := .inr ⟨hs, hn⟩
  ne := fun z => by
    have z : rows = [] := z
    have := h.len; have := h.one; rw [z] at *; simp at *; omega
  many := by show rows.length ≤ 600; have := h.len; omega
  fit := (h.f hk hs hn).fit
  ops := fun r hr => by
    obtain ⟨i, hi, e⟩ := List.mem_iff_getElem.mp hr
    show opFault ["x"] (decide (kd ≠ "start")) r.ops = ""
    rw [decide_eq_true hs]
    exact (h.row i r (by rw [List.getElem?_eq_getElem hi, e])).ops
  skip := fun i r hr => by
    have b := h.row i r hr
    by_cases c : i = 0
    · rw [b.zero c, c]
      show (decide (skip < 1) || decide ((rows.length : Int) - 1 - ((0 : Nat) : Int) < skip)) = false
      rw [h.len, decide_eq_false (by omega), decide_eq_false (by omega)]; rfl
    · exact b.rest c _
theorem RowsB.bad (h : RowsB size skip rows) (l6 : size ≤ 600) (hb : ¬ (1 ≤ skip ∧ skip ≤ (size : Int) - 1)) : rowsFault ["x"] true rows 0 rows = some (0, ("skip" : Str)) := by
  have l0 : 0 < rows.length := by have := h.len; have := h.one; omega
  have g0 : rows[0]? = some rows[0] := List.getElem?_eq_getElem l0
  have b := h.row 0 _ g0
  have := rowsFault_at (cells := ["x"]) (arg := true) (rows := rows) (c := "skip") (by decide +kernel) (l := rows) (i := 0) (n := 0) (r := rows[0]) (fun j x hj _ => by omega) g0 (by
    unfold rowFault
    rw [if_neg (by omega), b.ops, if_neg (fun z => z rfl), b.zero rfl, h.len]
    rw [if_pos]
    by_cases c : skip < 1
    · rw [decide_eq_true c]; rfl
    · rw [decide_eq_false c, Bool.false_or]
      refine decide_eq_true ?_
      show (size : Int) - 1 - ((0 + 0 : Nat) : Int) < skip
      omega)
  simpa using this
theorem RowsB.many (h : RowsB size skip rows) (l6 : 600 < size) (h1 : 1 ≤ skip) (h2 : skip ≤ (size : Int) - 1) : rowsFault ["x"] true rows 0 rows = some (600, ("many" : Str)) := by
  have l0 : 600 < rows.length := by have := h.len; omega
  have g0 : rows[600]? = some rows[600] := List.getElem?_eq_getElem l0
  have := rowsFault_at (cells := ["x"]) (arg := true) (rows := rows) (c := "many") (by decide +kernel) (l := rows) (i := 0) (n := 600) (r := rows[600]) (fun j x hj hx => by
    rw [Nat.zero_add]
    exact h.fault0 hx hj fun _ => by rw [decide_eq_false (by omega), decide_eq_false (by omega)]; rfl) g0 (by unfold rowFault; rw [if_pos (by omega)])
  simpa using this
end
/-- the lines of such blocks -/
def bksLen (bs : List Bk) : Nat := (bs.map fun B => 1 + B.rows.length).sum
theorem bks_lines (bs : List Bk) : (bs.flatMap Bk.lines).length = bksLen bs := by
  rw [List.length_flatMap]
  unfold bksLen
  congr 1
  exact List.map_congr_left fun B _ => by unfold Bk.lines; rw [List.length_cons, List.length_map]; omega
/-- the first block that has a fault -/
theorem blocksFault_at {B : Bk} {post : List Bk} {k : Nat} {f : Str} (hk : B.kind ∈ kindW) (hn : (B.kind = "start" ∧ B.name = "") ∨ (B.kind ≠ "start" ∧ isName B.name = true)) (ne : B.rows ≠ []) (hf : rowsFault ["x"] (decide (B.kind ≠ "start")) B.rows 0 B.rows = some (k, f)) :
    ∀ {pre : List Bk} {i c : Nat} {seen : List Str}, (∀ C ∈ pre, BkS ["x"] C) → c + pre.length < 20 → (seen ++ (pre ++ [B]).map Bk.name).Nodup → blocksFault ["x"] c seen (secB i ((pre ++ B :: post).map fun B => (B.headP, B.rows))) = some (i + bksLen pre + 1 + k, f)
  | [], i, c, seen, _, hc, nd => by
    rw [List.nil_append, List.map_cons, secB]
    unfold blocksFault
    show (if 20 ≤ c then _ else if keyOf B.headP ∈ seen then _ else if B.rows = [] then _ else _) = _
    rw [if_neg (by simp at hc; omega), key_bk hk hn, if_neg (fun z => (List.nodup_append.mp nd).2.2 B.name z B.name (by simp) rfl), if_neg ne]
    show (match rowsFault ["x"] (decide (Um.headP B.headP ≠ "start")) B.rows 0 B.rows with | some (j, f) => some (i + 1 + j, f) | none => _) = _
    rw [start_bk hk, hf]
    rfl
  | C :: pre, i, c, seen, h, hc, nd => by
    have hb := h C List.mem_cons_self
    rw [List.cons_append, List.map_cons, secB]
    unfold blocksFault
    show (if 20 ≤ c then _ else if keyOf C.headP ∈ seen then _ else if C.rows = [] then _ else _) = _
    rw [List.length_cons] at hc
    rw [if_neg (by omega), key_bk hb.kind hb.name, if_neg (fun z => (List.nodup_append.mp nd).2.2 C.name z C.name (by rw [List.cons_append, List.map_cons]; exact List.mem_cons_self) rfl), if_neg hb.ne]
    have e : rowsFault ["x"] (decide (Um.headP C.headP ≠ "start")) C.rows 0 C.rows = none := rowsFault_none fun j r hr => by
      have hj : j < C.rows.length := (List.getElem?_eq_some_iff.mp hr).1
      have := hb.many
      unfold rowFault
      rw [Nat.zero_add, if_neg (by omega), start_bk hb.kind, hb.ops r (List.mem_of_getElem? hr), if_neg (fun z => z rfl), hb.skip j r hr]
      rfl
    show (match rowsFault ["x"] (decide (Um.headP C.headP ≠ "start")) C.rows 0 C.rows with | some (j, f) => some (i + 1 + j, f) | none => blocksFault ["x"] (c + 1) (seen ++ [C.name]) (secB (i + 1 + C.rows.length) _)) = _
    rw [e]
    show blocksFault ["x"] (c + 1) (seen ++ [C.name]) _ = _
    rw [blocksFault_at hk hn ne hf (pre := pre) (i := i + 1 + C.rows.length) (c := c + 1) (seen := seen ++ [C.name]) (fun D hD => h D (List.mem_cons_of_mem _ hD)) (by omega) (by rw [List.append_assoc]; exact nd)]
    congr 2
    show i + 1 + C.rows.length + bksLen pre + 1 + k = i + bksLen (C :: pre) + 1 + k
    unfold bksLen
    rw [List.map_cons, List.sum_cons]; omega
/-- how long such a text is -/
theorem uB_text {n : Str} {bs : List Bk} (hn : isName n = true) (hb : ∀ B ∈ bs, B.head.length ≤ 100 ∧ ∀ r ∈ B.rows, r.tx.length ≤ 100) : (uB n bs).text.length ≤ (2 + bksLen bs) * 101 := by
  have e : (uB n bs).lines.length = 2 + bksLen bs := by rw [uB_lines, List.length_append, bks_lines]; rfl
  rw [← e]
  refine join_len (by decide +kernel) fun z hz => ?_
  rw [uB_lines] at hz
  rcases List.mem_append.mp hz with hz | hz
  · simp only [List.mem_cons, List.not_mem_nil, or_false] at hz
    have l5 : (("unit " : Str)).length = 5 := by decide +kernel
    have := name_len hn
    rcases hz with rfl | rfl
    · rw [app_len]; omega
    · decide +kernel
  · obtain ⟨B, hB, hz⟩ := List.mem_flatMap.mp hz
    obtain ⟨h1, h2⟩ := hb B hB
    unfold Bk.lines at hz
    rcases List.mem_cons.mp hz with rfl | hz
    · exact h1
    · obtain ⟨r, hr, rfl⟩ := List.mem_map.mp hz
      exact h2 r hr
end K88
namespace Cm
open PySem PySem.Spec PyProof.Rows
open L2 hiding Same
/-- x is True, x True or something in the heap -/
theorem op_isTru {X : Cx} : OpR X (compareOp .Is) (fun x y H Q => y = .bl true ∧ ((x = .bl true ∧ Q (.bl true) H) ∨ ∃ a, x = .ref a ∧ Q (.bl false) H)) := by
  intro pins s σ H x y v u Q I rx ry h
  obtain ⟨rfl, h⟩ := h
  cases ry
  rcases h with ⟨rfl, q⟩ | ⟨a, rfl, q⟩
  · cases rx
    show wpAny _ _ ((isSame (Value.bool true) (Value.bool true)) >>= fun z => pure (Value.bool z)) _ _ s
    exact wpAny_bind (wpAny_isSame_plain rfl (wpAny_pure (fin_bl I q rfl)))
  · cases rx
    show wpAny _ _ ((isSame (Value.ref a) (Value.bool true)) >>= fun z => pure (Value.bool z)) _ _ s
    exact wpAny_bind (wpAny_isSame_plain rfl (wpAny_pure (fin_bl I q rfl)))
end Cm
namespace K88
open PySem PySem.Spec PyProof.Rows Cm Um TL
open L2 hiding Same
/-! ### the law -/
/-- a statement's end, told once for all its ways -/
theorem seq2 {A R : TS} {D : Ends} {σ : L2.St} {H : Hp} (S : L2.St → Hp → Prop) (h2 : ∀ σ' H', S σ' H' → R D σ' H') (h1 : ∀ N : L2.St → Hp → Prop, (∀ σ' H', S σ' H' → N σ' H') → A { D with nx := N } σ H) : tSeq A R D σ H := h1 (R D) h2
/-- what is due of a unit: True, or where its fault stands -/
def DueOk (H : Hp) (U : Un) (v : V) : Prop := (v = .bl true ∧ UnS U) ∨ ∃ (t : Addr) (i : Nat) (c : Str), v = .ref t ∧ H t = some (.tup [.int i, .str c]) ∧ c.length ≤ 100 ∧ PyData.strOk c = true ∧ unitFault U.sec = some (i, c)
theorem DueOk.same {H H' : Hp} {U : Un} {v : V} (s : Same H H') (h : DueOk H U v) : DueOk H' U v := by
  rcases h with h | ⟨t, i, c, e, h, r⟩
  · exact .inl h
  · exact .inr ⟨t, i, c, e, s _ _ h, r⟩
theorem due_lay {i : Int} {c : Str} (h : PyData.strOk c = true) : SeqAt.shaped (.tuple [.int i, .str c]) = true ∧ PyData.eqv (.tuple [.int i, .str c]) (.tuple [.int i, .str c]) = true := by
  have e : (PyData.tuple [.int i, .str c]).canLay0 = true := by simp [PyData.canLay0, PyData.canLayAll0, h]
  refine ⟨?_, SeqAt.eqv_refl _ e⟩
  show ((PyData.tuple [.int i, .str c]).canLay0 && decide ((PyData.tuple [.int i, .str c]).depth ≤ 64)) = true
  rw [e, Bool.true_and]
  exact decide_eq_true (by simp [PyData.depth, PyData.depthAll])
theorem tru_lay : SeqAt.shaped (.bool true) = true ∧ PyData.eqv (.bool true) (.bool true) = true := by
  refine ⟨?_, by simp [PyData.eqv]⟩
  show ((PyData.bool true).canLay0 && decide ((PyData.bool true).depth ≤ 64)) = true
  simp [PyData.canLay0, PyData.depth]
theorem many_ok : PyData.strOk "many" = true ∧ PyData.strOk "skip" = true ∧ PyData.strOk "unknown" = true ∧ (("many" : Str)).length ≤ 100 ∧ (("skip" : Str)).length ≤ 100 ∧ (("unknown" : Str)).length ≤ 100 := by decide +kernel
/-- a block drawn inside -/
structure BkD (B : Bk) : Prop where
  kind : B.kind = "inner"
  name : isName B.name = true
  f : BkF B
  len : B.head.length ≤ 100 ∧ ∀ r ∈ B.rows, r.tx.length ≤ 100
  ne : B.rows ≠ []
/-- what is due of a row of blocks: True, or where the first fault stands -/
def DueB (H : Hp) (bs : List Bk) (v : V) : Prop := (v = .bl true ∧ ∀ B ∈ bs, BkS ["x"] B) ∨ ∃ (pre post : List Bk) (B : Bk) (t : Addr), bs = pre ++ B :: post ∧ (∀ C ∈ pre, BkS ["x"] C) ∧ rowsFault ["x"] true B.rows 0 B.rows = some (0, ("skip" : Str)) ∧ v = .ref t ∧ H t = some (.tup [.int ((2 + bksLen pre + 1 : Nat) : Int), .str "skip"])
theorem DueB.kp {K : PySem.W.Frag} {sa : Addr} {sx : List Int} {H H' : Hp} {p : Addr} {bs : List Bk} {v : V} (hP : PoolAt K sa sx H p) (k : Kp p H H') (h : DueB H bs v) : DueB H' bs v := by
  rcases h with h | ⟨pre, post, B, t, h1, h2, h3, h4, ht⟩
  · exact .inl h
  · exact .inr ⟨pre, post, B, t, h1, h2, h3, h4, k _ _ (pool_tup hP ht) ht⟩
theorem DueB.same {H H' : Hp} {bs : List Bk} {v : V} (s : Same H H') (h : DueB H bs v) : DueB H' bs v := by
  rcases h with h | ⟨pre, post, B, t, h1, h2, h3, h4, ht⟩
  · exact .inl h
  · exact .inr ⟨pre, post, B, t, h1, h2, h3, h4, s _ _ ht⟩
theorem last_inj {bs : List Bk} (h : ∀ (i : Nat) (B : Bk), bs[i]? = some B → ∃ l, tl B.name = l ++ [48 + i]) : (bs.map Bk.name).Nodup := by
  show List.Pairwise (· ≠ ·) _
  rw [List.pairwise_iff_getElem]
  intro i j hi hj hij e
  rw [List.length_map] at hi hj
  rw [List.getElem_map, List.getElem_map] at e
  obtain ⟨l, h1⟩ := h i _ (List.getElem?_eq_getElem hi)
  obtain ⟨m, h2⟩ := h j _ (List.getElem?_eq_getElem hj)
  rw [e, h2] at h1
  have h3 := congrArg List.getLast? h1
  simp at h3
  omega
theorem DueB.ok {H : Hp} {n : Str} {bs : List Bk} {v : V} (hn : isName n = true) (hb : ∀ B ∈ bs, BkD B) (l : bs.length ≤ 3) (nd : (bs.map Bk.name).Nodup) (h : DueB H bs v) : DueOk H (uB n bs) v := by
  rcases h with ⟨e, h⟩ | ⟨pre, post, B, t, e, hp, hf, ev, ht⟩
  · exact .inl ⟨e, uB_s hn h (by omega) nd⟩
  · refine .inr ⟨t, _, "skip", ev, ht, many_ok.2.2.2.2.1, many_ok.2.1, ?_⟩
    rw [uB_fault, e]
    have bd := hb B (by rw [e]; simp)
    have hk : B.kind ≠ "start" := by rw [bd.kind]; decide +kernel
    have := blocksFault_at (B := B) (post := post) (k := 0) (f := "skip") (by rw [bd.kind]; decide +kernel) (.inr ⟨hk, bd.name⟩) bd.ne (by rw [decide_eq_true hk]; exact hf) (pre := pre) (i := 2) (c := 0) (seen := []) hp (by rw [e, List.length_append] at l; omega) (by
      rw [e] at nd
      rw [List.nil_append]
      refine nd.sublist (List.Sublist.map _ ?_)
      exact List.Sublist.append_left (List.Sublist.cons₂ _ (List.nil_sublist _)) _)
    rw [this]
/-- what is read of a unit is what is due -/
theorem readC {K : PySem.W.Frag} {H : Hp} {c : Addr} {U : Un} {v : V} {Q : VK} (hc : H c = some (.lst (U.lines.map V.str))) (uf : UnF U) (ut : U.text.length ≤ 99000) (due : DueOk H U v)
    (q : ∀ (r : V) (d : PyData) H', Same H H' → Dp K H' r d → Dp K H' v d → SeqAt.shaped d = true → PyData.eqv d d = true → Q r H') : spLRead [.ref c] H Q E0 := by
  refine ⟨c, U, rfl, hc, uf, ut, ?_⟩
  rcases due with ⟨rfl, us⟩ | ⟨t, i, z, rfl, ht, lz, sz, hf⟩
  · exact .inl ⟨us, fun H' s => q _ (.bool true) H' s (.bl true) (.bl true) tru_lay.1 tru_lay.2⟩
  · exact .inr ⟨i, z, hf, fun t2 H' s h2 => q _ (.tuple [.int i, .str z]) H' s (.tup (SqT.of h2) (.cons (.int _) (.cons (.str _) .nil))) (.tup (SqT.of (s _ _ ht)) (.cons (.int _) (.cons (.str _) .nil))) (due_lay sz).1 (due_lay sz).2⟩
def stB (y : Rw) : Bk := ⟨"start", "", [y]⟩
theorem stB_f {y : Rw} (h : RwFit y) : BkF (stB y) := ⟨(show ("start" : Str) ∈ kindW by decide +kernel), .inl ⟨rfl, rfl⟩, by show (1 : Nat) ≤ 900; decide, fun r hr => by rw [List.mem_singleton.mp hr]; exact h⟩
theorem stB_s : BkS ["x"] (stB (.tell (.num 1))) where
  kind := by decide +kernel
  name := .inl ⟨rfl, rfl⟩
  ne := by simp [stB]
  many := by show (1 : Nat) ≤ 600; decide
  fit := fun r hr => by rw [List.mem_singleton.mp hr]; exact (show (1 : Int).natAbs ≤ 999999999 by decide)
  ops := fun r hr => by rw [List.mem_singleton.mp hr]; rfl
  skip := fun i r hr => by
    cases i with
    | zero => cases Option.some.inj hr; rfl
    | succ i => simp [stB] at hr
theorem stB_fault : rowsFault ["x"] false (stB (.tell (.own "y"))).rows 0 (stB (.tell (.own "y"))).rows = some (0, ("unknown" : Str)) := by
  have := rowsFault_at (cells := ["x"]) (arg := false) (rows := [Rw.tell (.own "y")]) (c := "unknown") (by decide +kernel) (l := [Rw.tell (.own "y")]) (i := 0) (n := 0) (r := .tell (.own "y")) (fun j x hj _ => by omega) rfl (by
    unfold rowFault
    rw [if_neg (by omega)]
    have e : opFault ["x"] false (Rw.tell (.own "y")).ops = "unknown" := by
      show (if ("y" : Str) ∉ [("x" : Str)] then _ else _) = _
      exact if_pos (by decide +kernel)
    rw [e, if_pos (by decide +kernel)])
  exact this
section
variable {P : Program} {w : World} {K : PySem.W.Frag} {mg : Str → Option Value} {base : Heap} {sa : Addr} {sx : List Int}
theorem Tx.cast (T : Tx K mg sa sx) (a : Addr) (x : List Int) : Tx K mg a x := by
  cases T
  constructor <;> assumption
def spLaw (K : PySem.W.Frag) : Sp := fun vs H Q _ => ∃ (a : Addr) (ns : List Int), vs = [.ref a] ∧ SqL K H a (ns.map V.int) ∧ ∀ H', Q (.bl true) H'
theorem ok_law (T0 : Tx K mg sa sx) (W : Wx K w) (hP : PF P) {fd : FuncData} (F : FunD K "law" "law" (defArgs s_law) (defBody s_law) (defScope s_law) [] [] (He.ga K "law") fd) : FnOk P w K mg base CX0 15 (He.ga K "law") fd ["_law_script"] (spLaw K) := by
  refine fnok F sc_law (fun vs H Q E h => ?_) (fun cdv A outer s H vs Q E hr h => ?_)
  · obtain ⟨a, ns, rfl, _⟩ := h; rfl
  · obtain ⟨a, ns, rfl, hS, k⟩ := h
    have T : Tx K mg a ns := T0.cast a ns
    refine ⟨_, (pss_cons (ps_set (i := 1) sc_law.nd rfl (by first | exact Or.inl rfl | exact Or.inr rfl) (pe_lst (pa_cons (pv 0) (pa_cons pe_int (pa_cons pe_int (pa_cons pe_int pa_nil))))))
    (pss_cons (ps_if (PW.pt (pw_or (pt_not (pt_val (pe_cal (ok_l_errors_hold T hP) hr (by decide) (pa_cons (pv 1) pa_nil)))) (pw_or1 (pt_not (pt_val (pe_cal (ok_l_errors_hold T hP) hr (by decide) (pa_cons (pv 1) pa_nil))))))) (pss_one (ps_ret pe_bl)) pss_nil)
    (pss_cons (ps_set (i := 2) sc_law.nd rfl (by first | exact Or.inl rfl | exact Or.inr rfl) (pe_lst (pa_cons (pe_op op_add_str pe_str (pe_cal (ok_l_name T) hr (by decide) (pa_cons (pv 1) (pa_cons pe_int pa_nil)))) (pa_cons pe_str pa_nil))))
    (pss_cons (ps_set (i := 3) sc_law.nd rfl (by first | exact Or.inl rfl | exact Or.inr rfl) (pe_op op_add pe_int (pe_cal (ok_l_draw T) hr (by decide) (pa_cons (pv 1) (pa_cons pe_int pa_nil)))))
    (pss_cons (ps_set (i := 4) sc_law.nd rfl (by first | exact Or.inl rfl | exact Or.inr rfl) (pe_op op_cat (pe_lst (pa_cons (pe_op op_add_str pe_str (pe_cal (ok_l_name T) hr (by decide) (pa_cons (pv 1) (pa_cons pe_int pa_nil)))) pa_nil)) (pe_cal (ok_l_block T) hr (by decide) (pa_cons (pv 1) (pa_cons (pv 3) (pa_cons (pe_op op_sub (pv 3) pe_int) pa_nil))))))
    (pss_cons (ps_set (i := 5) sc_law.nd rfl (by first | exact Or.inl rfl | exact Or.inr rfl) (pe_ifExp (pt_cmpR op_eq (pe_cal (ok_l_draw T) hr (by decide) (pa_cons (pv 1) (pa_cons pe_int pa_nil))) pe_int (nomark _)) (pe_lst (pa_cons pe_str (pa_cons pe_str pa_nil))) (pe_lst (pa_cons pe_str (pa_cons pe_str pa_nil)))))
    (pss_cons (ps_set (i := 6) sc_law.nd rfl (by first | exact Or.inl rfl | exact Or.inr rfl) (pe_ifExp (pt_cmpR op_gt (pv 3) pe_int (nomark _)) (pe_tup (pa_cons (pe_op op_add pe_int pe_int) (pa_cons pe_str pa_nil))) pe_bl))
    (pss_cons (ps_if (PW.pt (pw_and (pt_cmpR op_le (pv 3) pe_int (nomark _)) (pw_and1 (pt_cmpR op_eq (pe_ix ix_list (pv 5) pe_int (fun _ _ => rfl)) pe_str (nomark _))))) (pss_one (ps_set (i := 6) sc_law.nd rfl (by first | exact Or.inl rfl | exact Or.inr rfl) (pe_tup (pa_cons (pe_op op_add (pe_op op_add (pe_callB (id := "len") call_len_seq rfl (n_len T) (by decide +kernel) (pa_cons (pv 2) pa_nil)) (pe_callB (id := "len") call_len_seq rfl (n_len T) (by decide +kernel) (pa_cons (pv 4) pa_nil))) pe_int) (pa_cons pe_str pa_nil))))) pss_nil)
    (pss_cons (ps_if (pt_cmpR (op_neD hr.units) (pe_cal (ok_l_read T W hP) hr (by decide) (pa_cons (pe_op op_cat (pe_op op_cat (pv 2) (pv 4)) (pv 5)) pa_nil)) (pv 6) (nomark _)) (pss_one (ps_ret pe_bl)) pss_nil)
    (pss_cons (ps_set (i := 7) sc_law.nd rfl (by first | exact Or.inl rfl | exact Or.inr rfl) (pe_callTy (T := "list") call_list_of rfl (n_list T) (by decide +kernel) (pa_cons (pv 2) pa_nil)))
    (pss_cons (ps_set (i := 6) sc_law.nd rfl (by first | exact Or.inl rfl | exact Or.inr rfl) pe_bl)
    (pss_cons (ps_for PassesOwn.never rfl (pi_range1 rfl (n_range T) (pa_cons (pe_op op_add pe_int (pe_cal (ok_l_draw T) hr (by decide) (pa_cons (pv 1) (pa_cons pe_int pa_nil)))) pa_nil)) (pg_name (i := 8) sc_law.nd rfl (by first | exact Or.inl rfl | exact Or.inr rfl))
      (pss_cons (ps_set (i := 3) sc_law.nd rfl (by first | exact Or.inl rfl | exact Or.inr rfl) (pe_op op_add pe_int (pe_cal (ok_l_draw T) hr (by decide) (pa_cons (pv 1) (pa_cons pe_int pa_nil)))))
      (pss_cons (ps_set (i := 9) sc_law.nd rfl (by first | exact Or.inl rfl | exact Or.inr rfl) (pe_ifExp (pt_cmpR op_gt (pe_cal (ok_l_draw T) hr (by decide) (pa_cons (pv 1) (pa_cons pe_int pa_nil))) pe_int (nomark _)) (pe_op op_sub (pv 3) pe_int) (pe_cal (ok_l_pick T) hr (by decide) (pa_cons (pv 1) (pa_cons (pe_lst (pa_cons pe_int (pa_cons (pv 3) (pa_cons (pe_op op_add (pv 3) pe_int) (pa_cons pe_int (pa_cons (pe_un un_neg pe_int) pa_nil)))))) pa_nil)))))
      (pss_cons (ps_if (PW.pt (pw_and (pt_cmpR op_isTru (pv 6) pe_bl (nomark _)) (pw_and1 (pt_not (pt_chain op_le op_le pe_int (pv 9) (pe_op op_sub (pv 3) pe_int)))))) (pss_one (ps_set (i := 6) sc_law.nd rfl (by first | exact Or.inl rfl | exact Or.inr rfl) (pe_tup (pa_cons (pe_op op_add (pe_callB (id := "len") call_len_seq rfl (n_len T) (by decide +kernel) (pa_cons (pv 7) pa_nil)) pe_int) (pa_cons pe_str pa_nil))))) pss_nil)
      (pss_one (ps_set (i := 7) sc_law.nd rfl (by first | exact Or.inl rfl | exact Or.inr rfl) (pe_op op_cat (pe_op op_cat (pv 7) (pe_lst (pa_cons (pe_op op_add_str pe_str (pe_cal (ok_l_name T) hr (by decide) (pa_cons (pv 1) (pa_cons (pv 8) pa_nil)))) pa_nil))) (pe_cal (ok_l_block T) hr (by decide) (pa_cons (pv 1) (pa_cons (pv 3) (pa_cons (pv 9) pa_nil)))))))))))
    (pss_one (ps_ret (pe_cmpR (op_eqD hr.units) (pe_cal (ok_l_read T W hP) hr (by decide) (pa_cons (pv 7) pa_nil)) (pv 6) (nomark _)))))))))))))))), ?_⟩
    -- the pool, the errors twice
    refine ⟨_, rfl, sz1 (by simp), fun p hp => ?_⟩
    have p0 : PoolAt K a ns (upd H p (.lst [V.ref a, V.int 0, V.int 0, V.int 43])) p :=
      ⟨0, 0, 43, upd_same, sq_new hS hp, (sq_new hS hp).elim (fun n => Kp.sl (p := p) (Kp.refl.new hp) n hS) (fun z => z _), by decide, by decide, by decide, by decide⟩
    refine ⟨_, rfl, p, rfl, p0, fun H1 k1 p1 => ?_⟩
    refine ⟨true, rfl, iteF ?_⟩
    refine ⟨_, rfl, p, rfl, p1, fun H2 k2 p2 => ⟨true, rfl, ?_⟩⟩
    clear k1 p1 k2 p0 H1 hp
    -- a unit of one long block
    refine ⟨_, rfl, p, 1, rfl, by decide, p2, fun nU H3 hnU _ k3 p3 => ?_⟩
    have lU := name_len hnU
    have l5 : (("unit " : Str)).length = 5 := by decide +kernel
    have l8 : (("routine " : Str)).length = 8 := by decide +kernel
    have l6 : (("inner " : Str)).length = 6 := by decide +kernel
    refine ⟨_, _, rfl, rfl, sz1 (by omega), sz1 (by simp), fun qh hqh => ?_⟩
    have nh : qh ≠ p := pool_ne p3 hqh
    have p4 := pool_new (o := .lst [V.str ("unit " ++ nU), V.str "cell x 0"]) p3 hqh
    have h4 : (upd H3 qh (.lst [V.str ("unit " ++ nU), V.str "cell x 0"])) qh = some (.lst [V.str ("unit " ++ nU), V.str "cell x 0"]) := upd_same
    generalize upd H3 qh (.lst [V.str ("unit " ++ nU), V.str "cell x 0"]) = H4 at p4 h4 ⊢
    clear p3 hqh k3 H3 p2 H2
    refine ⟨_, rfl, p, 11, rfl, by decide, io (by decide), p4, fun d H5 d0 d1 k5 p5 => ⟨_, _, rfl, rfl, ?_⟩⟩
    obtain ⟨size, es, z1, z2⟩ : ∃ size : Nat, (595 : Int) + d = size ∧ 595 ≤ size ∧ size ≤ 605 := ⟨((595 : Int) + d).toNat, by omega, by omega, by omega⟩
    show gName 3 (V.int ((595 : Int) + d)) _ _ _
    rw [es]
    have h5 := k5 _ _ nh h4
    clear k5 p4 h4 H4
    refine ⟨_, rfl, p, 2, rfl, by decide, p5, fun nB H6 hnB _ k6 p6 => ⟨_, _, rfl, rfl, sz1 (by have := name_len hnB; omega), sz1 (by simp), fun q1 hq1 => ?_⟩⟩
    have h6 := k6 _ _ nh h5
    have n1 : q1 ≠ p := pool_ne p6 hq1
    have p7 := pool_new (o := .lst [V.str ("routine " ++ nB)]) p6 hq1
    have h7 : (upd H6 q1 (.lst [V.str ("routine " ++ nB)])) q1 = some (.lst [V.str ("routine " ++ nB)]) := upd_same
    have h7h := (Same.new hq1 (o := .lst [V.str ("routine " ++ nB)])) _ _ h6
    generalize upd H6 q1 (.lst [V.str ("routine " ++ nB)]) = H7 at p7 h7 h7h ⊢
    clear k6 p6 h6 hq1 H6 p5 h5 H5
    refine ⟨_, rfl, _, rfl, _, rfl, _, _, rfl, rfl, p, size, (size : Int) - 1, rfl, by omega, by omega, by omega, p7, fun qb rows H8 nqb k8 p8 hqb lrows hrows => ?_⟩
    have lt : (txs rows).length = size := by unfold txs; rw [List.length_map, List.length_map]; exact lrows
    refine ⟨q1, qb, _, _, rfl, rfl, k8 _ _ n1 h7, hqb, sz1 (by rw [lt]; simp; omega), fun q2 hq2 => ?_⟩
    have s9 := Same.new hq2 (o := .lst ([V.str ("routine " ++ nB)] ++ txs rows))
    have h9h := s9 _ _ (k8 _ _ nh h7h)
    have h9 : (upd H8 q2 (.lst ([V.str ("routine " ++ nB)] ++ txs rows))) q2 = some (.lst ([V.str ("routine " ++ nB)] ++ txs rows)) := upd_same
    have p9 := pool_same p8 s9
    generalize upd H8 q2 (.lst ([V.str ("routine " ++ nB)] ++ txs rows)) = H9 at h9h h9 p9 ⊢
    clear s9 hq2 hqb p8 k8 H8 p7 h7 h7h H7
    have rb : RowsB size ((size : Int) - 1) rows := ⟨lrows, by omega, by omega, hrows⟩
    -- its end
    refine ⟨_, rfl, p, 2, rfl, by decide, io (by decide), p9, fun g HA _ _ kA pA => ⟨rfl, _, rfl, ?_⟩⟩
    have hAh := kA _ _ nh h9h
    have n2 : q2 ≠ p := by
      rintro rfl
      obtain ⟨_, _, _, e, _⟩ := p9
      rw [h9] at e
      cases e
    have hA9 := kA _ _ n2 h9
    clear h9h h9 kA p9 H9
    refine' brS (S := fun v H' => ∃ (qt : Addr) (y : Rw), v = .ref qt ∧ Same HA H' ∧ H' qt = some (.lst [V.str "start", V.str y.tx]) ∧ (y = .tell (.own "y") ∨ y = .tell (.num 1))) (fun fin _ => ?g1) (fun fin _ => ?g2) ?g3
    case g1 =>
      refine ⟨sz1 (by simp), fun qt ht => ?_⟩
      have sB := Same.new ht (o := .lst [V.str "start", V.str "tell $y"])
      have hB : (upd HA qt (.lst [V.str "start", V.str "tell $y"])) qt = some (.lst [V.str "start", V.str "tell $y"]) := upd_same
      generalize upd HA qt (.lst [V.str "start", V.str "tell $y"]) = HB at sB hB ⊢
      generalize hv : V.ref qt = v
      exact fin v HB ⟨qt, .tell (.own "y"), hv.symm, sB, by rw [hB, show Rw.tx (.tell (.own "y")) = ("tell $y" : Str) by decide +kernel], .inl rfl⟩
    case g2 =>
      refine ⟨sz1 (by simp), fun qt ht => ?_⟩
      have sB := Same.new ht (o := .lst [V.str "start", V.str "tell 1"])
      have hB : (upd HA qt (.lst [V.str "start", V.str "tell 1"])) qt = some (.lst [V.str "start", V.str "tell 1"]) := upd_same
      generalize upd HA qt (.lst [V.str "start", V.str "tell 1"]) = HB at sB hB ⊢
      generalize hv : V.ref qt = v
      exact fin v HB ⟨qt, .tell (.num 1), hv.symm, sB, by rw [hB, show Rw.tx (.tell (.num 1)) = ("tell 1" : Str) by decide +kernel], .inr rfl⟩
    rintro _ HB ⟨qt, y, rfl, sB, hqt, hy⟩
    have hBh := sB _ _ hAh
    have hB2 := sB _ _ hA9
    have pB := pool_same pA sB
    clear hAh hA9 pA sB HA
    have ks : (("shared" : Str) ∈ kindW ∧ ("shared" : Str) ≠ "start") := by decide +kernel
    have kd : decide (("shared" : Str) ≠ "start") = true := by decide +kernel
    have nBe : nB ≠ "" := fun z => by rw [z] at hnB; exact absurd hnB (by decide +kernel)
    have bkf : BkF ⟨"shared", nB, rows⟩ := rb.f ks.1 ks.2 hnB
    have rne : rows ≠ [] := fun z => by rw [z] at lrows; simp at lrows; omega
    have yfit : RwFit y := by
      rcases hy with rfl | rfl
      · exact (by decide +kernel : isName "y" = true)
      · exact (show (1 : Int).natAbs ≤ 999999999 by decide)
    have nd2 : ((([] : List Str) ++ (([⟨"shared", nB, rows⟩] : List Bk) ++ [stB y]).map Bk.name)).Nodup := by
      show ([nB, ""] : List Str).Nodup
      simp [nBe]
    have l4 : (600 : Nat) = 600 := rfl
    obtain ⟨U1, eU⟩ : ∃ U1, U1 = uB nU [⟨"shared", nB, rows⟩, stB y] := ⟨_, rfl⟩
    dsimp only [gName]
    refine seq2 (fun σ' H' => ∃ v : V, σ' = ([some (.ref a), some (.ref p), some (.ref qh), some (.int (size : Nat)), some (.ref q2), some (.ref qt), some v, none, none, none] : L2.St) ∧ Same HB H' ∧ ((600 < size ∧ DueOk H' U1 v) ∨ (size ≤ 600 ∧ v = .bl true ∧ H' = HB))) ?_ fun N fin => ?_
    rotate_left
    · refine ⟨_, rfl, _, _, rfl, rfl, _, rfl, ?_⟩
      refine dC (fun c => ?_) (fun c => ?_)
      · have c : 600 < size := by omega
        refine ⟨_, _, rfl, rfl, sz1 (by simp), fun t ht => ?_⟩
        have sC := Same.new ht (o := .tup [V.int ((602 : Int) + 1), V.str "many"])
        have hC : (upd HB t (.tup [V.int ((602 : Int) + 1), V.str "many"])) t = some (.tup [V.int ((603 : Nat) : Int), V.str "many"]) := upd_same
        have dC0 : DueOk (upd HB t (.tup [V.int ((602 : Int) + 1), V.str "many"])) U1 (.ref t) := .inr ⟨t, 603, "many", rfl, hC, many_ok.2.2.2.1, many_ok.1, by
          rw [eU, uB_fault]
          have hf : rowsFault ["x"] (decide ((⟨"shared", nB, rows⟩ : Bk).kind ≠ "start")) rows 0 rows = some (600, ("many" : Str)) := by rw [kd]; exact rb.many c (by omega) (by omega)
          exact blocksFault_at (B := ⟨"shared", nB, rows⟩) (post := [stB y]) ks.1 (.inr ⟨ks.2, hnB⟩) rne hf (pre := []) (i := 2) (c := 0) (seen := []) (fun _ h => by cases h) (by decide) (by simp)⟩
        exact fin _ _ ⟨.ref t, rfl, sC, .inl ⟨c, dC0⟩⟩
      · have c : size ≤ 600 := by omega
        exact fin _ _ ⟨.bl true, rfl, Cm.Same.refl _, .inr ⟨c, rfl, rfl⟩⟩
    rintro _ HC0 ⟨v0, rfl, sC0, hv0⟩
    refine seq2 (fun σ' H' => ∃ v : V, σ' = ([some (.ref a), some (.ref p), some (.ref qh), some (.int (size : Nat)), some (.ref q2), some (.ref qt), some v, none, none, none] : L2.St) ∧ Same HB H' ∧ DueOk H' U1 v) ?_ fun N fin => ?_
    rotate_left
    · refine ⟨_, rfl, _, _, rfl, rfl, _, rfl, ?_⟩
      rcases hv0 with ⟨c, dC0⟩ | ⟨c, rfl, eH⟩
      · refine dC (fun c2 => by omega) (fun _ => ?_)
        refine iteF ?_
        exact fin _ _ ⟨v0, rfl, sC0, dC0⟩
      subst HC0
      have good : BkS ["x"] ⟨"shared", nB, rows⟩ := rb.good ks.1 ks.2 hnB c (by omega) (by omega)
      refine dC (fun _ => ?_) (fun c2 => by omega)
      refine ⟨_, rfl, qt, _, 1, _, rfl, rfl, SqL.of hqt, atI_nat (j := 1) rfl, rfl, _, rfl, ?_⟩
      rcases hy with rfl | rfl
      · refine tT (by decide +kernel) ?_
        refine ⟨_, rfl, qh, _, rfl, .inl (SqL.of hBh), _, rfl, q2, _, rfl, .inl (SqL.of hB2), _, _, rfl, rfl, _, _, rfl, rfl, sz1 (by simp), fun t ht => ?_⟩
        have en : (((([V.str ("unit " ++ nU), V.str "cell x 0"] : List V).length : Nat) : Int) + ((([V.str ("routine " ++ nB)] ++ txs rows).length : Nat) : Int) + 1) = ((2 + bksLen [⟨"shared", nB, rows⟩] + 1 + 0 : Nat) : Int) := by
          have e1 : ([V.str ("routine " ++ nB)] ++ txs rows).length = 1 + size := by rw [List.length_append, lt]; rfl
          have e2 : bksLen [(⟨"shared", nB, rows⟩ : Bk)] = 1 + size := by unfold bksLen; rw [← lrows]; simp
          rw [e1, e2]
          show (((2 : Nat) : Int) + ((1 + size : Nat) : Int) + 1) = _
          omega
        have sC := Same.new ht (o := .tup [V.int (((([V.str ("unit " ++ nU), V.str "cell x 0"] : List V).length : Nat) : Int) + ((([V.str ("routine " ++ nB)] ++ txs rows).length : Nat) : Int) + 1), V.str "unknown"])
        have dC0 : DueOk (upd HB t (.tup [V.int (((([V.str ("unit " ++ nU), V.str "cell x 0"] : List V).length : Nat) : Int) + ((([V.str ("routine " ++ nB)] ++ txs rows).length : Nat) : Int) + 1), V.str "unknown"])) U1 (.ref t) := .inr ⟨t, _, "unknown", rfl, by rw [upd_same, en], many_ok.2.2.2.2.2, many_ok.2.2.1, by
          rw [eU, uB_fault]
          exact blocksFault_at (B := stB (.tell (.own "y"))) (post := []) (show ("start" : Str) ∈ kindW by decide +kernel) (.inl ⟨rfl, rfl⟩) (by simp [stB]) (by rw [show decide ((stB (.tell (.own "y"))).kind ≠ "start") = false from rfl]; exact stB_fault) (pre := [⟨"shared", nB, rows⟩]) (i := 2) (c := 0) (seen := []) (fun C h => by rw [List.mem_singleton.mp h]; exact good) (by show 0 + 1 < 20; decide) nd2⟩
        exact fin _ _ ⟨.ref t, rfl, sC, dC0⟩
      · refine tF (by decide +kernel) ?_
        have dC0 : DueOk HB U1 (.bl true) := .inl ⟨rfl, by
          rw [eU]
          refine uB_s hnU (fun B hB => ?_) (by show (2 : Nat) ≤ 20; decide) nd2
          simp only [List.mem_cons, List.not_mem_nil, or_false] at hB
          rcases hB with rfl | rfl
          · exact good
          · exact stB_s⟩
        exact fin _ _ ⟨.bl true, rfl, Cm.Same.refl _, dC0⟩
    rintro _ HC ⟨v, rfl, sC, due⟩
    clear hv0 sC0 HC0 v0
    have hCh := sC _ _ hBh
    have hC2 := sC _ _ hB2
    have hCt := sC _ _ hqt
    have pC := pool_same pB sC
    clear sC hBh hB2 hqt pB HB
    -- read
    refine ⟨_, rfl, _, rfl, qh, q2, _, _, rfl, rfl, hCh, hC2, sz1 (by rw [List.length_append, lt]; simp; omega), fun c1 hc1 => ?_⟩
    have s1 := Same.new hc1 (o := .lst ([V.str ("unit " ++ nU), V.str "cell x 0"] ++ ([V.str ("routine " ++ nB)] ++ txs rows)))
    refine ⟨_, rfl, c1, qt, _, _, rfl, rfl, upd_same, s1 _ _ hCt, sz1 (by rw [List.length_append, List.length_append, lt]; simp; omega), fun c2 hc2 => ?_⟩
    have s2 := s1.trans (Same.new hc2 (o := .lst ([V.str ("unit " ++ nU), V.str "cell x 0"] ++ ([V.str ("routine " ++ nB)] ++ txs rows) ++ [V.str "start", V.str y.tx])))
    have eL : [V.str ("unit " ++ nU), V.str "cell x 0"] ++ ([V.str ("routine " ++ nB)] ++ txs rows) ++ [V.str "start", V.str y.tx] = U1.lines.map V.str := by
      rw [eU, uB_lines]
      have e1 : Bk.lines ⟨"shared", nB, rows⟩ = ("routine " ++ nB) :: rows.map Rw.tx := by unfold Bk.lines; rw [(head_k nB rows).1]
      have e2 : Bk.lines (stB y) = [("start" : Str), y.tx] := by unfold Bk.lines stB; rfl
      rw [List.flatMap_cons, List.flatMap_cons, List.flatMap_nil, e1, e2]
      unfold txs
      simp
    have h2 : (upd (upd HC c1 (.lst ([V.str ("unit " ++ nU), V.str "cell x 0"] ++ ([V.str ("routine " ++ nB)] ++ txs rows)))) c2 (.lst ([V.str ("unit " ++ nU), V.str "cell x 0"] ++ ([V.str ("routine " ++ nB)] ++ txs rows) ++ [V.str "start", V.str y.tx]))) c2 = some (.lst (U1.lines.map V.str)) := by rw [upd_same, eL]
    have uf : UnF U1 := by
      rw [eU]
      refine uB_f hnU (fun B hB => ?_) (by show (2 : Nat) ≤ 20; decide)
      simp only [List.mem_cons, List.not_mem_nil, or_false] at hB
      rcases hB with rfl | rfl
      · exact bkf
      · exact stB_f yfit
    have ut : U1.text.length ≤ 99000 := by
      rw [eU]
      have := uB_text (n := nU) (bs := [⟨"shared", nB, rows⟩, stB y]) hnU fun B hB => by
        simp only [List.mem_cons, List.not_mem_nil, or_false] at hB
        rcases hB with rfl | rfl
        · refine ⟨by rw [(head_k nB rows).1, app_len]; have := name_len hnB; omega, fun r hr => ?_⟩
          obtain ⟨i, hi, e⟩ := List.mem_iff_getElem.mp hr
          exact (hrows i r (by rw [List.getElem?_eq_getElem hi, e])).len
        · refine ⟨by show (("start" : Str)).length ≤ 100; decide +kernel, fun r hr => ?_⟩
          rw [List.mem_singleton.mp hr]
          rcases hy with rfl | rfl <;> decide +kernel
      have e2 : bksLen [(⟨"shared", nB, rows⟩ : Bk), stB y] = 1 + size + 2 := by unfold bksLen; rw [← lrows]; simp [stB]
      rw [e2] at this
      omega
    have due2 := due.same s2
    generalize upd (upd HC c1 (.lst ([V.str ("unit " ++ nU), V.str "cell x 0"] ++ ([V.str ("routine " ++ nB)] ++ txs rows)))) c2 (.lst ([V.str ("unit " ++ nU), V.str "cell x 0"] ++ ([V.str ("routine " ++ nB)] ++ txs rows) ++ [V.str "start", V.str y.tx])) = HD at s2 h2 due2 ⊢
    dsimp only [tNil]
    refine readC (K := K) h2 uf ut due2 fun r dd HE sE dp1 dp2 sh ev => ?_
    refine ⟨_, rfl, _, _, dp1, dp2, sh, sh, _, rfl, ?_⟩
    rw [ev]
    refine iteF ?_
    have sF := s2.trans sE
    have hE := sF _ _ hCh
    have pE := pool_same pC sF
    clear dp1 dp2 sh ev dd r due2 due h2 ut uf eL s1 s2 sF hc1 hc2 c1 c2 sE hCh hC2 hCt pC HC
    -- a unit of up to three blocks
    refine ⟨_, rfl, qh, _, rfl, .inl (SqL.of hE), fun ql hl => ?_⟩
    have nl : ql ≠ p := pool_ne pE hl
    have pF := pool_new (o := .lst [V.str ("unit " ++ nU), V.str "cell x 0"]) pE hl
    have hF : (upd HE ql (.lst [V.str ("unit " ++ nU), V.str "cell x 0"])) ql = some (.lst ((uB nU []).lines.map V.str)) := by rw [upd_same, uB_lines]; rfl
    generalize upd HE ql (.lst [V.str ("unit " ++ nU), V.str "cell x 0"]) = HF at pF hF ⊢
    clear hE pE hl HE
    refine ⟨_, rfl, p, 3, rfl, by decide, io (by decide), pF, fun n HG n0 n3 kG pG => ⟨_, _, rfl, rfl, _, rfl, by omega, by omega, ?_⟩⟩
    have hG := kG _ _ nl hF
    clear hF pF kG HF
    refine for_range (lo := 0) (n := ((1 : Int) + n).toNat) (fun j σ H' => ∃ (v3 v8 v9 : Option V) (v6 : V) (qL : Addr) (bs : List Bk), σ = [some (.ref a), some (.ref p), some (.ref qh), v3, some (.ref q2), some (.ref qt), some v6, some (.ref qL), v8, v9] ∧ PoolAt K a ns H' p ∧ H' qL = some (.lst ((uB nU bs).lines.map V.str)) ∧ qL ≠ p ∧ bs.length = j ∧
      (∀ B ∈ bs, BkD B) ∧ (∀ (i : Nat) (B : Bk), bs[i]? = some B → ∃ l, tl B.name = l ++ [48 + i]) ∧ bksLen bs ≤ j * 211 ∧ DueB H' bs v6) ⟨_, _, _, .bl true, ql, [], rfl, pG, hG, nl, rfl, fun B hB => (by cases hB), fun i B hB => (by simp at hB), by simp [bksLen], .inl ⟨rfl, fun B hB => (by cases hB)⟩⟩ ?_ ?_
    · rintro j σ H1 hj ⟨v3, v8, v9, v6, qL, bs, rfl, p1, h1, n1, lb, hbd, hnm, lbk, db⟩
      have hj3 : j < 3 := by omega
      have l211 : j * 211 ≤ 2 * 211 := Nat.mul_le_mul_right _ (by omega)
      refine ⟨_, rfl, p, 21, rfl, by decide, io (by decide), p1, fun d H2 d0 d1 k2 p2 => ⟨_, _, rfl, rfl, ?_⟩⟩
      obtain ⟨sz, esz, y1, y2⟩ : ∃ sz : Nat, (190 : Int) + d = sz ∧ 190 ≤ sz ∧ sz ≤ 210 := ⟨((190 : Int) + d).toNat, by omega, by omega, by omega⟩
      show gName 3 (V.int ((190 : Int) + d)) _ _ _
      rw [esz]
      have h2 := k2 _ _ n1 h1
      have db2 := db.kp p1 k2
      dsimp only [gName]
      refine seq2 (fun σ' H' => ∃ skip : Int, σ' = ([some (.ref a), some (.ref p), some (.ref qh), some (.int (sz : Nat)), some (.ref q2), some (.ref qt), some v6, some (.ref qL), some (.int (0 + (j : Nat))), some (.int skip)] : L2.St) ∧ skip.natAbs ≤ 1000 ∧ Kp p H2 H' ∧ PoolAt K a ns H' p) ?_ fun N fin => ?_
      rotate_left
      · refine ⟨_, rfl, p, 4, rfl, by decide, io (by decide), p2, fun g H3 _ _ k3 p3 => ⟨_, _, rfl, rfl, _, rfl, ?_⟩⟩
        refine dC (fun _ => ?_) (fun _ => ?_)
        · exact ⟨_, rfl, _, _, rfl, rfl, fin _ _ ⟨_, rfl, by omega, k3, p3⟩⟩
        · refine ⟨_, rfl, _, rfl, _, rfl, _, _, rfl, rfl, _, rfl, sz1 (by simp), fun qq hq => ⟨p, qq, _, rfl, upd_same, by simp, by simp, pool_ne p3 hq, pool_new p3 hq, fun v H4 hv k4 p4 => ?_⟩⟩
          have kk := k3.trans ((Same.new hq).kp.trans k4)
          simp only [List.mem_cons, List.not_mem_nil, or_false] at hv
          rcases hv with rfl | rfl | rfl | rfl | rfl
          · exact fin _ _ ⟨_, rfl, by decide, kk, p4⟩
          · exact fin _ _ ⟨_, rfl, by omega, kk, p4⟩
          · exact fin _ _ ⟨_, rfl, by omega, kk, p4⟩
          · exact fin _ _ ⟨_, rfl, by decide, kk, p4⟩
          · exact fin _ _ ⟨_, rfl, by decide, kk, p4⟩
      rintro _ H4 ⟨skip, rfl, hsk, k4, p4⟩
      have h4 := k4 _ _ n1 h2
      have db4 := db2.kp p2 k4
      clear h2 db2 k4 p2 k2 h1 db p1 d0 d1
      refine seq2 (fun σ' H' => ∃ v : V, σ' = ([some (.ref a), some (.ref p), some (.ref qh), some (.int (sz : Nat)), some (.ref q2), some (.ref qt), some v, some (.ref qL), some (.int (0 + (j : Nat))), some (.int skip)] : L2.St) ∧ Same H4 H' ∧
        ((v = .bl true ∧ (∀ B ∈ bs, BkS ["x"] B) ∧ 1 ≤ skip ∧ skip ≤ (sz : Int) - 1) ∨ (∃ t, v = .ref t ∧ (∀ B ∈ bs, BkS ["x"] B) ∧ ¬ (1 ≤ skip ∧ skip ≤ (sz : Int) - 1) ∧ H' t = some (.tup [.int ((2 + bksLen bs + 1 : Nat) : Int), .str "skip"])) ∨ ((∀ b, v ≠ .bl b) ∧ DueB H' bs v))) ?_ fun N fin => ?_
      rotate_left
      · have ln : (((uB nU bs).lines.map V.str).length : Int) + 1 = ((2 + bksLen bs + 1 : Nat) : Int) := by
          rw [List.length_map, uB_lines, List.length_append, bks_lines]
          show ((2 + bksLen bs : Nat) : Int) + 1 = _
          omega
        rcases db4 with ⟨rfl, hg⟩ | db5
        · refine ⟨_, rfl, rfl, .inl ⟨rfl, _, rfl, ?_⟩⟩
          refine iteT ?_
          refine ⟨_, rfl, _, _, rfl, rfl, _, rfl, ?_⟩
          refine dC (fun c1 => ?_) (fun c1 => ?_)
          · refine ⟨_, rfl, _, _, rfl, rfl, _, _, rfl, rfl, _, rfl, ?_⟩
            refine uC (c := skip ≤ (sz : Int) - 1) (fun c2 => ?_) (fun c2 => ?_)
            · refine ⟨_, rfl, qL, _, rfl, .inl (SqL.of h4), _, _, rfl, rfl, sz1 (by simp), fun t ht => ?_⟩
              exact fin _ _ ⟨.ref t, rfl, Same.new ht, .inr (.inl ⟨t, rfl, hg, fun z => c2 z.2, by rw [upd_same]; dsimp only; rw [ln]⟩)⟩
            · exact fin _ _ ⟨.bl true, rfl, Cm.Same.refl _, .inl ⟨rfl, hg, c1, c2⟩⟩
          · refine ⟨_, rfl, ?_⟩
            refine iteT ?_
            refine ⟨_, rfl, qL, _, rfl, .inl (SqL.of h4), _, _, rfl, rfl, sz1 (by simp), fun t ht => ?_⟩
            exact fin _ _ ⟨.ref t, rfl, Same.new ht, .inr (.inl ⟨t, rfl, hg, fun z => c1 z.1, by rw [upd_same]; dsimp only; rw [ln]⟩)⟩
        · obtain ⟨pre, post, B, t, e1, e2, e3, rfl, e5⟩ := db5
          refine ⟨_, rfl, rfl, .inr ⟨t, rfl, _, rfl, ?_⟩⟩
          refine iteF ?_
          exact fin _ _ ⟨.ref t, rfl, Cm.Same.refl _, .inr (.inr ⟨fun b z => (nomatch z), .inr ⟨pre, post, B, t, e1, e2, e3, rfl, e5⟩⟩)⟩
      rintro _ H5 ⟨v, rfl, s5, hv⟩
      have h5 := s5 _ _ h4
      have p5 := pool_same p4 s5
      clear h4 p4 s5 db4 H4
      have ej : ([V.ref p, V.int ((0 : Int) + (j : Nat))] : List V) = [V.ref p, V.int ((j : Nat) : Int)] := by rw [Int.zero_add]
      refine ⟨_, rfl, _, rfl, _, rfl, p, j, ej, by omega, p5, fun nI H6 hnI eI k6 p6 => ⟨_, _, rfl, rfl, sz1 (by have := name_len hnI; omega), sz1 (by simp), fun q3 h3 => ?_⟩⟩
      have lI := name_len hnI
      have h6 := k6 _ _ n1 h5
      have n3 : q3 ≠ p := pool_ne p6 h3
      have p7 := pool_new (o := .lst [V.str ("inner " ++ nI)]) p6 h3
      have s7 := Same.new h3 (o := .lst [V.str ("inner " ++ nI)])
      have h7 := s7 _ _ h6
      have h73 : (upd H6 q3 (.lst [V.str ("inner " ++ nI)])) q3 = some (.lst [V.str ("inner " ++ nI)]) := upd_same
      have k7 := k6.trans (s7.kp (p := p))
      generalize upd H6 q3 (.lst [V.str ("inner " ++ nI)]) = H7 at p7 h7 h73 k7 ⊢
      clear s7 h3 p6 k6 h6 H6
      have lln : ((uB nU bs).lines.map V.str).length ≤ 700 := by
        rw [List.length_map, uB_lines, List.length_append, bks_lines]
        show 2 + bksLen bs ≤ 700
        omega
      refine ⟨qL, q3, _, _, rfl, rfl, h7, h73, sz1 (by simp only [List.length_cons, List.length_nil]; omega), fun q4 h4 => ?_⟩
      have s8 := Same.new h4 (o := .lst ((uB nU bs).lines.map V.str ++ [V.str ("inner " ++ nI)]))
      have n4 : q4 ≠ p := pool_ne p7 h4
      have h84 : (upd H7 q4 (.lst ((uB nU bs).lines.map V.str ++ [V.str ("inner " ++ nI)]))) q4 = some (.lst ((uB nU bs).lines.map V.str ++ [V.str ("inner " ++ nI)])) := upd_same
      have p8 := pool_same p7 s8
      have k8 := k7.trans (s8.kp (p := p))
      generalize upd H7 q4 (.lst ((uB nU bs).lines.map V.str ++ [V.str ("inner " ++ nI)])) = H8 at h84 p8 k8 ⊢
      clear s8 h4 k7 h73 h7 p7 H7
      refine ⟨_, rfl, _, rfl, _, rfl, p, sz, skip, rfl, by omega, by omega, hsk, p8, fun qb rows2 H9 nqb k9 p9 hqb lrows2 hrows2 => ?_⟩
      have lt2 : (txs rows2).length = sz := by unfold txs; rw [List.length_map, List.length_map]; exact lrows2
      refine ⟨q4, qb, _, _, rfl, rfl, k9 _ _ n4 h84, hqb, sz1 (by rw [List.length_append, lt2]; simp only [List.length_cons, List.length_nil]; omega), fun q5 h5' => ?_⟩
      have sT := Same.new h5' (o := .lst ((uB nU bs).lines.map V.str ++ [V.str ("inner " ++ nI)] ++ txs rows2))
      have pT := pool_same p9 sT
      have kT := (k8.trans k9).trans (sT.kp (p := p))
      have rb2 : RowsB sz skip rows2 := ⟨lrows2, by omega, by omega, hrows2⟩
      have ki : (("inner" : Str) ∈ kindW ∧ ("inner" : Str) ≠ "start") := by decide +kernel
      have rne2 : rows2 ≠ [] := fun z => by rw [z] at lrows2; simp at lrows2; omega
      obtain ⟨B2, eB2⟩ : ∃ B2 : Bk, B2 = ⟨"inner", nI, rows2⟩ := ⟨_, rfl⟩
      have eL2 : (uB nU bs).lines.map V.str ++ [V.str ("inner " ++ nI)] ++ txs rows2 = (uB nU (bs ++ [B2])).lines.map V.str := by
        rw [uB_lines, uB_lines, List.flatMap_append, List.flatMap_cons, List.flatMap_nil]
        have e1 : Bk.lines B2 = ("inner " ++ nI) :: rows2.map Rw.tx := by rw [eB2]; unfold Bk.lines; rw [(head_k nI rows2).2]
        rw [e1]
        unfold txs
        simp
      refine ⟨_, _, _, v, q5, bs ++ [B2], rfl, pT, by rw [upd_same, eL2], pool_ne p9 h5', by rw [List.length_append, lb]; rfl, fun B hB => ?_, fun i B hB => ?_, ?_, ?_⟩
      · rcases List.mem_append.mp hB with hB | hB
        · exact hbd B hB
        · rw [List.mem_singleton.mp hB, eB2]
          refine ⟨rfl, hnI, rb2.f ki.1 ki.2 hnI, ⟨by rw [(head_k nI rows2).2, app_len]; omega, fun r hr => ?_⟩, rne2⟩
          obtain ⟨i, hi, e⟩ := List.mem_iff_getElem.mp hr
          exact (hrows2 i r (by rw [List.getElem?_eq_getElem hi, e])).len
      · by_cases c : i < bs.length
        · rw [List.getElem?_append_left c] at hB; exact hnm i B hB
        · rw [List.getElem?_append_right (by omega)] at hB
          have ei : i - bs.length = 0 := by
            have := (List.getElem?_eq_some_iff.mp hB).1
            simp at this; omega
          rw [ei] at hB
          cases Option.some.inj hB
          rw [show i = j by omega, eB2]; exact eI
      · have : bksLen (bs ++ [B2]) = bksLen bs + (1 + sz) := by unfold bksLen; rw [List.map_append, List.sum_append, eB2, ← lrows2]; simp
        rw [this]
        have : (j + 1) * 211 = j * 211 + 211 := by omega
        omega
      · rcases hv with ⟨rfl, hg, c1, c2⟩ | ⟨t, rfl, hg, cb, ht⟩ | ⟨nb, dv⟩
        · refine .inl ⟨rfl, fun B hB => ?_⟩
          rcases List.mem_append.mp hB with hB | hB
          · exact hg B hB
          · rw [List.mem_singleton.mp hB, eB2]; exact rb2.good ki.1 ki.2 hnI (by omega) c1 c2
        · exact .inr ⟨bs, [], B2, t, rfl, hg, by rw [eB2]; exact rb2.bad (by omega) cb, rfl, kT _ _ (pool_tup p5 ht) ht⟩
        · rcases (dv.kp p5 kT) with ⟨e, _⟩ | ⟨pre, post, B, t, e1, e2, e3, e4, e5⟩
          · exact absurd e (nb true)
          · exact .inr ⟨pre, post ++ [B2], B, t, by rw [e1, List.append_assoc]; rfl, e2, e3, e4, e5⟩
    · rintro σ H1 ⟨v3, v8, v9, v6, qL, bs, rfl, p1, h1, n1, lb, hbd, hnm, lbk, db⟩
      have lb3 : bs.length ≤ 3 := by omega
      have uf : UnF (uB nU bs) := uB_f hnU (fun B hB => (hbd B hB).f) (by omega)
      have ut : (uB nU bs).text.length ≤ 99000 := by
        have := uB_text hnU fun B hB => (hbd B hB).len
        have l2 : bs.length * 211 ≤ 3 * 211 := Nat.mul_le_mul_right _ lb3
        rw [← lb] at lbk
        have l3 : (2 + bksLen bs) * 101 ≤ (2 + 633) * 101 := Nat.mul_le_mul_right _ (by omega)
        omega
      have due := DueB.ok hnU hbd lb3 (last_inj hnm) db
      refine ⟨_, rfl, ?_⟩
      dsimp only [tNil]
      refine readC (K := K) h1 uf ut due fun r dd HE sE dp1 dp2 sh ev => ?_
      refine ⟨_, rfl, _, _, dp1, dp2, sh, sh, ?_⟩
      rw [ev]
      exact k _
end
end K88
open PySem PySem.W PySem.Calls PyProof.Rows
theorem PySem.Challenge.cw_quietedition_k88_errors_and_long_units_holds : PySem.Challenge.rw_quietedition_k88_errors_and_long_units.Holds := by
  w_on; o_law
  refine HandSHeadRun.head_any (r := OpenLaw.row PySem.Challenge.rw_quietedition_k88_errors_and_long_units) (q := view (OpenLaw.row PySem.Challenge.rw_quietedition_k88_errors_and_long_units).prog [78]) (H := K88.hkz 4) (ob := K88.ob) (M := 9000) (loose := K88.loose) (d := HandSHeadRun.topDef (OpenLaw.row PySem.Challenge.rw_quietedition_k88_errors_and_long_units).prog 78) (kwd := []) K88.ob_eq
    (by kernel_rfl) (fun s => by kernel_rfl) K88.run (by kernel_rfl) (by kernel_rfl) (by kernel_rfl) (by rfl) (by first | assumption | decide +kernel) (by decide +kernel) ⟨rfl, rfl, rfl, rfl, rfl, by decide +kernel⟩ ?hw ?hc
  case hw => w_witness2
  case hc =>
    refine L2.walk_ofE (l := PySem.Challenge.rw_quietedition_k88_errors_and_long_units) (n := 63) (k := 15) (x := "_law_script") (CX := L2.CX0) rfl (by decide) (by kernel_rfl) ⟨rfl, by decide, by decide⟩ ?F (fun _ _ _ _ z => z)
    intro w mg fa h Y G g0
    obtain ⟨K, KX, c, cw, ct, ck⟩ := Y
    have gl : mg ("law" : PySem.Str) = some (.ref fa) := by
      have nm : (HandSHeadRun.topDef (OpenLaw.row PySem.Challenge.rw_quietedition_k88_errors_and_long_units).prog 78).name = ("law" : PySem.Str) := by kernel_rfl
      rw [← nm]
      exact g0
    have T : K88.Tx K mg (0 : Addr) [] := K88.tx_of KX G c ck cw
    obtain ⟨fd, F⟩ := K88.f_law T
    cases gl.symm.trans (K88.g_law T)
    have b := L2.FunD.bindsA (ps := ["_law_script"]) F fun _ _ _ _ _ _ us hl => match us, hl with | [_], _ => rfl
    exact ⟨K, fd, K88.spLaw K, KX, fun s v => b s [v] rfl, fun _ a ns _ _ q => ⟨a, ns, rfl, q, fun _ => rfl⟩, fun _ _ _ => K88.ok_law T ct ⟨by rfl, by decide +kernel⟩ F⟩
